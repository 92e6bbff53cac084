/- Open: the log of a part of a disk, and its records. -/
import Derived.Test.YticiaiiedagalaaJH
namespace Go.Proofs.Yticiaiiedagalaa.dk
open Go.PlainAid Go.ChangeShapes Go.WideShapes Go.ChangeAt Go.RowKit

theorem pcF_fact (now : List Int) (frm : Nat) (hb : Bys now) (i : Nat) (l : List Int) (h : pcF now frm i = some l) : l.length = 64 ∧ Bys l ∧ isP l = true ∧ l = secOf now (frm + i) := by
  unfold pcF pcOf at h
  split at h
  · rename_i hp
    injection h with h
    subst h
    refine ⟨?_, (hb.drop _).take _, hp, rfl⟩
    unfold isP at hp
    simp only [Bool.and_eq_true, decide_eq_true_eq] at hp
    exact hp.1.1.1
  · cases h
/-- What is told of a part: the place, the number behind, the records. -/
def toldOf (now : List Int) (frm n : Nat) : Nat × Int × List (List Int) := gathF (pcF now frm) n n 0 ((gr2 fN (pcF now frm) n + 1) % 4294967296) none []
def sesOf (now : List Int) (frm n : Nat) : Int := gr2 fS (pcF now frm) n
def logOf (D frm n : Nat) (now : List Int) : Lg := { d := D, frm := frm, n := n, place := (toldOf now frm n).1, num := (toldOf now frm n).2.1, ses := sesOf now frm n + 1, broken := false }
def OpenPost (w : World) (D frm n : Nat) (now : List Int) (e : Ending) (w' : World) : Prop := ∃ A p cc vs, e = .returned (.tuple #[.pointer (some ⟨A, 0, none⟩), .slice p (toldOf now frm n).2.2.length cc, .int .i64 0]) ∧ w.heap.size ≤ A ∧ LogAt A (logOf D frm n now) w' ∧ RecAt w.heap.size (.slice p (toldOf now frm n).2.2.length cc) (toldOf now frm n).2.2 vs w' ∧ Below w.heap.size w w'
set_option maxHeartbeats 4000000 in
set_option maxRecDepth 100000 in
theorem Open_ok {B D L N : Nat} {P : Value} {m : Dk} {w : World} (h : DiskAt B D L N P m w) (hd : m.dead = false) (hby : Bys m.now) (frm n : Nat) (hn1 : 1 ≤ n) (hn : frm + n ≤ m.n) (hs : sesOf m.now frm n ≠ 4294967295) :
    Calls Try.prog 13 #[.pointer (some ⟨D, 0, none⟩), .int .i64 (frm : Int), .int .i64 (n : Int)] w (OpenPost w D frm n m.now) := by
  have hD := Dead_any h
  rw [hd] at hD
  have HD := Lib.hid hD
  have HSz := Lib.hid (Size_any h)
  have HRp := Lib.hid (readPart_ok h hd frm n hn hn1)
  have hn2 := h.n2
  have hmn : m.n ≤ 65536 := hn2
  have HBy := Lib.hid hby
  have d1 : decide ((n : Int) < 1) = false := decide_eq_false (by omega)
  have d2 : decide ((m.n : Int) < (n : Int)) = false := decide_eq_false (by omega)
  have d3 : decide ((frm : Int) < 0) = false := decide_eq_false (by omega)
  have d4 : decide ((m.n : Int) - (n : Int) < (frm : Int)) = false := decide_eq_false (by omega)
  have HB := Lib.hid h.base
  clear hD h hby
  go_enter Try.func13, Try.ntmps13
  go_wp2_with (first | (go_at_call 34; with_reducible refine HD.out.mono ?_; rintro e w' ⟨rfl, rfl⟩) | (go_at_call 36; with_reducible refine HSz.out.mono ?_; rintro e w' ⟨rfl, rfl⟩))
  with_reducible refine HRp.out.mono ?_
  clear HRp
  rintro e w1 ⟨b, gs, rfl, hp, hb1⟩
  have HGs := Lib.hid (greatest_session hp (fun i l hl => ⟨(pcF_fact _ _ HBy.out i l hl).1, (pcF_fact _ _ HBy.out i l hl).2.1⟩) (by omega))
  have hsb := gr2_bd fS (pcF m.now frm) fS_bd n
  have HSe : Hid (gr2 fS (pcF m.now frm) n = sesOf m.now frm n) := rfl
  rw [HSe.out] at HGs hsb
  have HPl := Lib.hid hp
  have HB1 := Lib.hid hb1
  clear hp hb1 HSe
  have dse : (sesOf m.now frm n == 4294967295) = false := beq_eq_false_iff_ne.2 hs
  generalize hse : sesOf m.now frm n = se at HGs hsb dse hs
  have HSE := Lib.hid hse
  clear hse
  go_wp2_with fail
  with_reducible refine HGs.out.mono ?_
  rintro e w' ⟨rfl, rfl⟩
  go_wp2_with fail
  generalize hw2 : w1.alloc _ = w2
  have hl2 : LogAt w1.heap.size { { d := D, frm := frm, n := n, place := 0, num := 0, ses := se + 1, broken := false : Lg } with place := 0 } w2 := by rw [← hw2]; exact heap_alloc_new _ _
  have hb2 : Below w1.heap.size w1 w2 := by rw [← hw2]; exact (Below.refl _ _).alloc (Nat.le_refl _) _
  have hG := gather_any (HPl.out.below hb2) (fun i l hl => ⟨(pcF_fact _ _ HBy.out i l hl).1, (pcF_fact _ _ HBy.out i l hl).2.1⟩) (fun i l hl => (pcF_fact _ _ HBy.out i l hl).2.2.1) (by omega) hl2
  have HG := Lib.hid hG
  have HB2 := Lib.hid (HB1.out.trans (hb2.mono HB1.out.size))
  have h12 : w.heap.size ≤ w1.heap.size := HB1.out.size
  have HS2 := Lib.hid HB2.out.size
  clear hw2 hl2 hb2 hG
  with_reducible refine HG.out.mono ?_
  clear HG
  rintro e w3 ⟨p, cc, vs, rfl, hr, hl, hbf⟩
  have HX : Hid (OpenPost w D frm n m.now _ w3) := ⟨w1.heap.size, p, cc, vs, rfl, h12, by unfold logOf; rw [HSE.out]; exact hl, hr.base HS2.out, HB2.out.trans (hbf.below.mono h12)⟩
  clear hr hl hbf
  have e0 : Hid ((gathF (pcF m.now frm) n n 0 ((gr2 fN (pcF m.now frm) n + 1) % 4294967296) none []) = toldOf m.now frm n) := rfl
  rw [e0.out]
  go_wp2_with fail
  go_ret3
  exact HX.out
end Go.Proofs.Yticiaiiedagalaa.dk
