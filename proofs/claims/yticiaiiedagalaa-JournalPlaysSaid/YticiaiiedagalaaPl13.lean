/- Open: the log of a part of a disk, and its records. -/
import Derived.Test.YticiaiiedagalaaPl12
import Derived.Test.YticiaiiedagalaaPl5
namespace Go.Proofs.Yticiaiiedagalaa.dk
open Go.PlainAid Go.ChangeShapes Go.WideShapes Go.ChangeAt Go.RowKit

theorem pcF_fact (now : List Int) (frm : Nat) (hb : Bys now) (i : Nat) (l : List Int) (h : pcF now frm i = some l) : l.length = 64 ∧ Bys l ∧ isP l = true ∧ l = secOf now (frm + i) := by
  unfold pcF pcOf at h
  split at h
  · rename_i hp
    injection h with h
    subst h
    refine ⟨?_, (hb.drop _).take _, hp, rfl⟩
    unfold isP at hp
    simp only [Bool.and_eq_true, decide_eq_true_eq] at hp
    exact hp.1.1.1
  · cases h
/-- What is told of a part: the place, the number behind, the records. -/
def toldOf (now : List Int) (frm n : Nat) : Nat × Int × List (List Int) := gathF (pcF now frm) n n 0 ((gr2 fN (pcF now frm) n + 1) % 4294967296) none []
def sesOf (now : List Int) (frm n : Nat) : Int := gr2 fS (pcF now frm) n
def logOf (D frm n : Nat) (now : List Int) : Lg := { d := D, frm := frm, n := n, place := (toldOf now frm n).1, num := (toldOf now frm n).2.1, ses := sesOf now frm n + 1, broken := false }
def OpenPost (w : World) (D frm n : Nat) (now : List Int) (e : Ending) (w' : World) : Prop := ∃ A p cc vs, e = .returned (.tuple #[.pointer (some ⟨A, 0, none⟩), .slice p (toldOf now frm n).2.2.length cc, .int .i64 0]) ∧ w.heap.size ≤ A ∧ LogAt A (logOf D frm n now) w' ∧ RecAt w.heap.size (.slice p (toldOf now frm n).2.2.length cc) (toldOf now frm n).2.2 vs w' ∧ Below w.heap.size w w'
set_option maxHeartbeats 4000000 in
set_option maxRecDepth 100000 in
theorem Open_ok {B D L N : Nat} {P : Value} {m : Dk} {w : World} (h : DiskAt B D L N P m w) (hd : m.dead = false) (hby : Bys m.now) (frm n : Nat) (hn1 : 1 ≤ n) (hn : frm + n ≤ m.n) (hs : sesOf m.now frm n ≠ 4294967295) :
    Calls Try.prog 13 #[.pointer (some ⟨D, 0, none⟩), .int .i64 (frm : Int), .int .i64 (n : Int)] w (OpenPost w D frm n m.now) := by
  have hD := Dead_any h
  rw [hd] at hD
  have HD := Lib.hid hD
  have HSz := Lib.hid (Size_any h)
  have HRp := Lib.hid (readPart_ok h hd frm n hn hn1)
  have hn2 := h.n2
  have hmn : m.n ≤ 65536 := hn2
  have HBy := Lib.hid hby
  have d1 : decide ((n : Int) < 1) = false := decide_eq_false (by omega)
  have d2 : decide ((m.n : Int) < (n : Int)) = false := decide_eq_false (by omega)
  have d3 : decide ((frm : Int) < 0) = false := decide_eq_false (by omega)
  have d4 : decide ((m.n : Int) - (n : Int) < (frm : Int)) = false := decide_eq_false (by omega)
  have HB := Lib.hid h.base
  clear hD h hby
  go_enter Try.func13, Try.ntmps13
  go_wp2_with (first | (go_at_call 34; with_reducible refine HD.out.mono ?_; rintro e w' ⟨rfl, rfl⟩) | (go_at_call 36; with_reducible refine HSz.out.mono ?_; rintro e w' ⟨rfl, rfl⟩))
  with_reducible refine HRp.out.mono ?_
  clear HRp
  rintro e w1 ⟨b, gs, rfl, hp, hb1⟩
  have HGs := Lib.hid (greatest_session hp (fun i l hl => ⟨(pcF_fact _ _ HBy.out i l hl).1, (pcF_fact _ _ HBy.out i l hl).2.1⟩) (by omega))
  have hsb := gr2_bd fS (pcF m.now frm) fS_bd n
  have HSe : Hid (gr2 fS (pcF m.now frm) n = sesOf m.now frm n) := rfl
  rw [HSe.out] at HGs hsb
  have HPl := Lib.hid hp
  have HB1 := Lib.hid hb1
  clear hp hb1 HSe
  have dse : (sesOf m.now frm n == 4294967295) = false := beq_eq_false_iff_ne.2 hs
  generalize hse : sesOf m.now frm n = se at HGs hsb dse hs
  have HSE := Lib.hid hse
  clear hse
  go_wp2_with fail
  with_reducible refine HGs.out.mono ?_
  rintro e w' ⟨rfl, rfl⟩
  go_wp2_with fail
  generalize hw2 : w1.alloc _ = w2
  have hl2 : LogAt w1.heap.size { { d := D, frm := frm, n := n, place := 0, num := 0, ses := se + 1, broken := false : Lg } with place := 0 } w2 := by rw [← hw2]; exact heap_alloc_new _ _
  have hb2 : Below w1.heap.size w1 w2 := by rw [← hw2]; exact (Below.refl _ _).alloc (Nat.le_refl _) _
  have hG := gather_any (HPl.out.below hb2) (fun i l hl => ⟨(pcF_fact _ _ HBy.out i l hl).1, (pcF_fact _ _ HBy.out i l hl).2.1⟩) (fun i l hl => (pcF_fact _ _ HBy.out i l hl).2.2.1) (by omega) hl2
  have HG := Lib.hid hG
  have HB2 := Lib.hid (HB1.out.trans (hb2.mono HB1.out.size))
  have h12 : w.heap.size ≤ w1.heap.size := HB1.out.size
  have HS2 := Lib.hid HB2.out.size
  clear hw2 hl2 hb2 hG
  with_reducible refine HG.out.mono ?_
  clear HG
  rintro e w3 ⟨p, cc, vs, rfl, hr, hl, hbf⟩
  have HX : Hid (OpenPost w D frm n m.now _ w3) := ⟨w1.heap.size, p, cc, vs, rfl, h12, by unfold logOf; rw [HSE.out]; exact hl, hr.base HS2.out, HB2.out.trans (hbf.below.mono h12)⟩
  clear hr hl hbf
  have e0 : Hid ((gathF (pcF m.now frm) n n 0 ((gr2 fN (pcF m.now frm) n + 1) % 4294967296) none []) = toldOf m.now frm n) := rfl
  rw [e0.out]
  go_wp2_with fail
  go_ret3
  exact HX.out
end Go.Proofs.Yticiaiiedagalaa.dk
/- What is written and synced, whatever comes of it. -/
namespace Go.Proofs.Yticiaiiedagalaa.dk
open Go.PlainAid Go.ChangeShapes Go.WideShapes Go.ChangeAt Go.RowKit

set_option maxRecDepth 100000 in
theorem Write_halt {B D L N : Nat} {P : Value} {m : Dk} {w : World} (h : DiskAt B D L N P m w) (hd : m.dead = false) (h0 : m.limit = 0) (i : Nat) (p : Option Addr) (k c : Nat) (hi : i < m.n) (hk : k ≤ 64) :
    Calls Try.prog 19 #[.pointer (some ⟨D, 0, none⟩), .int .i64 i, .slice p k c] w fun e w' => e = .returned (.int .i64 10) ∧ DiskAt B D L N P { m with dead := true } w' ∧ Bf B (Xd D L N P) w w' := by
  have hD := Dead_any h
  rw [hd] at hD
  have HD := Lib.hid hD
  have HSz := Lib.hid (Size_any h)
  clear hD
  have HS := Lib.hid (spend_dead h h0)
  have d1 : decide ((i : Int) < 0) = false := decide_eq_false (by omega)
  have d2 : decide ((m.n : Int) ≤ i) = false := decide_eq_false (by omega)
  have d3 : decide ((64 : Int) < k) = false := decide_eq_false (by omega)
  clear h0
  go_enter Try.func19, Try.ntmps19
  go_wp2_with (first | (go_at_call 34; with_reducible refine HD.out.mono ?_; rintro e w' ⟨rfl, rfl⟩) | (go_at_call 36; with_reducible refine HSz.out.mono ?_; rintro e w' ⟨rfl, rfl⟩))
  with_reducible refine HS.out.mono ?_
  rintro e w1 ⟨rfl, h1, hb1, hf1⟩
  have HF := Lib.hid (Bf.one (X := Xd D L N P) hb1 hf1 (.inl rfl))
  clear hf1
  go_wp2
  go_ret
  exact ⟨rfl, h1, HF.out⟩
set_option maxRecDepth 100000 in
theorem Sync_halt {B D L N : Nat} {P : Value} {m : Dk} {w : World} (h : DiskAt B D L N P m w) (hd : m.dead = false) (h0 : m.limit = 0) :
    Calls Try.prog 21 #[.pointer (some ⟨D, 0, none⟩)] w fun e w' => e = .returned (.int .i64 10) ∧ DiskAt B D L N P { m with dead := true } w' ∧ Bf B (Xd D L N P) w w' := by
  have hD := Dead_any h
  rw [hd] at hD
  have HD := Lib.hid hD
  have HS := Lib.hid (spend_dead h h0)
  clear hD h0
  go_enter Try.func21, Try.ntmps21
  go_wp2_with (go_at_call 34; with_reducible refine HD.out.mono ?_; rintro e w' ⟨rfl, rfl⟩)
  with_reducible refine HS.out.mono ?_
  rintro e w1 ⟨rfl, h1, hb1, hf1⟩
  have HF := Lib.hid (Bf.one (X := Xd D L N P) hb1 hf1 (.inl rfl))
  clear hf1
  go_wp2
  go_ret
  exact ⟨rfl, h1, HF.out⟩


/-- One thing more is done. -/
def spent (m : Dk) : Dk := { m with limit := if m.limit < 0 then m.limit else m.limit - 1, writes := m.writes + 1 }
def dWrite (m : Dk) (x : Int) (l : List Int) : Dk × Int :=
  if m.dead = true then (m, 10) else
  if x < 0 ∨ (m.n : Int) ≤ x ∨ 64 < l.length then (m, 1) else
  if m.limit = 0 then ({ m with dead := true }, 10) else
  ({ spent m with now := lay m.now (x.toNat * 64) (pad l), pend := m.pend ++ [(x.toNat, pad l)] }, 0)
def dSync (m : Dk) : Dk × Int :=
  if m.dead = true then (m, 10) else
  if m.limit = 0 then ({ m with dead := true }, 10) else
  ({ spent m with laid := laidOf m.laid m.pend, pend := [] }, 0)
theorem spend_any {B D L N : Nat} {P : Value} {m : Dk} {w : World} (h : DiskAt B D L N P m w) (h0 : m.limit ≠ 0) (hw : m.writes < 1000000) :
    Calls Try.prog 46 #[.pointer (some ⟨D, 0, none⟩)] w fun e w' => e = .returned (.bool true) ∧ DiskAt B D L N P (spent m) w' ∧ Below B w w' ∧ Fr D w w' := by
  have hl := h.lim
  by_cases h1 : m.limit < 0
  · have := spend_free h h1 hw
    unfold spent
    rw [if_pos h1]
    exact this
  · have := spend_some h (by omega) hw
    unfold spent
    rw [if_neg h1]
    exact this
/-- The disk's own blocks, and what they may become. -/
structure DkF (B D L N : Nat) (P : Value) (w : World) (P' : Value) (w' : World) : Prop where
  bf : Bf B (Xd D L N P) w w'
  nw : ∀ g, P'.ownBlock = some g → P.ownBlock = some g ∨ w.heap.size ≤ g
theorem DkF.refl {B D L N : Nat} {P : Value} {w : World} : DkF B D L N P w P w := ⟨Bf.refl _ _ _, fun _ h => .inl h⟩
theorem DkF.of {B D L N : Nat} {P : Value} {w w' : World} (h : Bf B (Xd D L N P) w w') : DkF B D L N P w P w' := ⟨h, fun _ h => .inl h⟩
theorem DkF.not {B D L N : Nat} {P P' : Value} {w w' : World} (h : DkF B D L N P w P' w') {k : Nat} (hk : k < w.heap.size) (hx : ¬ Xd D L N P k) : ¬ Xd D L N P' k := by
  rintro (e | e | e | e)
  · exact hx (.inl e)
  · exact hx (.inr (.inl e))
  · exact hx (.inr (.inr (.inl e)))
  · rcases h.nw k e with h1 | h1
    · exact hx (.inr (.inr (.inr h1)))
    · omega
theorem DkF.trans {B D L N : Nat} {P P' P'' : Value} {w w' w'' : World} (h : DkF B D L N P w P' w') (k : DkF B D L N P' w' P'' w'') : DkF B D L N P w P'' w'' :=
  ⟨⟨h.bf.below.trans k.bf.below, fun i hi hx => (k.bf.fr i (Nat.lt_of_lt_of_le hi h.bf.below.size) (h.not hi hx)).trans (h.bf.fr i hi hx)⟩, fun g hg => by
    rcases k.nw g hg with h1 | h1
    · exact h.nw g h1
    · exact .inr (Nat.le_trans h.bf.below.size h1)⟩
theorem DkF.new {B D L N : Nat} {P : Value} {w w' : World} (h : Below w.heap.size w w') (hB : B ≤ w.heap.size) : DkF B D L N P w P w' := DkF.of (Bf.new h hB)
/-- Bytes outside the disk. -/
def Src (D L N : Nat) (P : Value) (w : World) (p : Option Addr) (n : Nat) (b : List Int) : Prop := Rd w p n b ∧ ∀ g off, p = some ⟨g, off, none⟩ → 0 < n → ¬ Xd D L N P g
theorem Src.next {B D L N : Nat} {P P' : Value} {w w' : World} {p : Option Addr} {n : Nat} {b : List Int} (h : Src D L N P w p n b) (k : DkF B D L N P w P' w') : Src D L N P' w' p n b := by
  obtain ⟨h1, h2⟩ := h
  refine ⟨⟨h1.1, fun h0 => ?_⟩, fun g off e h0 => ?_⟩
  · obtain ⟨g, off, e, hlt, hc⟩ := h1.2 h0
    refine ⟨g, off, e, Nat.lt_of_lt_of_le hlt k.bf.below.size, fun i hi => ?_⟩
    rw [World.cell?_of_block (a := ⟨g, off + i, none⟩) (k.bf.fr g hlt (h2 g off e h0))]
    exact hc i hi
  · obtain ⟨g', off', e', hlt, _⟩ := h1.2 h0
    have : g = g' := by rw [e] at e'; injection e' with e'; injection e'
    subst this
    exact k.not hlt (h2 g off e h0)
def WGen (B D L N : Nat) (P : Value) (r : Dk × Int) (w : World) (e : Ending) (w' : World) : Prop := ∃ P', e = .returned (.int .i64 r.2) ∧ DiskAt B D L N P' r.1 w' ∧ DkF B D L N P w P' w'
theorem Write_any {B D L N : Nat} {P : Value} {m : Dk} {w : World} (h : DiskAt B D L N P m w) (p : Option Addr) (k c : Nat) (b : List Int) (x : Int) (hR : Rd w p k b) (hw : m.writes < 1000000) (hp : m.pend.length ≤ 1000000) :
    Calls Try.prog 19 #[.pointer (some ⟨D, 0, none⟩), .int .i64 x, .slice p k c] w (WGen B D L N P (dWrite m x b) w) := by
  unfold dWrite
  have hbl := hR.1
  by_cases hd : m.dead = true
  · rw [if_pos hd]
    refine (Write_dead h hd x _).mono ?_
    rintro e w' ⟨rfl, rfl⟩
    exact ⟨P, rfl, h, DkF.refl⟩
  · rw [if_neg hd]
    have hd' : m.dead = false := by simpa using hd
    by_cases hx : x < 0 ∨ (m.n : Int) ≤ x ∨ 64 < b.length
    · rw [if_pos hx]
      refine (Write_arg h hd' x p k c (by rw [← hbl]; exact hx)).mono ?_
      rintro e w' ⟨rfl, rfl⟩
      exact ⟨P, rfl, h, DkF.refl⟩
    · rw [if_neg hx]
      obtain ⟨i, rfl⟩ := Int.eq_ofNat_of_zero_le (show 0 ≤ x by omega)
      by_cases h0 : m.limit = 0
      · rw [if_pos h0]
        refine (Write_halt h hd' h0 i p k c (by omega) (by omega)).mono ?_
        rintro e w' ⟨rfl, h2, hb⟩
        exact ⟨P, rfl, h2, DkF.of hb⟩
      · rw [if_neg h0]
        refine (Write_ok (m1 := spent m) h p k c b i (by omega) (by omega) hd' hR rfl hp (spend_any h h0 hw)).mono ?_
        rintro e w' ⟨P', rfl, h2, hb, hn⟩
        exact ⟨P', rfl, h2, hb, hn⟩
theorem Sync_any {B D L N : Nat} {P : Value} {m : Dk} {w : World} (h : DiskAt B D L N P m w) (hw : m.writes < 1000000) (hp : m.pend.length ≤ 1000000) :
    Calls Try.prog 21 #[.pointer (some ⟨D, 0, none⟩)] w (WGen B D L N P (dSync m) w) := by
  unfold dSync
  by_cases hd : m.dead = true
  · rw [if_pos hd]
    refine (Sync_dead h hd).mono ?_
    rintro e w' ⟨rfl, rfl⟩
    exact ⟨P, rfl, h, DkF.refl⟩
  · rw [if_neg hd]
    have hd' : m.dead = false := by simpa using hd
    by_cases h0 : m.limit = 0
    · rw [if_pos h0]
      refine (Sync_halt h hd' h0).mono ?_
      rintro e w' ⟨rfl, h2, hb⟩
      exact ⟨P, rfl, h2, DkF.of hb⟩
    · rw [if_neg h0]
      refine (Sync_ok h (spent m) hd' hp (spend_any h h0 hw)).mono ?_
      rintro e w' ⟨rfl, h2, hb⟩
      exact ⟨.slice none 0 0, rfl, h2, hb, fun g hg => by cases hg⟩
theorem LogAt.d {B D L N B' A : Nat} {P : Value} {g : Lg} {m : Dk} {w w' : World} (ho : LogAt A g w) (h : DiskAt B D L N P m w) (hb : Bf B' (Xd D L N P) w w') : LogAt A g w' := by
  refine (hb.fr A ho.lt ?_).trans ho
  rintro (e | e | e | e)
  · exact row_ne h.hD ho (by decide) e.symm
  · exact row_ne h.hL ho (by decide) e.symm
  · exact row_ne h.hN ho (by decide) e.symm
  · obtain ⟨cur2, hc⟩ := owned_type h.hP e
    exact row_ne hc ho (by decide) rfl
/-- What turns in the log leaves the disk. -/
theorem DiskAt.l {B D L N A : Nat} {P : Value} {g : Lg} {m : Dk} {w w' : World} (h : DiskAt B D L N P m w) (ho : LogAt A g w) (hb : Fr A w w') : DiskAt B D L N P m w' := by
  have f : ∀ (k : Nat) (cur : Array Value) (t : TypeId), w.heap[k]? = some (.cells cur t (0, 0)) → t ≠ 76 → w'.heap[k]? = w.heap[k]? := fun k cur t hk ht => hb k (row_ne hk ho ht)
  exact { h with
    hD := by rw [f _ _ _ h.hD (by decide)]; exact h.hD
    hL := by rw [f _ _ _ h.hL (by decide)]; exact h.hL
    hN := by rw [f _ _ _ h.hN (by decide)]; exact h.hN
    hP := own_block_keeps h.hP fun g hg => by
      obtain ⟨cur, hc⟩ := owned_type h.hP hg
      exact f _ _ _ hc (by decide) }
/-- A record's pieces are written, one behind the other, and synced. -/
def layGo (g : Lg) (b : List Int) (count : Nat) : Nat → Nat → Dk → Dk × Int
  | 0, _, m => dSync m
  | f + 1, i, m =>
    if (dWrite m ((g.frm : Int) + g.place + i) (mk g.ses g.num i count ((b.drop (i * 48)).take 48))).2 = 0 then layGo g b count f (i + 1) (dWrite m ((g.frm : Int) + g.place + i) (mk g.ses g.num i count ((b.drop (i * 48)).take 48))).1
    else dWrite m ((g.frm : Int) + g.place + i) (mk g.ses g.num i count ((b.drop (i * 48)).take 48))
theorem dWrite_bd (m : Dk) (x : Int) (l : List Int) : (dWrite m x l).1.writes ≤ m.writes + 1 ∧ (dWrite m x l).1.pend.length ≤ m.pend.length + 1 ∧ (dWrite m x l).1.n = m.n := by
  unfold dWrite
  split
  · exact ⟨by show m.writes ≤ _; omega, by show m.pend.length ≤ _; omega, rfl⟩
  · split
    · exact ⟨by show m.writes ≤ _; omega, by show m.pend.length ≤ _; omega, rfl⟩
    · split
      · exact ⟨by show m.writes ≤ _; omega, by show m.pend.length ≤ _; omega, rfl⟩
      · exact ⟨Int.le_refl _, by show (m.pend ++ [_]).length ≤ _; rw [List.length_append]; exact Nat.le_refl _, rfl⟩
end Go.Proofs.Yticiaiiedagalaa.dk
