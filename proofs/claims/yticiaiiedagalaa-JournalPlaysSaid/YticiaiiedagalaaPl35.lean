/- The document's Append, whatever comes of it. -/
import Derived.Test.YticiaiiedagalaaPl34
import Derived.Test.YticiaiiedagalaaPl33
namespace Go.Proofs.Yticiaiiedagalaa.dk
open Go.PlainAid Go.ChangeShapes Go.WideShapes Go.ChangeAt Go.RowKit

set_option maxHeartbeats 4000000 in
set_option maxRecDepth 100000 in
theorem rAppend_any {B D N A : Nat} {S P : Value} {r : Rk} {m : Dk} {g : Lg} {w : World} (h : RefAt B D S P r w) (hl : Like N m r) (hg : RLogAt A g w) (hgd : g.d = D) (hBA : B ≤ A) (gb off k c : Nat) (b : List Int) (hR : Rd w (some ⟨gb, off, none⟩) k b) (hty : ∃ cur, w.heap[gb]? = some (.cells cur 5 (0, 0))) (hkc : k ≤ c) (hk : k ≤ 255)
    (hn : g.n ≤ 40) (hpl : g.place ≤ g.n) (hfrm : g.frm ≤ 1000) (hw : m.writes < 900) (hp : m.pend.length < 900) (hnum : 0 ≤ g.num ∧ g.num ≤ 4294967295) (hses : 0 ≤ g.ses ∧ g.ses ≤ 4294967295) :
    Calls Try.prog 29 #[.pointer (some ⟨A, 0, none⟩), .slice (some ⟨gb, off, none⟩) k c] w (RAPost B D N A (appendOf g m b) w) := by
  have hbl := hR.1
  have hnb := needN_bd k
  have hnk : needN k ≤ 6 := by split at hnb <;> omega
  unfold appendOf
  rw [hbl]
  by_cases hbr : g.broken = true
  · rw [if_pos hbr]
    have HFin : Hid (RAPost B D N A (g, m, 10) w (.returned (.int .i64 10)) w) := ⟨S, P, r, rfl, h, hl, hg, Below.refl _ _, Tf.refl _ _⟩
    have HN0 := rNeed_any w (k : Int) (by omega)
    rw [needN_eq] at HN0
    have HN := Lib.hid HN0
    have c6 := hg.cell 6
    simp only [lgcells] at c6
    simp at c6
    rw [hbr] at c6
    clear h hl hg hgd hBA hR hty hbl hnb HN0
    go_enter Try.func29, Try.ntmps29
    go_wp2_with (go_at_call 33; with_reducible refine HN.out.mono ?_; rintro e w' ⟨rfl, rfl⟩)
    go_ret
    exact HFin.out
  · rw [if_neg hbr, if_neg (by omega)]
    have hbr0 : g.broken = false := by simpa using hbr
    by_cases hf : g.n < g.place + needN k
    · rw [if_pos hf]
      have HFin : Hid (∀ y, RAPost B D N A (g, m, 5) w (.returned (.int .i64 5)) (w.drewN y)) := fun y => ⟨S, P, r, rfl, h.below (below_drewN (Below.refl _ _) _), hl, hg.below (below_drewN (Below.refl _ _) _), below_drewN (Below.refl _ _) _, Tf.new (below_drewN (Below.refl _ _) _)⟩
      have HN0 := rNeed_any w (k : Int) (by omega)
      rw [needN_eq] at HN0
      have HN := Lib.hid HN0
      have HRo := Lib.hid (rRoom_any hg (by omega) (by omega))
      have c6 := hg.cell 6
      simp only [lgcells] at c6
      simp at c6
      rw [hbr0] at c6
      generalize needN k = count at *
      have dlim : decide ((65535 : Int) < (count : Int)) = false := decide_eq_false (by omega)
      have droom : decide ((g.n : Int) - (g.place : Int) < (count : Int)) = true := decide_eq_true (by omega)
      clear h hl hg hgd hBA hR hty hbl hnb HN0 hbr
      go_enter Try.func29, Try.ntmps29
      go_wp2_with (first | (go_at_call 33; with_reducible refine HN.out.mono ?_; rintro e w' ⟨rfl, rfl⟩) | (go_at_call 31; with_reducible refine HRo.out.mono ?_; rintro e w' ⟨rfl, y, rfl⟩))
      go_ret
      exact HFin.out _
    · rw [if_neg hf]
      exact rAppend_loop h hl hg hgd hBA gb off k c b hR hty hkc hk hbr0 hn hpl hfrm (by omega) hw hp hnum hses
/-- Where the log's disk stands does not matter. -/
theorem layGo_d (g : Lg) (D : Nat) (b : List Int) (count : Nat) : ∀ (f i : Nat) (m : Dk), layGo { g with d := D } b count f i m = layGo g b count f i m
  | 0, _, _ => rfl
  | f + 1, i, m => by
    rw [layGo.eq_2, layGo.eq_2]
    simp only [layGo_d g D b count f]
theorem appendOf_d (g : Lg) (D : Nat) (m : Dk) (b : List Int) : appendOf { g with d := D } m b = ({ (appendOf g m b).1 with d := D }, (appendOf g m b).2.1, (appendOf g m b).2.2) := by
  unfold appendOf
  simp only [layGo_d]
  split
  · rfl
  · split
    · rfl
    · split
      · rfl
      · split <;> rfl
end Go.Proofs.Yticiaiiedagalaa.dk
/- The document's Open: what its second loop holds, and how it takes a record. -/
namespace Go.Proofs.Yticiaiiedagalaa.dk
open Go.PlainAid Go.ChangeShapes Go.WideShapes Go.ChangeAt Go.RowKit

def tellN (F : Nat → Option (List Int)) (n : Nat) : Nat × Int × List (List Int) := gathF F n n 0 ((gr2 fN F n + 1) % 4294967296) none []
def ROpenPost (w : World) (D frm n : Nat) (F : Nat → Option (List Int)) (e : Ending) (w' : World) : Prop := ∃ A p cc vs, e = .returned (.tuple #[.pointer (some ⟨A, 0, none⟩), .slice p (tellN F n).2.2.length cc, .int .i64 0]) ∧ w.heap.size ≤ A ∧ RLogAt A { d := D, frm := frm, n := n, place := (tellN F n).1, num := (tellN F n).2.1, ses := gr2 fS F n + 1, broken := false } w' ∧ RecAt w.heap.size (.slice p (tellN F n).2.2.length cc) (tellN F n).2.2 vs w' ∧ Below w.heap.size w w'
def slen : Value → Nat
  | .slice _ m _ => m
  | _ => 0
theorem rR_len {B D : Nat} {S P : Value} {r : Rk} {w : World} (h : RefAt B D S P r w) (frm i : Nat) (hi : frm + i < r.S.length) : (rR r frm i).length = 64 := by
  unfold rR
  rw [unstr_length, strOf_size]
  exact rat_len hi h.sw r.P (fun x hx => (h.pw x hx).2) _ (by
    rw [List.getD_eq_getElem?_getD, List.getElem?_eq_getElem hi]
    exact h.sw _ (List.getElem_mem hi))
/-- What is held at the second loop's head. -/
structure GL (w : World) (ag : Nat) (g : Lg) (last : Option (List Int)) (p : Option Addr) (cc : Nat) (out : List (List Int)) (vs : List Value) (W : World) : Prop where
  lg : RLogAt ag g W
  la : ∃ (ls ln : Int) (a b c : Value), W.heap[ag + 1]? = some (.cells #[.int .u32 ls, .int .u32 ln, a, b, c] 81 (0, 0)) ∧ ∀ q, last = some q → ls = fS q ∧ ln = fN q
  rc : RecAt w.heap.size (.slice p out.length cc) out vs W
  b : Below w.heap.size w W
theorem GL.take {w W w2 : World} {ag : Nat} {g : Lg} {last : Option (List Int)} {p : Option Addr} {cc : Nat} {out : List (List Int)} {vs : List Value} {p0 l : List Int} {q : Option Addr} {qc : Nat} (h : GL w ag g last p cc out vs W) (hag : ag = w.heap.size) (hb2 : Below W.heap.size W w2) (hown : w2.ownsRow W.heap.size 5 1 (.slice q l.length qc) l.length (bcells l)) (hR : out.length ≤ 1000000) (pl : Nat) (nm : Int) :
    ∃ p3 c3 w3, (Builtin.append_ #[33, 33] 33 #[.slice p out.length cc, .slice (some ⟨w2.heap.size + 1, 0, none⟩) 1 1]).run Try.prog ((w2.alloc (.cells #[.int .u32 (fS p0), .int .u32 (fN p0), .int .i64 (fP p0), .int .i64 (fC p0), .slice q l.length qc] 81)).alloc (.cells #[.slice q l.length qc] 45)) = .ok (.slice p3 (out ++ [l]).length c3) w3 ∧
      w3.heap[w2.heap.size]? = some (.cells #[.int .u32 (fS p0), .int .u32 (fN p0), .int .i64 (fP p0), .int .i64 (fC p0), .slice q l.length qc] 81 (0, 0)) ∧
      (∃ ls ln a b c : Value, w3.heap[ag + 1]? = some (.cells #[ls, ln, a, b, c] 81 (0, 0))) ∧ RLogAt ag g w3 ∧ ag + 1 < w2.heap.size ∧
      GL w ag { g with place := pl, num := nm } (some p0) p3 c3 (out ++ [l]) (vs ++ [.slice q l.length qc]) (((((((w3.setCell ⟨ag + 1, 0, none⟩ (.int .u32 (fS p0))).setCell ⟨ag + 1, 1, none⟩ (.int .u32 (fN p0))).setCell ⟨ag + 1, 2, none⟩ (.int .i64 (fP p0))).setCell ⟨ag + 1, 3, none⟩ (.int .i64 (fC p0))).setCell ⟨ag + 1, 4, none⟩ (.slice q l.length qc)).setCell ⟨ag, 3, none⟩ (.int .i64 (pl : Int))).setCell ⟨ag, 4, none⟩ (.int .u32 nm)) := by
  obtain ⟨V, hV⟩ : ∃ V, V = ((w2.alloc (.cells #[.int .u32 (fS p0), .int .u32 (fN p0), .int .i64 (fP p0), .int .i64 (fC p0), .slice q l.length qc] 81)).alloc (.cells #[.slice q l.length qc] 45)) := ⟨_, rfl⟩
  rw [← hV]
  have hbV : Below w2.heap.size w2 V := by
    rw [hV]
    exact ((Below.refl _ _).alloc (Nat.le_refl _) _).alloc (by simp [World.alloc, -World.alloc_eq]) _
  have hsz : (w2.alloc (.cells #[.int .u32 (fS p0), .int .u32 (fN p0), .int .i64 (fP p0), .int .i64 (fC p0), .slice q l.length qc] 81)).heap.size = w2.heap.size + 1 := by simp [World.alloc, -World.alloc_eq]
  have hst : V.heap[w2.heap.size]? = some (.cells #[.int .u32 (fS p0), .int .u32 (fN p0), .int .i64 (fP p0), .int .i64 (fC p0), .slice q l.length qc] 81) := by rw [hV]; exact alloc_row (heap_alloc_new _ _)
  have hcl : V.cell? ⟨w2.heap.size + 1, 0, none⟩ = some (.slice q l.length qc) := by
    rw [hV, ← hsz]; exact cell_of_row _ _ _ _ _ _ (heap_alloc_new _ _)
  have hbx := hb2.trans (hbV.mono hb2.size)
  have hwx := h.b.trans (hbx.mono h.b.size)
  have hrx := h.rc.below hbx
  have hlx := h.lg.below hbx
  obtain ⟨ls, ln, a, b, c, hla, _⟩ := h.la
  have hlal := (Array.getElem?_eq_some_iff.1 hla).1
  have hlax := (hbx.block _ hlal).trans hla
  obtain ⟨p3, c3, w3, hru, hrec3, hbw3, hg3⟩ := append_rec (c := 1) hrx (owned_keeps (owned_base hown h.b.size) fun g hg => hbV.block g (hown.lt g hg).2) hcl hR hwx.size
  have s3 := row_grown hg3 hrx.own hst (by decide)
  have l3 := row_grown hg3 hrx.own hlx (by decide)
  have a3 := row_grown hg3 hrx.own hlax (by decide)
  have hB3 := hwx.trans hbw3
  refine ⟨p3, c3, w3, hru, s3, ⟨_, _, _, _, _, a3⟩, l3, Nat.lt_of_lt_of_le hlal hb2.size, ?_⟩
  have t5 := set5 (v0 := .int .u32 (fS p0)) (v1 := .int .u32 (fN p0)) (v2 := .int .i64 (fP p0)) (v3 := .int .i64 (fC p0)) (v4 := .slice q l.length qc) a3 (by omega : w.heap.size ≤ ag + 1) hB3
  have hne : ag ≠ ag + 1 := by omega
  have lg5 : RLogAt ag g (((((w3.setCell ⟨ag + 1, 0, none⟩ (.int .u32 (fS p0))).setCell ⟨ag + 1, 1, none⟩ (.int .u32 (fN p0))).setCell ⟨ag + 1, 2, none⟩ (.int .i64 (fP p0))).setCell ⟨ag + 1, 3, none⟩ (.int .i64 (fC p0))).setCell ⟨ag + 1, 4, none⟩ (.slice q l.length qc)) := by
    unfold RLogAt
    rw [heap_setCell_other _ _ _ _ hne, heap_setCell_other _ _ _ _ hne, heap_setCell_other _ _ _ _ hne, heap_setCell_other _ _ _ _ hne, heap_setCell_other _ _ _ _ hne]
    exact l3
  obtain ⟨lg6, b6, fr6⟩ := lg5.turn (g' := { g with place := pl }) 3 (.int .i64 (pl : Int)) rfl (Nat.le_of_eq hag.symm) t5.2
  obtain ⟨lg7, b7, fr7⟩ := lg6.turn (g' := { g with place := pl, num := nm }) 4 (.int .u32 nm) rfl (Nat.le_of_eq hag.symm) b6
  refine ⟨lg7, ⟨_, _, _, _, _, ((fr7 _ hne.symm).trans (fr6 _ hne.symm)).trans t5.1, fun q hq => by cases hq; exact ⟨rfl, rfl⟩⟩, ?_, b7⟩
  have hrow : ∀ k, k ≠ ag → k ≠ ag + 1 → (((((((w3.setCell ⟨ag + 1, 0, none⟩ (.int .u32 (fS p0))).setCell ⟨ag + 1, 1, none⟩ (.int .u32 (fN p0))).setCell ⟨ag + 1, 2, none⟩ (.int .i64 (fP p0))).setCell ⟨ag + 1, 3, none⟩ (.int .i64 (fC p0))).setCell ⟨ag + 1, 4, none⟩ (.slice q l.length qc)).setCell ⟨ag, 3, none⟩ (.int .i64 (pl : Int))).setCell ⟨ag, 4, none⟩ (.int .u32 nm)).heap[k]? = w3.heap[k]? := fun k h1 h2 => by
    rw [fr7 _ h1, fr6 _ h1, heap_setCell_other _ _ _ _ h2, heap_setCell_other _ _ _ _ h2, heap_setCell_other _ _ _ _ h2, heap_setCell_other _ _ _ _ h2, heap_setCell_other _ _ _ _ h2]
  exact hrec3.keep fun k cur t hk ht => hrow k
    (row_ne2 hk l3 (by rintro rfl; rcases ht with e | e <;> exact absurd e (by decide)))
    (row_ne2 hk a3 (by rintro rfl; rcases ht with e | e <;> exact absurd e (by decide)))
end Go.Proofs.Yticiaiiedagalaa.dk
