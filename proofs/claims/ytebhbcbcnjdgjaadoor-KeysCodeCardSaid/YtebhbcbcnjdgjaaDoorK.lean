/- Appends of any bytes; what After is above. -/
import Derived.Test.YtebhbcbcnjdgjaaDoorJ
namespace Go.Proofs.YtebhbcbcnjdgjaaDoor.dk
open Go.PlainAid Go.ChangeShapes Go.WideShapes Go.ChangeAt Go.RowKit

set_option maxRecDepth 20000 in
theorem append_empty {w : World} {B c cc : Nat} {p0 a : Option Addr} {l : List Int} (hown : w.ownsRow B 5 1 (.slice p0 l.length c) l.length (bcells l)) :
    (Builtin.append_ #[23, 23] 23 #[.slice p0 l.length c, .slice a 0 cc]).run Tryd.prog w = .ok (.slice p0 l.length c) w := by
  obtain ⟨i0, hi, hz0, hz1, hz2⟩ := info_parts infoU8
  have ht := Tryd.underlying23
  rcases hown.2 with ⟨hv, hl⟩ | ⟨g, cap, cur, hv, _, hg, hnc, _⟩
  · rw [hv]
    cases a <;> simp [Builtin.append_, run_underlying ht, sizeOf, typeInfo, hi, Builtin.lenOf, Builtin.firstCells, loadCells, loadCellsFrom]
  · injection hv with e1 _ e3
    subst e1; subst e3
    cases a <;> simp [Builtin.append_, run_underlying ht, sizeOf, typeInfo, hi, Builtin.lenOf, Builtin.firstCells, loadCells, loadCellsFrom, hnc, storeCells]
/-- append of any bytes. -/
theorem append_any {w : World} {B c m cc : Nat} {p0 q : Option Addr} {l b : List Int} (hown : w.ownsRow B 5 1 (.slice p0 l.length c) l.length (bcells l)) (hR : Rd w q m b) (hl : l.length ≤ 1000000) (hm1 : m ≤ 1000000) (hB : B ≤ w.heap.size) :
    ∃ p cc2 w', (Builtin.append_ #[23, 23] 23 #[.slice p0 l.length c, .slice q m cc]).run Tryd.prog w = .ok (.slice p (l ++ b).length cc2) w' ∧ w'.ownsRow B 5 1 (.slice p (l ++ b).length cc2) (l ++ b).length (bcells (l ++ b)) ∧ Below B w w' := by
  rcases Nat.eq_zero_or_pos m with rfl | h0
  · have hb : b = [] := List.length_eq_zero_iff.1 hR.1
    subst hb
    rw [List.append_nil]
    exact ⟨p0, c, w, append_empty hown, hown, Below.refl _ _⟩
  · obtain ⟨G, off, rfl, _⟩ := hR.form h0
    obtain ⟨p, c2, w', hr, hg⟩ := append_rd (cc := cc) hown hR h0 hl hm1 hB
    exact ⟨p, c2, w', hr, hg.own, hg.b⟩
/-- Bytes, and bytes behind them, in a row of their own. -/
theorem app_two {w : World} {n m c d : Nat} {p q : Option Addr} {l b : List Int} (h1 : Rd w p n l) (h2 : Rd w q m b) (hn : n ≤ 1000) (hm : m ≤ 1000) :
    ∃ p1 c1 w1 p2 c2 w2, (Builtin.append_ #[23, 23] 23 #[.slice (some ⟨w.heap.size, 0, none⟩) 0 0, .slice p n c]).run Tryd.prog (w.alloc (.cells #[] 5)) = .ok (.slice p1 n c1) w1 ∧
      (Builtin.append_ #[23, 23] 23 #[.slice p1 n c1, .slice q m d]).run Tryd.prog w1 = .ok (.slice p2 (n + m) c2) w2 ∧ w2.ownsRow w.heap.size 5 1 (.slice p2 (l ++ b).length c2) (l ++ b).length (bcells (l ++ b)) ∧ Below w.heap.size w w2 := by
  have hrow : RowB w.heap.size [] (w.alloc (.cells #[] 5)) := heap_alloc_new _ _
  have hbV : Below w.heap.size w (w.alloc (.cells #[] 5)) := (Below.refl _ _).alloc (Nat.le_refl _) _
  have hown := row_owned (k := 0) hrow rfl (Nat.le_refl _) (by omega)
  have e1 := h1.1
  have e2 := h2.1
  obtain ⟨p1, c1, w1, hr1, ho1, hb1⟩ := append_any (cc := c) hown (h1.below hbV) (by simp) (by omega) hbV.size
  rw [List.nil_append] at hr1 ho1
  have hb01 := hbV.trans hb1
  obtain ⟨p2, c2, w2, hr2, ho2, hb2⟩ := append_any (cc := d) ho1 (h2.below hb01) (by omega) (by omega) hb01.size
  rw [e1] at hr1 hr2
  rw [List.length_append, e1, e2] at hr2
  exact ⟨p1, c1, w1, p2, c2, w2, hr1, hr2, ho2, hb01.trans hb2⟩
theorem app_at (l b : List Int) (i : Nat) (h : i < l.length) : (l ++ b).getD i 0 = l.getD i 0 := by
  rw [List.getD_eq_getElem?_getD, List.getElem?_append_left h, List.getD_eq_getElem?_getD]
theorem strOf_inj {a b : List Int} (ha : Bys a) (hb : Bys b) (h : strOf a = strOf b) : a = b := by rw [← unstr_strOf a ha, h, unstr_strOf b hb]
theorem aft_bys {l : List Int} (h : Bys l) : Bys (aft l) := by
  unfold aft
  split
  · exact Bys.nil
  · rename_i hn
    intro x hx
    rcases List.mem_or_eq_of_mem_set hx with h1 | h1
    · exact h x (List.mem_of_mem_take h1)
    · have hle := stripN_le l l.length
      have h255 := stripN_last l l.length (by omega)
      have hb : 0 ≤ l.getD (stripN l l.length - 1) 0 ∧ l.getD (stripN l l.length - 1) 0 ≤ 255 := by
        rw [List.getD_eq_getElem?_getD, List.getElem?_eq_getElem (by omega)]
        exact h _ (List.getElem_mem _)
      rw [h1]
      omega
end Go.Proofs.YtebhbcbcnjdgjaaDoor.dk
