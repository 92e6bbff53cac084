/- Slices of bytes that the call makes itself: what append leaves. -/
import Derived.Test.YtbajejhhmacflaaDoorUtfP
import Derived.Test.YtbajejhhmacflaaDoorUtfQ
namespace Go.Proofs.YtbajejhhmacflaaDoor.utf
open Go.PlainAid Go.ChangeShapes Go.WideShapes Go.ChangeAt Go.RowKit

/-- Bytes as cells. -/
def bcells (l : List Int) : List Value := l.map (Value.int .u8)
theorem bcells_length (l : List Int) : (bcells l).length = l.length := by simp [bcells]
theorem bcells_append (a b : List Int) : bcells (a ++ b) = bcells a ++ bcells b := by simp [bcells]
theorem bcells_at (l : List Int) (j : Nat) (h : j < l.length) : (bcells l)[j]? = some (.int .u8 (gl l j)) := by
  unfold bcells gl
  rw [List.getElem?_map, List.getD_eq_getElem?_getD, List.getElem?_eq_getElem h]
  rfl
theorem bcells_one (l : List Int) : ∀ u ∈ bcells l, u.oneCell' = true := by
  intro u hu
  obtain ⟨x, _, rfl⟩ := List.mem_map.1 hu
  rfl
theorem info_byte : ∃ i, Tryd.prog.info? 5 = some i ∧ i.zero = some (.int .u8 0) ∧ i.size = 1 ∧ i.bytes = 1 := by
  obtain ⟨i0, hi, hz0, hz1, hz2⟩ := info_parts infoByte
  exact ⟨i0, hi, hz0, hz1, hz2⟩

/-- A row of the call's own reads as the bytes that it holds. -/
theorem Bs_own {w : World} {B : Nat} {v : Value} {l : List Int} (h : w.ownsRow B 5 1 v l.length (bcells l)) : Bs w v l := by
  obtain ⟨_, h⟩ := h
  rcases h with ⟨hv, h0⟩ | ⟨g, cap, cur, hv, hg, hh, hn, hc, hsz, ht⟩
  · exact .inl ⟨none, 0, hv, List.length_eq_zero_iff.1 h0⟩
  by_cases h0 : l.length = 0
  · exact .inl ⟨_, _, by rw [hv, h0], List.length_eq_zero_iff.1 h0⟩
  refine .inr ⟨g, 0, cap, hv, by omega, hn, ?_, fun i hi => ?_⟩
  · rcases Nat.lt_or_ge g w.heap.size with k | k
    · exact k
    · simp [Array.getElem?_eq_none k] at hh
  · rw [Nat.zero_add, cell_of_row w g i cur _ _ hh, ← Array.getElem?_toList]
    have := bcells_at l i hi
    rw [← ht, Nat.mul_one, List.getElem?_take, if_pos hi] at this
    exact this

/-- What append is given: the cells of a slice of bytes. -/
theorem Bs_news {w : World} {a : Addr} {m c : Nat} {l : List Int} (h : Bs w (.slice (some a) m c) l) : m = l.length ∧ ∀ j u, (bcells l)[j]? = some u → w.cell? (a.add j) = some u := by
  rcases h with ⟨p, c', hv, rfl⟩ | ⟨b, off, cap, hv, h0, hc, hlt, h⟩
  · injection hv with _ hm _
    exact ⟨hm, fun j u hj => by simp [bcells] at hj⟩
  · injection hv with ha hm _
    injection ha with ha
    subst ha
    refine ⟨hm, fun j u hj => ?_⟩
    have hjl : j < l.length := by
      have := List.getElem?_eq_some_iff.1 hj
      obtain ⟨k, _⟩ := this
      rwa [bcells_length] at k
    rw [bcells_at l j hjl] at hj
    cases hj
    have e : (⟨b, off, none⟩ : Addr).add j = ⟨b, off + j, none⟩ := by unfold Addr.add; split <;> simp_all
    rw [e]
    exact h j hjl

/-- The empty slice that the call makes. -/
theorem own_empty (w : World) (B : Nat) (hB : B ≤ w.heap.size) : (w.alloc (.cells #[] 5)).ownsRow B 5 1 (.slice (some ⟨w.heap.size, 0, none⟩) 0 0) 0 (bcells []) :=
  ⟨rfl, .inr ⟨w.heap.size, 0, #[], rfl, hB, heap_alloc_new w _, by omega, by decide, rfl, rfl⟩⟩

/-- What Put(nil, r) has made reads as the character's bytes. -/
theorem Bs_put (w : World) (r : Int) : Bs (w.alloc (.cells (encCells r) 5)) (.slice (some ⟨w.heap.size, 0, none⟩) (enc r).length (enc r).length) (enc r) := by
  have hl := enc_len r
  refine .inr ⟨w.heap.size, 0, _, rfl, by omega, Nat.le_refl _, by simp, fun i hi => ?_⟩
  rw [Nat.zero_add, cell_of_row _ w.heap.size i _ _ _ (heap_alloc_new w _)]
  have := bcells_at (enc r) i hi
  unfold encCells
  rw [← this]
  simp [bcells]
/-- .. and its first bytes. -/
theorem Bs_take {w : World} {b off len cap k : Nat} {l : List Int} (h : Bs w (.slice (some ⟨b, off, none⟩) len cap) l) (hk : k ≤ l.length) : Bs w (.slice (some ⟨b, off, none⟩) k cap) (l.take k) := by
  by_cases h0 : k = 0
  · subst h0; exact .inl ⟨_, _, rfl, rfl⟩
  rcases h with ⟨p, c', hv, rfl⟩ | ⟨b', off', cap', hv, hpos, hc, hlt, h⟩
  · simp at hk; omega
  · injection hv with ha hm hcap
    injection ha with ha
    injection ha with hb ho
    subst hb ho hcap
    have e : (l.take k).length = k := by simp; omega
    refine .inr ⟨b, off, cap, by rw [e], by omega, by omega, hlt, fun i hi => ?_⟩
    rw [h i (by omega)]
    congr 2
    unfold gl
    rw [List.getD_eq_getElem?_getD, List.getD_eq_getElem?_getD, List.getElem?_take, if_pos (by omega)]
/-- A slice of a block below B reads as it did. -/
theorem Bs.under {w w' : World} {B b off len cap : Nat} {l : List Int} (h : Bs w (.slice (some ⟨b, off, none⟩) len cap) l) (hb : Below B w w') (hlt : b < B) : Bs w' (.slice (some ⟨b, off, none⟩) len cap) l := by
  rcases h with h | ⟨b', off', cap', hv, hpos, hc, hl, h⟩
  · exact .inl h
  · injection hv with ha hm hcap
    injection ha with ha
    injection ha with hb' ho
    subst hb' ho hcap
    exact .inr ⟨b, off, cap, by rw [hm], hpos, hc, Nat.lt_of_lt_of_le hl hb.size, fun i hi => (hb.cell (p := ⟨b, off + i, none⟩) hlt).trans (h i hi)⟩
end Go.Proofs.YtbajejhhmacflaaDoor.utf
