/- Rows of numbers that a call makes itself; a text's bytes as a slice. -/
import Derived.Test.YtbajejhhmacflaaDoorUtfU
import Derived.Test.YtbajejhhmacflaaDoorUtfML
import Derived.Lib.ConvBytes
namespace Go.Proofs.YtbajejhhmacflaaDoor.utf
open Go.PlainAid Go.ChangeShapes Go.WideShapes Go.ChangeAt Go.RowKit

def icells (l : List Int) : List Value := l.map (Value.int .i64)
theorem icells_length (l : List Int) : (icells l).length = l.length := by simp [icells]
theorem icells_append (a b : List Int) : icells (a ++ b) = icells a ++ icells b := by simp [icells]
theorem icells_at (l : List Int) (j : Nat) (h : j < l.length) : (icells l)[j]? = some (.int .i64 (gl l j)) := by
  unfold icells gl
  rw [List.getElem?_map, List.getD_eq_getElem?_getD, List.getElem?_eq_getElem h]
  rfl
theorem icells_one (l : List Int) : ∀ u ∈ icells l, u.oneCell' = true := by
  intro u hu
  obtain ⟨x, _, rfl⟩ := List.mem_map.1 hu
  rfl
theorem infoInt : (Tryd.prog.info? 3).map (fun i => (i.zero, i.size, i.bytes)) = some (some (.int .i64 0), 1, 8) := by kernel_rfl

/-- append(s, x) of one number: s a row of the call's own. -/
theorem wpList_append_i {w : World} {ops : Array Oper} {rest : List Oper} {o : Oper} {a : Act} {Q : Exit → Act → World → Prop} (hgd : o.guard = none) (s x : Operand)
    (ho : o.op = .call { callee := .builtin .append, args := #[s, x], argTypes := #[37, 37] })
    (base : Nat) (sv : Value) (n : Nat) (xs : List Int) (hs : a.eval s = sv) (hown : w.ownsRow base 3 1 sv n (icells xs))
    (ad : Addr) (c : Nat) (y : Int) (hx : a.eval x = .slice (some ad) 1 c) (hy : w.cell? (ad.add 0) = some (.int .i64 y))
    (hlen : n ≤ 1000000) (hbase : base ≤ w.heap.size)
    (h : ∀ v' w', w'.ownsRow base 3 1 v' (n + 1) (icells (xs ++ [y])) → Below base w w' →
      wpList Tryd.prog ops Q rest (a.put o.dst v') w') : wpList Tryd.prog ops Q (o :: rest) a w := by
  obtain ⟨i0, hi, hz0, hz1, hz2⟩ := info_parts infoInt
  refine wpList_append_own w hgd s x _ ho base 3 i0 (.int .i64 0) 1 8 Tryd.underlying37 hi hz0 hz1 hz2 rfl (by decide) _ n (icells xs) hs hown ad 1 c (icells [y]) hx
    rfl (fun j u hj => ?_) (icells_one [y]) (by unfold maxLen; omega) (by omega) hbase ?_
  · match j, hj with
    | 0, hj => cases hj; exact hy
    | j + 1, hj => simp [icells] at hj
  intro v' w' h1 h2 _
  have hb : Below base w w' := (Below.refl _ _).grown h2 hbase (fun k hk => (hown.lt k hk).1)
  rw [← icells_append] at h1
  exact h v' w' h1 hb

/-- The slice v reads as the numbers l. -/
def Is (w : World) (v : Value) (l : List Int) : Prop :=
  (v = .slice none 0 0 ∧ l = []) ∨ ∃ b cap, v = .slice (some ⟨b, 0, none⟩) l.length cap ∧ 0 < l.length ∧ l.length ≤ cap ∧ b < w.heap.size ∧ ∀ i, i < l.length → w.cell? ⟨b, i, none⟩ = some (.int .i64 (gl l i))
theorem Is.below {w w' : World} {v : Value} {l : List Int} (h : Is w v l) (hb : Below w.heap.size w w') : Is w' v l := by
  rcases h with h | ⟨b, cap, hv, h0, hc, hlt, h⟩
  · exact .inl h
  · exact .inr ⟨b, cap, hv, h0, hc, Nat.lt_of_lt_of_le hlt hb.size, fun i hi => (hb.cell (p := ⟨b, i, none⟩) hlt).trans (h i hi)⟩
theorem Is_own {w : World} {B n : Nat} {v : Value} {l : List Int} (hn : n = l.length) (h0 : n = 0 → v = .slice none 0 0) (h : w.ownsRow B 3 1 v n (icells l)) : Is w v l := by
  subst hn
  obtain ⟨_, h⟩ := h
  rcases h with ⟨hv, h0⟩ | ⟨g, cap, cur, hv, hg, hh, hn, hc, hsz, ht⟩
  · exact .inl ⟨hv, List.length_eq_zero_iff.1 h0⟩
  by_cases hl : l.length = 0
  · exact .inl ⟨h0 hl, List.length_eq_zero_iff.1 hl⟩
  refine .inr ⟨g, cap, hv, by omega, hn, ?_, fun i hi => ?_⟩
  · rcases Nat.lt_or_ge g w.heap.size with k | k
    · exact k
    · simp [Array.getElem?_eq_none k] at hh
  · rw [cell_of_row w g i cur _ _ hh, ← Array.getElem?_toList]
    have := icells_at l i hi
    rw [← ht, Nat.mul_one, List.getElem?_take, if_pos hi] at this
    exact this

/-- What is laid new in no block of the row leaves it. -/
theorem own_below {w w' : World} {B : Nat} {t : TypeId} {v : Value} {n : Nat} {xs : List Value} (h : w.ownsRow B t 1 v n xs) (hb : Below w.heap.size w w') : w'.ownsRow B t 1 v n xs := by
  refine ⟨h.1, ?_⟩
  rcases h.2 with h' | ⟨g, cap, cur, hv, hg, hh, hn, hc, hsz, ht⟩
  · exact .inl h'
  · refine .inr ⟨g, cap, cur, hv, hg, ?_, hn, hc, hsz, ht⟩
    have hlt : g < w.heap.size := by
      rcases Nat.lt_or_ge g w.heap.size with k | k
      · exact k
      · simp [Array.getElem?_eq_none k] at hh
    rw [← hh]
    exact hb.block g hlt

theorem bytes_below' (w : World) (s : ByteArray) (T : TypeId) : Below w.heap.size w (Lib.bytesWorld w T s) :=
  ⟨rfl, rfl, rfl, by rw [Lib.bytesWorld_size]; omega, fun k hk => Lib.bytesWorld_at_old w T s k hk⟩
theorem conv_cells (w : World) (s : ByteArray) (i : Nat) (hi : i < s.size) : (Lib.bytesWorld w 5 s).cell? ⟨w.heap.size, i, none⟩ = some (.int .u8 (gl (ints s) i)) := by
  rw [Lib.bytesWorld_cell _ _ _ _ hi, ints_gl]
  unfold bt
  rw [dif_pos hi, List.getD_eq_getElem?_getD, List.getElem?_eq_getElem (by simpa using hi)]
  rfl
end Go.Proofs.YtbajejhhmacflaaDoor.utf
