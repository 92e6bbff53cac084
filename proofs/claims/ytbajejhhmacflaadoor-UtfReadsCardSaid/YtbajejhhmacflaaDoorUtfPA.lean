/- Put behind any bytes: what the walk needs, and the walks. -/
import Derived.Test.YtbajejhhmacflaaDoorUtfU
import Derived.Laws.CopyOwn
import Derived.Laws.MakeOwn
namespace Go.Proofs.YtbajejhhmacflaaDoor.utf
open Go.PlainAid Go.ChangeShapes Go.WideShapes Go.ChangeAt Go.RowKit

/-- A row that begins with the bytes l, and t behind them. -/
def RowAt (W : World) (g : Nat) (l : List Int) (t : List Value) : Prop := W.heap[g]? = some (.cells (bcells l ++ t).toArray 5 (0, 0))
theorem RowAt.cell {W : World} {g : Nat} {l : List Int} {t : List Value} (h : RowAt W g l t) (j : Nat) : W.cell? ⟨g, l.length + j, none⟩ = t[j]? := by
  rw [cell_of_row _ _ _ _ _ _ h]
  rw [List.getElem?_toArray, List.getElem?_append_right (by rw [bcells_length]; omega), bcells_length]
  congr 1
  omega
theorem RowAt.frozen {W : World} {g : Nat} {l : List Int} {t : List Value} (h : RowAt W g l t) (o : Nat) : W.frozen? ⟨g, o, none⟩ = false := by
  unfold RowAt at h
  simp [World.frozen?, h]
theorem RowAt.store {W : World} {g : Nat} {l : List Int} {t : List Value} (h : RowAt W g l t) (j : Nat) (v : Value) :
    RowAt (W.setCell ⟨g, l.length + j, none⟩ v) g l (t.set j v) := by
  rw [setCell_eq_setRow W g (l.length + j) _ _ _ v h]
  have := setRow_heap W g _ ((bcells l ++ t).toArray.setIfInBounds (l.length + j) v) _ _ h
  unfold RowAt
  rw [this]
  congr 2
  rw [List.setIfInBounds_toArray, List.set_append_right _ _ (by rw [bcells_length]; omega), bcells_length]
  congr 3
  omega
theorem RowAt.below {W W0 : World} {g B : Nat} {l : List Int} {t : List Value} (h : RowAt W g l t) (o : Nat) (v : Value) (hb : Below B W0 W) (hB : B ≤ g) :
    Below B W0 (W.setCell ⟨g, o, none⟩ v) := by
  rw [setCell_eq_setRow W g o _ _ _ v h]
  exact below_setRow hb hB _
theorem RowAt.bs {W : World} {g : Nat} {l m : List Int} (h : RowAt W g l (bcells m)) (h0 : 0 < m.length) (hg : g < W.heap.size) (k : Nat) (hk : k = (l ++ m).length) :
    Bs W (.slice (some ⟨g, 0, none⟩) k k) (l ++ m) := by
  subst hk
  refine .inr ⟨g, 0, _, rfl, by rw [List.length_append]; omega, Nat.le_refl _, hg, fun i hi => ?_⟩
  rw [Nat.zero_add, cell_of_row _ _ _ _ _ _ h, ← bcells_append, List.getElem?_toArray]
  exact bcells_at _ i hi

theorem RowAt.store' {W : World} {g n : Nat} {l : List Int} {t : List Value} (hl : l.length = n) (h : RowAt W g l t) (j : Nat) (v : Value) :
    RowAt (W.setCell ⟨g, n + j, none⟩ v) g l (t.set j v) := by subst hl; exact h.store j v
theorem RowAt.of {W : World} {g : Nat} {l m : List Int} {t : List Value} (h : RowAt W g l t) (e : t = bcells m) : RowAt W g l (bcells m) := e ▸ h

theorem made_zeros (k : Nat) : madeCells #[Value.int .u8 0] k = (List.replicate k (Value.int .u8 0)).toArray := by
  unfold madeCells
  apply Array.ext
  · simp
  · intro i h1 h2
    simp [Nat.mod_one]

/-- The new memory, and the bytes copied there. -/
theorem put_frame (w : World) (p : Option Addr) (n c k : Nat) (l : List Int) (L : Int) (hL : L = ((n + k : Nat) : Int)) (hB : Bs w (.slice p n c) l) (hl : l.length = n) (hn : n ≤ 140737488351232) (hk : k ≤ 4) :
    ∃ W0 W1, (Instr.makeSlice 22 (.int .i64 L) (.int .i64 L)).run Tryd.prog w = .ok (.slice (some ⟨w.heap.size, 0, none⟩) (n + k) (n + k)) W0 ∧
      (Builtin.copy_ #[22, 22] 3 #[.slice (some ⟨w.heap.size, 0, none⟩) (n + k) (n + k), .slice p n c]).run Tryd.prog W0 = .ok (.int .i64 (n : Int)) W1 ∧
      Below w.heap.size w W1 ∧ w.heap.size < W1.heap.size ∧ RowAt W1 w.heap.size l (List.replicate k (.int .u8 0)) := by
  obtain ⟨i0, hi, hz0, hz1, hz2⟩ := info_byte
  subst hL
  have hm := run_make (P := Tryd.prog) w 22 5 i0 (.int .u8 0) Tryd.underlying22 hi hz0 .i64 .i64 ((n + k : Nat) : Int) ((n + k : Nat) : Int) (by omega) (by omega) (by rw [hz2]; omega) (by omega)
  rw [hz1, Nat.mul_one, Int.toNat_natCast, show (Value.int .u8 0).cells = #[Value.int .u8 0] from rfl, made_zeros] at hm
  have hg := heap_alloc_new w (.cells (List.replicate (n + k) (Value.int .u8 0)).toArray 5)
  have hb0 : Below w.heap.size w (w.alloc (.cells (List.replicate (n + k) (Value.int .u8 0)).toArray 5)) := (Below.refl _ _).alloc (Nat.le_refl _) _
  have hsz : (Tryd.prog.info? 5).map (·.size) = some 1 := by rw [hi]; simp [hz1]
  rcases hB with ⟨p', c', hv, rfl⟩ | ⟨b, off, cap, hv, h0, hc, hlt, h⟩
  · injection hv with hp hn0 hcc
    subst hl
    refine ⟨_, _, hm, run_copy_none _ _ _ _ 5 _ _ _ _ _ _ Tryd.underlying22 hsz (by simp), hb0, by simp, ?_⟩
    unfold RowAt
    rw [hg]
    simp [bcells]
  · injection hv with hp hn0 hcc
    subst hp
    have hcp := run_copy_row (P := Tryd.prog) (w.alloc (.cells (List.replicate (n + k) (Value.int .u8 0)).toArray 5)) 22 22 3 5 w.heap.size 0 (n + k) (n + k) ⟨b, off, none⟩ n c _ 5 (bcells l) Tryd.underlying22 hsz hg
      (by rw [bcells_length, hl]; show n = min n (n + k); omega)
      (fun j v hj => by
        have hj' : j < l.length := by have := (List.getElem?_eq_some_iff.1 hj).1; rwa [bcells_length] at this
        rw [bcells_at l j hj'] at hj
        injection hj with hj
        subst hj
        rw [show (⟨b, off, none⟩ : Addr).add j = ⟨b, off + j, none⟩ by unfold Addr.add; split <;> simp_all]
        exact (hb0.cell (p := ⟨b, off + j, none⟩) hlt).trans (h j hj'))
      (by simp [bcells_length]; omega) (bcells_one l)
    rw [bcells_length, hl] at hcp
    refine ⟨_, _, hm, hcp, below_setRow hb0 (Nat.le_refl _) _, by simp [World.setRow], ?_⟩
    unfold RowAt
    rw [setRow_heap _ _ _ _ _ _ hg]
    simp
end Go.Proofs.YtbajejhhmacflaaDoor.utf
