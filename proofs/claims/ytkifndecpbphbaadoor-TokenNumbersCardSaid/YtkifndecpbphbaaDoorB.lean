/- Rows of three and four cells; results that lie in a row. -/
import Derived.Test.YtkifndecpbphbaaDoorA
namespace Go.Proofs.YtkifndecpbphbaaDoor.dk
open Go.PlainAid Go.ChangeShapes Go.WideShapes Go.ChangeAt Go.RowKit

theorem results_row_tmp {P : Program} {fn : Func} {p u : Tmp} {ty : TypeId} (h : fn.results = #[.cell p ty, .tmp u]) (tmps : Array Value) (w : World) (g : Nat) (t : TypeId) (cs : Array Value) (fr : Nat × Nat) (d : TypeDesc)
    (hp : tmps.getD p undef = .pointer (some ⟨g, 0, none⟩)) (hg : w.heap[g]? = some (.cells cs t fr))
    (hu : P.underlying ty = some d) (hd : (match d with | .struct _ | .array _ _ => true | _ => false) = true) (hi : (P.info? ty).map (·.size) = some cs.size) :
    (results fn tmps).run P w = .ok (.tuple #[.agg cs, tmps.getD u undef]) w := by
  rw [results_cell_tmp h, hp]
  simp [asAddr, run_loadVar_row w g t ty cs fr d hg hu hd hi, Result.andThen]
theorem stepSet {W W0 : World} {A B : Nat} {t : TypeId} {cs : Array Value} (j : Nat) (v : Value) (hB : B ≤ A) (h : W.heap[A]? = some (.cells cs t (0, 0)) ∧ Below B W0 W) : (W.setCell ⟨A, j, none⟩ v).heap[A]? = some (.cells (cs.setIfInBounds j v) t (0, 0)) ∧ Below B W0 (W.setCell ⟨A, j, none⟩ v) := by
  rw [setCell_eq_setRow W A j _ _ _ v h.1]
  exact ⟨setRow_heap W A _ _ _ _ h.1, below_setRow h.2 hB _⟩
theorem set3 {W W0 : World} {A B : Nat} {t : TypeId} {a0 a1 a2 v0 v1 v2 : Value} (h : W.heap[A]? = some (.cells #[a0, a1, a2] t (0, 0))) (hB : B ≤ A) (hb : Below B W0 W) :
    (((W.setCell ⟨A, 0, none⟩ v0).setCell ⟨A, 1, none⟩ v1).setCell ⟨A, 2, none⟩ v2).heap[A]? = some (.cells #[v0, v1, v2] t (0, 0)) ∧ Below B W0 (((W.setCell ⟨A, 0, none⟩ v0).setCell ⟨A, 1, none⟩ v1).setCell ⟨A, 2, none⟩ v2) := by
  have h0 := stepSet 0 v0 hB ⟨h, hb⟩
  have h1 := stepSet 1 v1 hB h0
  have h2 := stepSet 2 v2 hB h1
  simpa using h2
theorem row3 {V : World} {A : Nat} {t : TypeId} {a0 a1 a2 : Value} (h : V.heap[A]? = some (.cells #[a0, a1, a2] t (0, 0))) : (V.cell? ⟨A, 0, none⟩ = some a0 ∧ V.cell? ⟨A, 1, none⟩ = some a1 ∧ V.cell? ⟨A, 2, none⟩ = some a2) ∧ (V.frozen? ⟨A, 0, none⟩ = false ∧ V.frozen? ⟨A, 1, none⟩ = false ∧ V.frozen? ⟨A, 2, none⟩ = false) := by
  have hc := fun j => cell_of_row V A j _ _ _ h
  refine ⟨⟨hc 0, hc 1, hc 2⟩, ?_, ?_, ?_⟩ <;> exact frozen_of_row _ _ _ _ _ h
theorem set4 {W W0 : World} {A B : Nat} {t : TypeId} {a0 a1 a2 a3 v0 v1 v2 v3 : Value} (h : W.heap[A]? = some (.cells #[a0, a1, a2, a3] t (0, 0))) (hB : B ≤ A) (hb : Below B W0 W) :
    ((((W.setCell ⟨A, 0, none⟩ v0).setCell ⟨A, 1, none⟩ v1).setCell ⟨A, 2, none⟩ v2).setCell ⟨A, 3, none⟩ v3).heap[A]? = some (.cells #[v0, v1, v2, v3] t (0, 0)) ∧ Below B W0 ((((W.setCell ⟨A, 0, none⟩ v0).setCell ⟨A, 1, none⟩ v1).setCell ⟨A, 2, none⟩ v2).setCell ⟨A, 3, none⟩ v3) := by
  have h0 := stepSet 0 v0 hB ⟨h, hb⟩
  have h1 := stepSet 1 v1 hB h0
  have h2 := stepSet 2 v2 hB h1
  have h3 := stepSet 3 v3 hB h2
  simpa using h3
theorem row4 {V : World} {A : Nat} {t : TypeId} {a0 a1 a2 a3 : Value} (h : V.heap[A]? = some (.cells #[a0, a1, a2, a3] t (0, 0))) : (V.cell? ⟨A, 0, none⟩ = some a0 ∧ V.cell? ⟨A, 1, none⟩ = some a1 ∧ V.cell? ⟨A, 2, none⟩ = some a2 ∧ V.cell? ⟨A, 3, none⟩ = some a3) ∧ (V.frozen? ⟨A, 0, none⟩ = false ∧ V.frozen? ⟨A, 1, none⟩ = false ∧ V.frozen? ⟨A, 2, none⟩ = false ∧ V.frozen? ⟨A, 3, none⟩ = false) := by
  have hc := fun j => cell_of_row V A j _ _ _ h
  refine ⟨⟨hc 0, hc 1, hc 2, hc 3⟩, ?_, ?_, ?_, ?_⟩ <;> exact frozen_of_row _ _ _ _ _ h
end Go.Proofs.YtkifndecpbphbaaDoor.dk
