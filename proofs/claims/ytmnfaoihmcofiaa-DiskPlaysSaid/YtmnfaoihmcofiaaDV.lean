/- The document's disk: zeros, Read. -/
import Derived.Test.YtmnfaoihmcofiaaDU
import Derived.Laws.IdiomStrings
namespace Go.Proofs.Ytmnfaoihmcofiaa.dk
open Go.PlainAid Go.ChangeShapes Go.WideShapes Go.ChangeAt Go.RowKit

theorem zeros_any (w : World) : Calls Try.prog 25 #[] w fun e w' => e = .returned (.string (strOf (List.replicate 64 0))) ∧ Below w.heap.size w w' := by
  have hm : ∀ W : World, (Instr.makeSlice 32 (.int .i64 64) (.int .i64 64)).run Try.prog W = .ok (.slice (some ⟨W.heap.size, 0, none⟩) 64 64) (W.alloc (.cells (bcells (List.replicate 64 0)).toArray 5)) := fun W => make_run 1 (by omega) W
  have hR : Rd (w.alloc (.cells (bcells (List.replicate 64 0)).toArray 5)) (some ⟨w.heap.size, 0, none⟩) 64 (List.replicate 64 0) := ⟨List.length_replicate, fun _ => ⟨_, _, rfl, (Array.getElem?_eq_some_iff.1 (heap_alloc_new w _)).1, fun i hi => by
    rw [cell_of_row _ _ _ _ _ _ (heap_alloc_new w _), List.getElem?_toArray, Nat.zero_add]
    exact bcells_at _ _ (by rw [List.length_replicate]; exact hi)⟩⟩
  have hc := conv_rd (c := 64) hR
  have hb : Below w.heap.size w (w.alloc (.cells (bcells (List.replicate 64 0)).toArray 5)) := (Below.refl _ _).alloc (Nat.le_refl _) _
  clear hR
  generalize (bcells (List.replicate 64 0)).toArray = zs at *
  generalize strOf (List.replicate 64 0) = zz at *
  go_enter Try.func25, Try.ntmps25
  go_wp2
  go_ret
  exact ⟨rfl, hb⟩
theorem rRead_dead {B D : Nat} {S P : Value} {r : Rk} {w : World} (h : RefAt B D S P r w) (hd : r.gone = true) (i : Int) :
    Calls Try.prog 20 #[.pointer (some ⟨D, 0, none⟩), .int .i64 i] w fun e w' => e = .returned (.tuple #[.slice none 0 0, .int .i64 10]) ∧ w = w' := by
  have k3 := h.cell 3
  simp only [rcells] at k3
  simp at k3
  rw [hd] at k3
  go_enter Try.func20, Try.ntmps20
  go_wp2
  go_ret2
  exact ⟨rfl, rfl⟩
/-- The rows as slices. -/
theorem own_form {w : World} {B s : Nat} {t : TypeId} {v : Value} {n : Nat} {xs : List Value} (h : w.ownsRow B t s v n xs) : ∃ p c, v = .slice p n c := by
  rcases h.2 with ⟨hv, h0⟩ | ⟨g', cap, cur, hv, _, hh, hn, _⟩
  · subst h0; exact ⟨_, _, hv⟩
  · exact ⟨_, _, hv⟩
theorem rRead_arg {B D : Nat} {S P : Value} {r : Rk} {w : World} (h : RefAt B D S P r w) (hd : r.gone = false) (i : Int) (hi : i < 0 ∨ (r.S.length : Int) ≤ i) :
    Calls Try.prog 20 #[.pointer (some ⟨D, 0, none⟩), .int .i64 i] w fun e w' => e = .returned (.tuple #[.slice none 0 0, .int .i64 1]) ∧ w = w' := by
  obtain ⟨p, c, rfl⟩ := own_form h.hS
  have k0 := h.cell 0
  have k3 := h.cell 3
  simp only [rcells] at k0 k3
  simp at k0 k3
  rw [hd] at k3
  generalize r.S.length = n at *
  rcases (show i < 0 ∨ (0 ≤ i ∧ (n : Int) ≤ i) by omega) with hi | ⟨h0, hi⟩
  · have d1 : decide (i < 0) = true := decide_eq_true hi
    go_enter Try.func20, Try.ntmps20
    go_wp2
    go_ret2
    exact ⟨rfl, rfl⟩
  · have d1 : decide (i < 0) = false := decide_eq_false (by omega)
    have d2 : decide ((n : Int) ≤ i) = true := decide_eq_true hi
    go_enter Try.func20, Try.ntmps20
    go_wp2
    go_ret2
    exact ⟨rfl, rfl⟩
end Go.Proofs.Ytmnfaoihmcofiaa.dk
