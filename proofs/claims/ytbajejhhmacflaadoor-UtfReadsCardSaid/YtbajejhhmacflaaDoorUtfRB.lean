/- The document's answer: which numbers are characters. -/
import Derived.Test.YtbajejhhmacflaaDoorUtfRA
namespace Go.Proofs.YtbajejhhmacflaaDoor.utf
open Go.PlainAid Go.ChangeShapes Go.WideShapes Go.ChangeAt Go.RowKit

def okRune (r : Int) : Bool := decide (0 ≤ r ∧ (r < 55296 ∨ 57343 < r) ∧ r ≤ 1114111)
theorem Rvalid (r : Int) (w : World) :
    Calls Tryd.prog 27 #[.int .i64 r] w fun e w' => e = .returned (.bool (okRune r)) ∧ w = w' := by
  have key : ∀ b : Bool, (b = true ↔ 0 ≤ r ∧ (r < 55296 ∨ 57343 < r) ∧ r ≤ 1114111) → b = okRune r := fun b h => Bool.eq_iff_iff.2 (h.trans (by unfold okRune; simp))
  generalize okRune r = q at key ⊢
  have KEY := Lib.hid key
  clear key
  go_enter Tryd.func27, Tryd.ntmps27
  go_wp2
  all_goals go_ret
  all_goals (refine ⟨congrArg (fun b => Ending.returned (.bool b)) (KEY.out _ ?_), rfl⟩; simp; try omega)
theorem Rbytes_any (r : Int) (w : World) (h0 : 0 ≤ r) (h1 : r ≤ 1114111) :
    Calls Tryd.prog 29 #[.int .i64 r] w fun e w' => e = .returned (.slice (some ⟨w.heap.size, 0, none⟩) (enc r).length (enc r).length) ∧ w.alloc (.cells (encCells r) 5) = w' := by
  have l1 : ∀ x : Int, x < 128 → (enc x).length = 1 := fun x h => by unfold enc; rw [if_pos h]; rfl
  have l2 : ∀ x : Int, ¬ x < 128 → x < 2048 → (enc x).length = 2 := fun x h k => by unfold enc; rw [if_neg h, if_pos k]; rfl
  have l3 : ∀ x : Int, ¬ x < 2048 → x < 65536 → (enc x).length = 3 := fun x h k => by unfold enc; rw [if_neg (show ¬ x < 128 by omega), if_neg h, if_pos k]; rfl
  have l4 : ∀ x : Int, ¬ x < 65536 → x < 1114112 → (enc x).length = 4 := fun x h k => by unfold enc; rw [if_neg (show ¬ x < 128 by omega), if_neg (show ¬ x < 2048 by omega), if_neg h, if_pos k]; rfl
  by_cases a : r < 128
  · rw [l1 r a]; exact Rbytes_1 r w h0 a
  by_cases b : r < 2048
  · rw [l2 r a b]; exact Rbytes_2 r w (by omega) b
  by_cases c : r < 65536
  · rw [l3 r b c]; exact Rbytes_3 r w (by omega) c
  · rw [l4 r c (by omega)]; exact Rbytes_4 r w (by omega) h1
end Go.Proofs.YtbajejhhmacflaaDoor.utf
