/- The contract of Put behind no bytes: a character's bytes. -/
import Derived.Test.YtkifndecpbphbaaDoorUJb
namespace Go.Proofs.YtkifndecpbphbaaDoor.utf
open Go.PlainAid Go.ChangeShapes Go.WideShapes Go.ChangeAt Go.RowKit

theorem or128 (b : Int) (h0 : 0 ≤ b) (h1 : b < 64) : bits .or .u8 128 b = 128 + b :=
  byte_case (P := fun b => b < 64 → bits .or .u8 128 b = 128 + b) (by decide +kernel) b h0 (by omega) h1
theorem and63 (x : Int) (h0 : 0 ≤ x) (h1 : x < 2147483648) : bits .and .i32 x 63 = x % 64 := by
  obtain ⟨n, rfl⟩ := Int.eq_ofNat_of_zero_le h0
  have := bits_mask .i32 31 (by decide) (fun m a b => by rw [IntKind.wrap_i32]; omega) 6 (by decide) n (by omega)
  have k : (n : Int) < 2147483648 → bits .and .i32 (n : Int) 63 = (n : Int) % 64 := by simpa using this
  exact k h1
/-- A byte behind the first one. -/
theorem tail_byte (x : Int) (h0 : 0 ≤ x) (h1 : x < 2147483648) : bits .or .u8 128 (bits .and .i32 x 63 % 256) = 128 + x % 64 := by
  rw [and63 x h0 h1, show x % 64 % 256 = x % 64 by omega, or128 _ (by omega) (by omega)]

/-- What is laid: the number, if it is a character's; else U+FFFD. -/
def fixed (r : Int) : Int := if 0 ≤ r ∧ (r < 55296 ∨ 57343 < r) ∧ r ≤ 1114111 then r else 65533
def encCells (r : Int) : Array Value := ((enc r).map (Value.int .u8)).toArray

set_option maxHeartbeats 2000000 in
set_option maxRecDepth 100000 in
theorem PutNil_1 (r : Int) (w : World) (h0 : 0 ≤ r) (h1 : r < 128) :
    Calls Tryd.prog 61 #[.slice none 0 0, .int .i32 r] w fun e w' => e = .returned (.slice (some ⟨w.heap.size, 0, none⟩) 1 1) ∧ w.alloc (.cells (encCells r) 5) = w' := by
  have hmk : ∀ w, (Instr.makeSlice 33 (.int .i64 1) (.int .i64 1)).run Tryd.prog w = .ok (.slice (some ⟨w.heap.size, 0, none⟩) 1 1) (w.alloc (.cells #[.int .u8 0] 5)) := fun _ => by kernel_rfl
  have hcp : ∀ w a, (Builtin.copy_ #[33, 33] 3 #[.slice (some a) 1 1, .slice none 0 0]).run Tryd.prog w = .ok (goInt 0) w := fun w a => run_copy_none w _ _ _ 5 (some a) none 1 1 0 0 Tryd.underlying33 (by kernel_rfl) rfl
  go_enter Tryd.func61, Tryd.ntmps61
  go_wp2
  go_ret
  refine ⟨rfl, ?_⟩
  unfold encCells enc
  rw [if_pos (show r < 128 by omega)]
  rfl

set_option maxHeartbeats 2000000 in
set_option maxRecDepth 100000 in
theorem PutNil_2 (r : Int) (w : World) (h0 : 128 ≤ r) (h1 : r < 2048) :
    Calls Tryd.prog 61 #[.slice none 0 0, .int .i32 r] w fun e w' => e = .returned (.slice (some ⟨w.heap.size, 0, none⟩) 2 2) ∧ w.alloc (.cells (encCells r) 5) = w' := by
  have hmk : ∀ w, (Instr.makeSlice 33 (.int .i64 2) (.int .i64 2)).run Tryd.prog w = .ok (.slice (some ⟨w.heap.size, 0, none⟩) 2 2) (w.alloc (.cells #[.int .u8 0, .int .u8 0] 5)) := fun _ => by kernel_rfl
  have hcp : ∀ w a, (Builtin.copy_ #[33, 33] 3 #[.slice (some a) 2 2, .slice none 0 0]).run Tryd.prog w = .ok (goInt 0) w := fun w a => run_copy_none w _ _ _ 5 (some a) none 2 2 0 0 Tryd.underlying33 (by kernel_rfl) rfl
  go_enter Tryd.func61, Tryd.ntmps61
  go_wp2
  go_rounds 2
  go_ret
  refine ⟨rfl, ?_⟩
  unfold encCells enc
  rw [if_neg (show ¬ r < 128 by omega), if_pos (show r < 2048 by omega)]
  rw [tail_byte r (by omega) (by omega)]
  rfl

set_option maxHeartbeats 2000000 in
set_option maxRecDepth 100000 in
theorem PutNil_3lo (r : Int) (w : World) (h0 : 2048 ≤ r) (hv : r < 55296) :
    Calls Tryd.prog 61 #[.slice none 0 0, .int .i32 r] w fun e w' => e = .returned (.slice (some ⟨w.heap.size, 0, none⟩) 3 3) ∧ w.alloc (.cells (encCells r) 5) = w' := by
  have hmk : ∀ w, (Instr.makeSlice 33 (.int .i64 3) (.int .i64 3)).run Tryd.prog w = .ok (.slice (some ⟨w.heap.size, 0, none⟩) 3 3) (w.alloc (.cells #[.int .u8 0, .int .u8 0, .int .u8 0] 5)) := fun _ => by kernel_rfl
  have hcp : ∀ w a, (Builtin.copy_ #[33, 33] 3 #[.slice (some a) 3 3, .slice none 0 0]).run Tryd.prog w = .ok (goInt 0) w := fun w a => run_copy_none w _ _ _ 5 (some a) none 3 3 0 0 Tryd.underlying33 (by kernel_rfl) rfl
  go_enter Tryd.func61, Tryd.ntmps61
  go_wp2
  go_rounds 3
  go_ret
  refine ⟨rfl, ?_⟩
  unfold encCells enc
  rw [if_neg (show ¬ r < 128 by omega), if_neg (show ¬ r < 2048 by omega), if_pos (show r < 65536 by omega)]
  rw [tail_byte (r / 64) (by omega) (by omega), tail_byte r (by omega) (by omega), show r / 64 / 64 = r / 4096 by omega]
  rfl

set_option maxHeartbeats 2000000 in
set_option maxRecDepth 100000 in
theorem PutNil_3hi (r : Int) (w : World) (hv : 57343 < r) (h1 : r < 65536) :
    Calls Tryd.prog 61 #[.slice none 0 0, .int .i32 r] w fun e w' => e = .returned (.slice (some ⟨w.heap.size, 0, none⟩) 3 3) ∧ w.alloc (.cells (encCells r) 5) = w' := by
  have hmk : ∀ w, (Instr.makeSlice 33 (.int .i64 3) (.int .i64 3)).run Tryd.prog w = .ok (.slice (some ⟨w.heap.size, 0, none⟩) 3 3) (w.alloc (.cells #[.int .u8 0, .int .u8 0, .int .u8 0] 5)) := fun _ => by kernel_rfl
  have hcp : ∀ w a, (Builtin.copy_ #[33, 33] 3 #[.slice (some a) 3 3, .slice none 0 0]).run Tryd.prog w = .ok (goInt 0) w := fun w a => run_copy_none w _ _ _ 5 (some a) none 3 3 0 0 Tryd.underlying33 (by kernel_rfl) rfl
  have d1 : decide (r < 55296) = false := decide_eq_false (by omega)
  have d2 : decide (57343 < r) = true := decide_eq_true (by omega)
  go_enter Tryd.func61, Tryd.ntmps61
  go_wp2
  go_rounds 3
  go_ret
  refine ⟨rfl, ?_⟩
  unfold encCells enc
  rw [if_neg (show ¬ r < 128 by omega), if_neg (show ¬ r < 2048 by omega), if_pos (show r < 65536 by omega)]
  rw [tail_byte (r / 64) (by omega) (by omega), tail_byte r (by omega) (by omega), show r / 64 / 64 = r / 4096 by omega]
  rfl

set_option maxHeartbeats 2000000 in
set_option maxRecDepth 100000 in
theorem PutNil_4 (r : Int) (w : World) (h0 : 65536 ≤ r) (h1 : r ≤ 1114111) :
    Calls Tryd.prog 61 #[.slice none 0 0, .int .i32 r] w fun e w' => e = .returned (.slice (some ⟨w.heap.size, 0, none⟩) 4 4) ∧ w.alloc (.cells (encCells r) 5) = w' := by
  have hmk : ∀ w, (Instr.makeSlice 33 (.int .i64 4) (.int .i64 4)).run Tryd.prog w = .ok (.slice (some ⟨w.heap.size, 0, none⟩) 4 4) (w.alloc (.cells #[.int .u8 0, .int .u8 0, .int .u8 0, .int .u8 0] 5)) := fun _ => by kernel_rfl
  have hcp : ∀ w a, (Builtin.copy_ #[33, 33] 3 #[.slice (some a) 4 4, .slice none 0 0]).run Tryd.prog w = .ok (goInt 0) w := fun w a => run_copy_none w _ _ _ 5 (some a) none 4 4 0 0 Tryd.underlying33 (by kernel_rfl) rfl
  have d1 : decide (r < 55296) = false := decide_eq_false (by omega)
  have d2 : decide (57343 < r) = true := decide_eq_true (by omega)
  go_enter Tryd.func61, Tryd.ntmps61
  go_wp2
  go_rounds 4
  go_ret
  refine ⟨rfl, ?_⟩
  unfold encCells enc
  rw [if_neg (show ¬ r < 128 by omega), if_neg (show ¬ r < 2048 by omega), if_neg (show ¬ r < 65536 by omega), if_pos (show r < 1114112 by omega)]
  rw [tail_byte (r / 64 / 64) (by omega) (by omega), tail_byte (r / 64) (by omega) (by omega), tail_byte r (by omega) (by omega), show r / 64 / 64 / 64 = r / 262144 by omega, show r / 64 / 64 = r / 4096 by omega]
  rfl

set_option maxHeartbeats 2000000 in
set_option maxRecDepth 100000 in
theorem PutNil_neg (r : Int) (w : World) (h0 : r < 0) :
    Calls Tryd.prog 61 #[.slice none 0 0, .int .i32 r] w fun e w' => e = .returned (.slice (some ⟨w.heap.size, 0, none⟩) 3 3) ∧ w.alloc (.cells (encCells 65533) 5) = w' := by
  have hmk : ∀ w, (Instr.makeSlice 33 (.int .i64 3) (.int .i64 3)).run Tryd.prog w = .ok (.slice (some ⟨w.heap.size, 0, none⟩) 3 3) (w.alloc (.cells #[.int .u8 0, .int .u8 0, .int .u8 0] 5)) := fun _ => by kernel_rfl
  have hcp : ∀ w a, (Builtin.copy_ #[33, 33] 3 #[.slice (some a) 3 3, .slice none 0 0]).run Tryd.prog w = .ok (goInt 0) w := fun w a => run_copy_none w _ _ _ 5 (some a) none 3 3 0 0 Tryd.underlying33 (by kernel_rfl) rfl
  go_enter Tryd.func61, Tryd.ntmps61
  go_wp2
  go_rounds 3
  go_ret
  refine ⟨rfl, ?_⟩
  unfold encCells enc
  rfl

set_option maxHeartbeats 2000000 in
set_option maxRecDepth 100000 in
theorem PutNil_great (r : Int) (w : World) (h0 : 1114111 < r) :
    Calls Tryd.prog 61 #[.slice none 0 0, .int .i32 r] w fun e w' => e = .returned (.slice (some ⟨w.heap.size, 0, none⟩) 3 3) ∧ w.alloc (.cells (encCells 65533) 5) = w' := by
  have hmk : ∀ w, (Instr.makeSlice 33 (.int .i64 3) (.int .i64 3)).run Tryd.prog w = .ok (.slice (some ⟨w.heap.size, 0, none⟩) 3 3) (w.alloc (.cells #[.int .u8 0, .int .u8 0, .int .u8 0] 5)) := fun _ => by kernel_rfl
  have hcp : ∀ w a, (Builtin.copy_ #[33, 33] 3 #[.slice (some a) 3 3, .slice none 0 0]).run Tryd.prog w = .ok (goInt 0) w := fun w a => run_copy_none w _ _ _ 5 (some a) none 3 3 0 0 Tryd.underlying33 (by kernel_rfl) rfl
  go_enter Tryd.func61, Tryd.ntmps61
  go_wp2
  go_rounds 3
  go_ret
  refine ⟨rfl, ?_⟩
  unfold encCells enc
  rfl

set_option maxHeartbeats 2000000 in
set_option maxRecDepth 100000 in
theorem PutNil_half (r : Int) (w : World) (h0 : 55296 ≤ r) (h1 : r ≤ 57343) :
    Calls Tryd.prog 61 #[.slice none 0 0, .int .i32 r] w fun e w' => e = .returned (.slice (some ⟨w.heap.size, 0, none⟩) 3 3) ∧ w.alloc (.cells (encCells 65533) 5) = w' := by
  have hmk : ∀ w, (Instr.makeSlice 33 (.int .i64 3) (.int .i64 3)).run Tryd.prog w = .ok (.slice (some ⟨w.heap.size, 0, none⟩) 3 3) (w.alloc (.cells #[.int .u8 0, .int .u8 0, .int .u8 0] 5)) := fun _ => by kernel_rfl
  have hcp : ∀ w a, (Builtin.copy_ #[33, 33] 3 #[.slice (some a) 3 3, .slice none 0 0]).run Tryd.prog w = .ok (goInt 0) w := fun w a => run_copy_none w _ _ _ 5 (some a) none 3 3 0 0 Tryd.underlying33 (by kernel_rfl) rfl
  have d1 : decide (r < 55296) = false := decide_eq_false (by omega)
  have d2 : decide (57343 < r) = false := decide_eq_false (by omega)
  go_enter Tryd.func61, Tryd.ntmps61
  go_wp2
  go_rounds 3
  go_ret
  refine ⟨rfl, ?_⟩
  unfold encCells enc
  rfl

/-- Put(nil, r): new memory that holds the character's bytes. -/
theorem PutNil_any (r : Int) (w : World) :
    Calls Tryd.prog 61 #[.slice none 0 0, .int .i32 r] w fun e w' => e = .returned (.slice (some ⟨w.heap.size, 0, none⟩) (enc (fixed r)).length (enc (fixed r)).length) ∧ w.alloc (.cells (encCells (fixed r)) 5) = w' := by
  have l1 : ∀ x : Int, x < 128 → (enc x).length = 1 := fun x h => by unfold enc; rw [if_pos h]; rfl
  have l2 : ∀ x : Int, ¬ x < 128 → x < 2048 → (enc x).length = 2 := fun x h k => by unfold enc; rw [if_neg h, if_pos k]; rfl
  have l3 : ∀ x : Int, ¬ x < 2048 → x < 65536 → (enc x).length = 3 := fun x h k => by unfold enc; rw [if_neg (show ¬ x < 128 by omega), if_neg h, if_pos k]; rfl
  have l4 : ∀ x : Int, ¬ x < 65536 → x < 1114112 → (enc x).length = 4 := fun x h k => by unfold enc; rw [if_neg (show ¬ x < 128 by omega), if_neg (show ¬ x < 2048 by omega), if_neg h, if_pos k]; rfl
  by_cases hg : 0 ≤ r ∧ (r < 55296 ∨ 57343 < r) ∧ r ≤ 1114111
  · have e : fixed r = r := if_pos hg
    rw [e]
    by_cases h1 : r < 128
    · rw [l1 r h1]; exact PutNil_1 r w hg.1 h1
    by_cases h2 : r < 2048
    · rw [l2 r h1 h2]; exact PutNil_2 r w (by omega) h2
    by_cases h3 : r < 65536
    · rw [l3 r h2 h3]
      rcases hg.2.1 with h | h
      · exact PutNil_3lo r w (by omega) h
      · exact PutNil_3hi r w h h3
    · rw [l4 r h3 (by omega)]; exact PutNil_4 r w (by omega) hg.2.2
  · have e : fixed r = 65533 := if_neg hg
    rw [e, l3 65533 (by decide) (by decide)]
    by_cases h1 : r < 0
    · exact PutNil_neg r w h1
    by_cases h2 : 1114111 < r
    · exact PutNil_great r w h2
    · exact PutNil_half r w (by omega) (by omega)
end Go.Proofs.YtkifndecpbphbaaDoor.utf
