/- The document's answer: a character's bytes. -/
import Derived.Test.YtbajejhhmacflaaDoorUtfPA
namespace Go.Proofs.YtbajejhhmacflaaDoor.utf
open Go.PlainAid Go.ChangeShapes Go.WideShapes Go.ChangeAt Go.RowKit

set_option maxHeartbeats 2000000 in
theorem Rbytes_1 (r : Int) (w : World) (h0 : 0 ≤ r) (h1 : r < 128) :
    Calls Tryd.prog 29 #[.int .i64 r] w fun e w' => e = .returned (.slice (some ⟨w.heap.size, 0, none⟩) 1 1) ∧ w.alloc (.cells (encCells r) 5) = w' := by
  have a0 : r % 256 = r := by omega
  go_enter Tryd.func29, Tryd.ntmps29
  go_wp2
  go_ret
  refine ⟨rfl, ?_⟩
  unfold encCells enc
  rw [if_pos (show r < 128 by omega)]
  rfl

set_option maxHeartbeats 2000000 in
theorem Rbytes_2 (r : Int) (w : World) (h0 : 128 ≤ r) (h1 : r < 2048) :
    Calls Tryd.prog 29 #[.int .i64 r] w fun e w' => e = .returned (.slice (some ⟨w.heap.size, 0, none⟩) 2 2) ∧ w.alloc (.cells (encCells r) 5) = w' := by
  have t64 : IntKind.i64.wrap (r.tdiv 64) = r / 64 := by rw [Int.tdiv_eq_ediv_of_nonneg (by omega)]; exact IntWalk.i64_in _ (by omega)
  have m1 : r.tmod 64 = r % 64 := Int.tmod_eq_emod_of_nonneg (by omega)
  have a0 : IntKind.i64.wrap (192 + r / 64) = 192 + r / 64 := IntWalk.i64_in _ (by omega)
  have a0u : (192 + r / 64) % 256 = 192 + r / 64 := by omega
  have a1 : IntKind.i64.wrap (128 + r % 64) = 128 + r % 64 := IntWalk.i64_in _ (by omega)
  have a1u : (128 + r % 64) % 256 = 128 + r % 64 := by omega
  go_enter Tryd.func29, Tryd.ntmps29
  go_wp2
  go_ret
  refine ⟨rfl, ?_⟩
  unfold encCells enc
  rw [if_neg (show ¬ r < 128 by omega), if_pos (show r < 2048 by omega)]
  rfl

set_option maxHeartbeats 2000000 in
theorem Rbytes_3 (r : Int) (w : World) (h0 : 2048 ≤ r) (h1 : r < 65536) :
    Calls Tryd.prog 29 #[.int .i64 r] w fun e w' => e = .returned (.slice (some ⟨w.heap.size, 0, none⟩) 3 3) ∧ w.alloc (.cells (encCells r) 5) = w' := by
  have t4096 : IntKind.i64.wrap (r.tdiv 4096) = r / 4096 := by rw [Int.tdiv_eq_ediv_of_nonneg (by omega)]; exact IntWalk.i64_in _ (by omega)
  have t64 : IntKind.i64.wrap (r.tdiv 64) = r / 64 := by rw [Int.tdiv_eq_ediv_of_nonneg (by omega)]; exact IntWalk.i64_in _ (by omega)
  have m64 : (r / 64).tmod 64 = r / 64 % 64 := Int.tmod_eq_emod_of_nonneg (by omega)
  have m1 : r.tmod 64 = r % 64 := Int.tmod_eq_emod_of_nonneg (by omega)
  have a0 : IntKind.i64.wrap (224 + r / 4096) = 224 + r / 4096 := IntWalk.i64_in _ (by omega)
  have a0u : (224 + r / 4096) % 256 = 224 + r / 4096 := by omega
  have a1 : IntKind.i64.wrap (128 + r / 64 % 64) = 128 + r / 64 % 64 := IntWalk.i64_in _ (by omega)
  have a1u : (128 + r / 64 % 64) % 256 = 128 + r / 64 % 64 := by omega
  have a2 : IntKind.i64.wrap (128 + r % 64) = 128 + r % 64 := IntWalk.i64_in _ (by omega)
  have a2u : (128 + r % 64) % 256 = 128 + r % 64 := by omega
  go_enter Tryd.func29, Tryd.ntmps29
  go_wp2
  go_ret
  refine ⟨rfl, ?_⟩
  unfold encCells enc
  rw [if_neg (show ¬ r < 128 by omega), if_neg (show ¬ r < 2048 by omega), if_pos (show r < 65536 by omega)]
  rfl

set_option maxHeartbeats 2000000 in
theorem Rbytes_4 (r : Int) (w : World) (h0 : 65536 ≤ r) (h1 : r ≤ 1114111) :
    Calls Tryd.prog 29 #[.int .i64 r] w fun e w' => e = .returned (.slice (some ⟨w.heap.size, 0, none⟩) 4 4) ∧ w.alloc (.cells (encCells r) 5) = w' := by
  have t262144 : IntKind.i64.wrap (r.tdiv 262144) = r / 262144 := by rw [Int.tdiv_eq_ediv_of_nonneg (by omega)]; exact IntWalk.i64_in _ (by omega)
  have t4096 : IntKind.i64.wrap (r.tdiv 4096) = r / 4096 := by rw [Int.tdiv_eq_ediv_of_nonneg (by omega)]; exact IntWalk.i64_in _ (by omega)
  have m4096 : (r / 4096).tmod 64 = r / 4096 % 64 := Int.tmod_eq_emod_of_nonneg (by omega)
  have t64 : IntKind.i64.wrap (r.tdiv 64) = r / 64 := by rw [Int.tdiv_eq_ediv_of_nonneg (by omega)]; exact IntWalk.i64_in _ (by omega)
  have m64 : (r / 64).tmod 64 = r / 64 % 64 := Int.tmod_eq_emod_of_nonneg (by omega)
  have m1 : r.tmod 64 = r % 64 := Int.tmod_eq_emod_of_nonneg (by omega)
  have a0 : IntKind.i64.wrap (240 + r / 262144) = 240 + r / 262144 := IntWalk.i64_in _ (by omega)
  have a0u : (240 + r / 262144) % 256 = 240 + r / 262144 := by omega
  have a1 : IntKind.i64.wrap (128 + r / 4096 % 64) = 128 + r / 4096 % 64 := IntWalk.i64_in _ (by omega)
  have a1u : (128 + r / 4096 % 64) % 256 = 128 + r / 4096 % 64 := by omega
  have a2 : IntKind.i64.wrap (128 + r / 64 % 64) = 128 + r / 64 % 64 := IntWalk.i64_in _ (by omega)
  have a2u : (128 + r / 64 % 64) % 256 = 128 + r / 64 % 64 := by omega
  have a3 : IntKind.i64.wrap (128 + r % 64) = 128 + r % 64 := IntWalk.i64_in _ (by omega)
  have a3u : (128 + r % 64) % 256 = 128 + r % 64 := by omega
  go_enter Tryd.func29, Tryd.ntmps29
  go_wp2
  go_ret
  refine ⟨rfl, ?_⟩
  unfold encCells enc
  rw [if_neg (show ¬ r < 128 by omega), if_neg (show ¬ r < 2048 by omega), if_neg (show ¬ r < 65536 by omega), if_pos (show r < 1114112 by omega)]
  rfl
end Go.Proofs.YtbajejhhmacflaaDoor.utf
