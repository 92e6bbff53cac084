/- DiskPlays: where there is much, and where no disk is made. -/
import Derived.Test.YtmnfaoihmcofiaaDZF
import Derived.Test.YtmnfaoihmcofiaaDP
import Derived.Test.YtmnfaoihmcofiaaDJ
namespace Go.Proofs.Ytmnfaoihmcofiaa.dk
open Go.PlainAid Go.ChangeShapes Go.WideShapes Go.ChangeAt Go.RowKit

set_option maxHeartbeats 4000000 in
set_option maxRecDepth 20000 in
theorem plays_great (n : Int) (o : Option Addr) (on oc : Nat) (os : Nat → Opc) (w : World) (ho : OpsAt w.heap.size w o on os) (h : ¬ Small on os) :
    Calls Try.prog 3 #[.int .i64 n, .slice o on oc] w fun e w' => e = .returned (.bool true) ∧ Below w.heap.size w w' := by
  have HA := Lib.hid (awake_any w)
  have HS : ∀ w0, Below w.heap.size w w0 → Calls Try.prog 8 #[.slice o on oc] w0 fun e w' => e = .returned (.bool false) ∧ w0 = w' := fun w0 hb => small_any w.heap.size w0 o on oc os (ho.below hb) false ⟨fun h => (by cases h), fun hs => absurd hs h⟩
  go_enter Try.func3, Try.ntmps3
  go_wp2_with (first | (go_at_call 7; with_reducible refine HA.out.mono ?_; rintro e w0 ⟨rfl, hb0⟩) | (go_at_call 8; with_reducible refine (HS _ hb0).mono ?_; rintro e w1 ⟨rfl, rfl⟩))
  go_ret
  exact ⟨rfl, hb0⟩
set_option maxHeartbeats 4000000 in
set_option maxRecDepth 20000 in
theorem plays_none (n : Int) (o : Option Addr) (on oc : Nat) (os : Nat → Opc) (w : World) (ho : OpsAt w.heap.size w o on os) (hs : Small on os) (h0 : n % 16 = 0) :
    Calls Try.prog 3 #[.int .i64 n, .slice o on oc] w fun e w' => e = .returned (.bool true) ∧ Below w.heap.size w w' := by
  have HA := Lib.hid (awake_any w)
  have hn : bits .and .i64 n 15 = 0 := by rw [and15, h0]
  have HS : ∀ w0, Below w.heap.size w w0 → Calls Try.prog 8 #[.slice o on oc] w0 fun e w' => e = .returned (.bool true) ∧ w0 = w' := fun w0 hb => small_any w.heap.size w0 o on oc os (ho.below hb) true ⟨fun _ => hs, fun _ => rfl⟩
  go_enter Try.func3, Try.ntmps3
  go_wp2_with (first
    | (go_at_call 7; with_reducible refine HA.out.mono ?_; rintro e w0 ⟨rfl, hb0⟩)
    | (go_at_call 8; with_reducible refine (HS _ hb0).mono ?_; rintro e w1 ⟨rfl, rfl⟩)
    | (go_at_call 10; with_reducible refine (rNew_bad _ _ (by omega)).mono ?_; rintro e w1 ⟨rfl, rfl⟩)
    | (go_at_call 9; with_reducible refine (New_bad _ _ (by omega)).mono ?_; rintro e w1 ⟨rfl, rfl⟩))
  go_ret
  exact ⟨rfl, hb0⟩
end Go.Proofs.Ytmnfaoihmcofiaa.dk
