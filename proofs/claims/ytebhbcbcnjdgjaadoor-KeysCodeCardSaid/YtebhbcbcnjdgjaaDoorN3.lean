/- A number, decoded. -/
import Derived.Test.YtebhbcbcnjdgjaaDoorN1
namespace Go.Proofs.YtebhbcbcnjdgjaaDoor.dk
open Go.PlainAid Go.ChangeShapes Go.WideShapes Go.ChangeAt Go.RowKit

set_option maxHeartbeats 4000000 in
set_option maxRecDepth 100000 in
theorem flip_nil (w : World) (c : Nat) : Calls Tryd.prog 46 #[.slice none 0 c] w fun e w' => e = .returned (.tuple #[]) ∧ w' = w := by
  go_enter Tryd.func46, Tryd.ntmps46
  go_wp2_with fail
  go_loopw [5] (fun v wr => v = .int .i64 0 ∧ wr = w) (fun _ _ => 0)
  case atStart => exact ⟨rfl, rfl⟩
  case round =>
    obtain ⟨rfl, rfl⟩ := hrel
    go_wp2_with fail
    go_end0
    exact ⟨rfl, rfl⟩
theorem flip_own (w : World) (B c : Nat) (p : Option Addr) (l : List Int) (hown : w.ownsRow B 5 1 (.slice p l.length c) l.length (bcells l)) (hby : Bys l) (hl : l.length ≤ 100000) :
    Calls Tryd.prog 46 #[.slice p l.length c] w fun e w' => e = .returned (.tuple #[]) ∧ w'.ownsRow B 5 1 (.slice p l.length c) l.length (bcells (flipb l)) ∧ Below B w w' := by
  rcases hown.2 with ⟨hv, h0⟩ | ⟨g, cap, cur, hv, _⟩
  · injection hv with e1 e2 e3
    subst e1; subst e3
    have hl0 := List.length_eq_zero_iff.1 h0
    subst hl0
    exact (flip_nil w 0).mono fun e w' ⟨h1, h2⟩ => by subst h2; exact ⟨h1, hown, Below.refl _ _⟩
  · injection hv with e1 e2 e3
    subst e1; subst e3
    exact (flip_any w B g c l hown hby hl).mono fun e w' ⟨h1, h2, h3, _⟩ => ⟨h1, h2, h3⟩
end Go.Proofs.YtebhbcbcnjdgjaaDoor.dk
