/- For all inputs DiskKeeps answers true: both cases. -/
import Derived.Test.YtmnfaoihmcofiaaDS
namespace Go.Proofs.Ytmnfaoihmcofiaa.dk
open Go.PlainAid Go.ChangeShapes Go.WideShapes Go.ChangeAt Go.RowKit

theorem keeps_any (p : Option Addr) (n c : Nat) (l : List Int) (at_ : Int) (o : Option Addr) (on oc : Nat) (os : Nat → Opc) (q : Option Addr) (kn kc : Nat) (kb : List Bool) (w : World)
    (hl : Rd w p n l) (ho : OpsAt w.heap.size w o on os) (hk : Kb w.heap.size w q kn kb) :
    Calls Try.prog 4 #[.slice p n c, .int .i64 at_, .slice o on oc, .slice q kn kc] w fun e w' => e = .returned (.bool true) ∧ Below w.heap.size w w' := by
  by_cases h : 64 < n ∨ ¬ Small on os ∨ 200 < kn
  · exact keeps_great p n c at_ o on oc os q kn kc w ho h
  · have h2 : Small on os := Classical.byContradiction fun hs => h (.inr (.inl hs))
    exact keeps_small p n c l at_ o on oc os q kn kc kb w hl ho hk (by omega) h2 (by omega)
end Go.Proofs.Ytmnfaoihmcofiaa.dk
