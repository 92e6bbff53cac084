/- For all inputs DiskPlays answers true: the walk. -/
import Derived.Test.YtmnfaoihmcofiaaDZI
namespace Go.Proofs.Ytmnfaoihmcofiaa.dk
open Go.PlainAid Go.ChangeShapes Go.WideShapes Go.ChangeAt Go.RowKit

theorem plays_any (n : Int) (o : Option Addr) (on oc : Nat) (os : Nat → Opc) (w : World) (ho : OpsAt w.heap.size w o on os) :
    Calls Try.prog 3 #[.int .i64 n, .slice o on oc] w fun e w' => e = .returned (.bool true) ∧ Below w.heap.size w w' := by
  by_cases hs : Small on os
  · by_cases h0 : n % 16 = 0
    · exact plays_none n o on oc os w ho hs h0
    · obtain ⟨k, hk⟩ := Int.eq_ofNat_of_zero_le (show 0 ≤ n % 16 by omega)
      exact plays_some n o on oc os w ho hs k (by omega) hk
  · exact plays_great n o on oc os w ho hs
end Go.Proofs.Ytmnfaoihmcofiaa.dk
