/- size: a point inside; an exponent. -/
import Derived.Test.YtpnhgggdjlglnaaDoorM
import Derived.Test.YtpnhgggdjlglnaaDoorShelfT
import Derived.Deep.DeepCutAuto
import Derived.Deep.CutBlock
import Derived.Lib.AppendIntMem
namespace Go.Proofs.YtpnhgggdjlglnaaDoor.dk
open Go.PlainAid Go.ChangeShapes Go.WideShapes Go.ChangeAt Go.RowKit

set_option maxRecDepth 100000 in
theorem size_point (w : World) (dg : ByteArray) (k : Nat) (hs : dg.size ≤ 1000000) (h1 : 1 ≤ k) (h2 : k ≤ 21) (h3 : k < dg.size) :
    Calls Tryd.prog 40 #[.string dg, .int .i64 (k : Int)] w fun e w' => e = .returned (.string ((dg.extract 0 k ++ ⟨#[46]⟩) ++ dg.extract k dg.size)) ∧ Below w.heap.size w w' := by
  have d1 : decide ((dg.size : Int) ≤ (k : Int)) = false := decide_eq_false (by omega)
  have d1n : decide (dg.size ≤ k) = false := decide_eq_false (by omega)
  have d2 : decide ((1 : Int) ≤ (k : Int)) = true := decide_eq_true (by omega)
  have d2n : decide (1 ≤ k) = true := decide_eq_true h1
  have d3 : decide ((k : Int) ≤ 21) = true := decide_eq_true (by omega)
  have d3n : decide (k ≤ 21) = true := decide_eq_true h2
  have hle : (k : Int) ≤ ((dg.size : Nat) : Int) := by omega
  have h0 : (0 : Int) ≤ (k : Int) := by omega
  have e1 : (dg.extract 0 k).size = k := by rw [ByteArray.size_extract]; omega
  have e2 : (dg.extract k dg.size).size = dg.size - k := by rw [ByteArray.size_extract]; omega
  have hcat : (dg.extract 0 k).size + (⟨#[46]⟩ : ByteArray).size ≤ 9223372036854775807 := by rw [e1]; show k + 1 ≤ _; omega
  have hcat2 : (dg.extract 0 k ++ (⟨#[46]⟩ : ByteArray)).size + (dg.extract k dg.size).size ≤ 9223372036854775807 := by rw [ByteArray.size_append, e1, e2]; show k + 1 + (dg.size - k) ≤ _; omega
  have hbd : Below w.heap.size w w.drew := (Below.refl _ _).drew
  have HB := Lib.hid hbd
  clear e1 e2 hbd
  go_enter Tryd.func40, Tryd.ntmps40
  go_upto_region 5 with fail
  go_region
  go_wp2_with fail
  go_ret
  exact ⟨rfl, HB.out⟩
end Go.Proofs.YtpnhgggdjlglnaaDoor.dk
