/- small. -/
import Derived.Test.YtmnfaoihmcofiaaDO
namespace Go.Proofs.Ytmnfaoihmcofiaa.dk
open Go.PlainAid Go.ChangeShapes Go.WideShapes Go.ChangeAt Go.RowKit

def Small (n : Nat) (os : Nat → Opc) : Prop := n ≤ 100 ∧ ∀ i, i < n → (os i).bn ≤ 200 ∧ (os i).kn ≤ 200
set_option maxHeartbeats 4000000 in
set_option maxRecDepth 20000 in
theorem small_any (B : Nat) (w : World) (q : Option Addr) (n c : Nat) (os : Nat → Opc) (H : OpsAt B w q n os) (b : Bool) (HB : b = true ↔ Small n os) :
    Calls Try.prog 8 #[.slice q n c] w fun e w' => e = .returned (.bool b) ∧ w = w' := by
  go_enter Try.func8, Try.ntmps8
  go_wp2_with fail
  · obtain rfl : b = false := by
      cases b with
      | false => rfl
      | true => exact absurd (HB.1 rfl).1 (by omega)
    go_ret
    exact ⟨rfl, rfl⟩
  go_loopw [3] (fun i wr => ∃ (j : Nat), i = .int .i64 (j : Int) ∧ j ≤ n ∧ wr = w ∧ Hid (∀ i, i < j → (os i).bn ≤ 200 ∧ (os i).kn ≤ 200)) (fun i _ => n - (intOf i).toNat)
  case atStart => exact ⟨0, rfl, by omega, rfl, fun i hi => absurd hi (by omega)⟩
  case round =>
    obtain ⟨j, rfl, hj, rfl, HJ⟩ := hrel
    by_cases hjn : j < n
    · have dj : decide ((j : Int) < (n : Int)) = true := decide_eq_true (by omega)
      obtain ⟨bb, off, rfl, hop⟩ := H (by omega)
      have o := hop j hjn
      have k2 := o.c2
      have k3 := o.c3
      clear o
      go_wp2
      · obtain rfl : b = false := by
          cases b with
          | false => rfl
          | true => exact absurd ((HB.1 rfl).2 j hjn) (by omega)
        go_ret
        exact ⟨rfl, rfl⟩
      · constructor
        · exact ⟨j + 1, by go_num, by omega, trivial, fun i hi => by
            rcases Nat.lt_succ_iff_lt_or_eq.1 hi with h | rfl
            · exact HJ.out i h
            · omega⟩
        · show n - ((j : Int) + 1).toNat < n - (j : Int).toNat
          omega
      · obtain rfl : b = false := by
          cases b with
          | false => rfl
          | true => exact absurd ((HB.1 rfl).2 j hjn) (by omega)
        go_ret
        exact ⟨rfl, rfl⟩
    · have dj : decide ((j : Int) < (n : Int)) = false := decide_eq_false (by omega)
      go_wp2
      obtain rfl : b = true := HB.2 ⟨by omega, fun i hi => HJ.out i (by omega)⟩
      go_ret
      exact ⟨rfl, rfl⟩
end Go.Proofs.Ytmnfaoihmcofiaa.dk
