/- JournalNeed: pieces of two records together. -/
import Derived.Test.YticiaiiedagalaaJV
namespace Go.Proofs.Yticiaiiedagalaa.dk
open Go.PlainAid Go.ChangeShapes Go.WideShapes Go.ChangeAt Go.RowKit

theorem andm7 (n : Int) : bits .and .i64 n 7 = n % 8 := by
  have h127 : (BitVec.ofInt 64 7).toNat = 2 ^ 3 - 1 := by decide
  have key : (BitVec.ofInt 64 n &&& BitVec.ofInt 64 7).toNat = (n % ((2 ^ 64 : Nat) : Int)).toNat % 2 ^ 3 := by
    rw [BitVec.toNat_and, BitVec.toNat_ofInt, h127, Nat.and_two_pow_sub_one_eq_mod]
  show IntKind.i64.wrap ((BitVec.ofInt 64 n &&& BitVec.ofInt 64 7).toNat : Nat) = n % 8
  rw [key, IntKind.wrap_i64]
  omega
theorem andm15 (n : Int) : bits .and .i64 n 15 = n % 16 := by
  have h127 : (BitVec.ofInt 64 15).toNat = 2 ^ 4 - 1 := by decide
  have key : (BitVec.ofInt 64 n &&& BitVec.ofInt 64 15).toNat = (n % ((2 ^ 64 : Nat) : Int)).toNat % 2 ^ 4 := by
    rw [BitVec.toNat_and, BitVec.toNat_ofInt, h127, Nat.and_two_pow_sub_one_eq_mod]
  show IntKind.i64.wrap ((BitVec.ofInt 64 n &&& BitVec.ofInt 64 15).toNat : Nat) = n % 16
  rw [key, IntKind.wrap_i64]
  omega
theorem andm31 (n : Int) : bits .and .i64 n 31 = n % 32 := by
  have h127 : (BitVec.ofInt 64 31).toNat = 2 ^ 5 - 1 := by decide
  have key : (BitVec.ofInt 64 n &&& BitVec.ofInt 64 31).toNat = (n % ((2 ^ 64 : Nat) : Int)).toNat % 2 ^ 5 := by
    rw [BitVec.toNat_and, BitVec.toNat_ofInt, h127, Nat.and_two_pow_sub_one_eq_mod]
  show IntKind.i64.wrap ((BitVec.ofInt 64 n &&& BitVec.ofInt 64 31).toNat : Nat) = n % 32
  rw [key, IntKind.wrap_i64]
  omega
theorem andm63 (n : Int) : bits .and .i64 n 63 = n % 64 := by
  have h127 : (BitVec.ofInt 64 63).toNat = 2 ^ 6 - 1 := by decide
  have key : (BitVec.ofInt 64 n &&& BitVec.ofInt 64 63).toNat = (n % ((2 ^ 64 : Nat) : Int)).toNat % 2 ^ 6 := by
    rw [BitVec.toNat_and, BitVec.toNat_ofInt, h127, Nat.and_two_pow_sub_one_eq_mod]
  show IntKind.i64.wrap ((BitVec.ofInt 64 n &&& BitVec.ofInt 64 63).toNat : Nat) = n % 64
  rw [key, IntKind.wrap_i64]
  omega
theorem andm127 (n : Int) : bits .and .i64 n 127 = n % 128 := by
  have h127 : (BitVec.ofInt 64 127).toNat = 2 ^ 7 - 1 := by decide
  have key : (BitVec.ofInt 64 n &&& BitVec.ofInt 64 127).toNat = (n % ((2 ^ 64 : Nat) : Int)).toNat % 2 ^ 7 := by
    rw [BitVec.toNat_and, BitVec.toNat_ofInt, h127, Nat.and_two_pow_sub_one_eq_mod]
  show IntKind.i64.wrap ((BitVec.ofInt 64 n &&& BitVec.ofInt 64 127).toNat : Nat) = n % 128
  rw [key, IntKind.wrap_i64]
  omega
theorem andm255 (n : Int) : bits .and .i64 n 255 = n % 256 := by
  have h127 : (BitVec.ofInt 64 255).toNat = 2 ^ 8 - 1 := by decide
  have key : (BitVec.ofInt 64 n &&& BitVec.ofInt 64 255).toNat = (n % ((2 ^ 64 : Nat) : Int)).toNat % 2 ^ 8 := by
    rw [BitVec.toNat_and, BitVec.toNat_ofInt, h127, Nat.and_two_pow_sub_one_eq_mod]
  show IntKind.i64.wrap ((BitVec.ofInt 64 n &&& BitVec.ofInt 64 255).toNat : Nat) = n % 256
  rw [key, IntKind.wrap_i64]
  omega
theorem andm511 (n : Int) : bits .and .i64 n 511 = n % 512 := by
  have h127 : (BitVec.ofInt 64 511).toNat = 2 ^ 9 - 1 := by decide
  have key : (BitVec.ofInt 64 n &&& BitVec.ofInt 64 511).toNat = (n % ((2 ^ 64 : Nat) : Int)).toNat % 2 ^ 9 := by
    rw [BitVec.toNat_and, BitVec.toNat_ofInt, h127, Nat.and_two_pow_sub_one_eq_mod]
  show IntKind.i64.wrap ((BitVec.ofInt 64 n &&& BitVec.ofInt 64 511).toNat : Nat) = n % 512
  rw [key, IntKind.wrap_i64]
  omega
theorem andm2047 (n : Int) : bits .and .i64 n 2047 = n % 2048 := by
  have h127 : (BitVec.ofInt 64 2047).toNat = 2 ^ 11 - 1 := by decide
  have key : (BitVec.ofInt 64 n &&& BitVec.ofInt 64 2047).toNat = (n % ((2 ^ 64 : Nat) : Int)).toNat % 2 ^ 11 := by
    rw [BitVec.toNat_and, BitVec.toNat_ofInt, h127, Nat.and_two_pow_sub_one_eq_mod]
  show IntKind.i64.wrap ((BitVec.ofInt 64 n &&& BitVec.ofInt 64 2047).toNat : Nat) = n % 2048
  rw [key, IntKind.wrap_i64]
  omega
theorem andm1048575 (n : Int) : bits .and .i64 n 1048575 = n % 1048576 := by
  have h127 : (BitVec.ofInt 64 1048575).toNat = 2 ^ 20 - 1 := by decide
  have key : (BitVec.ofInt 64 n &&& BitVec.ofInt 64 1048575).toNat = (n % ((2 ^ 64 : Nat) : Int)).toNat % 2 ^ 20 := by
    rw [BitVec.toNat_and, BitVec.toNat_ofInt, h127, Nat.and_two_pow_sub_one_eq_mod]
  show IntKind.i64.wrap ((BitVec.ofInt 64 n &&& BitVec.ofInt 64 1048575).toNat : Nat) = n % 1048576
  rw [key, IntKind.wrap_i64]
  omega
set_option maxHeartbeats 4000000 in
set_option maxRecDepth 100000 in
theorem needs_any (a b : Int) (w : World) :
    Calls Try.prog 8 #[.int .i64 a, .int .i64 b] w fun e w' => e = .returned (.bool true) ∧ Below w.heap.size w w' := by
  have HA := Lib.hid (awake_any w)
  obtain ⟨x, hx⟩ : ∃ x, x = 1 + a % 1048576 := ⟨_, rfl⟩
  obtain ⟨y, hy⟩ : ∃ y, y = 1 + b % 1048576 := ⟨_, rfl⟩
  have ha : bits .and .i64 a 1048575 = x - 1 := by rw [andm1048575]; omega
  have hb : bits .and .i64 b 1048575 = y - 1 := by rw [andm1048575]; omega
  have hx1 : 1 ≤ x ∧ x ≤ 1048576 := by omega
  have hy1 : 1 ≤ y ∧ y ≤ 1048576 := by omega
  clear hx hy
  have ex : (1 : Int) + (x - 1) = x := by omega
  have ey : (1 : Int) + (y - 1) = y := by omega
  have px : need x = (x - 1) / 48 + 1 := by unfold need; rw [if_neg (by omega)]
  have py : need y = (y - 1) / 48 + 1 := by unfold need; rw [if_neg (by omega)]
  have pz : need (x + y) = (x + y - 1) / 48 + 1 := by unfold need; rw [if_neg (by omega)]
  have pn : need (-x) = 1 := by unfold need; rw [if_pos (by omega)]
  have NX : ∀ w, Hid (Calls Try.prog 32 #[.int .i64 x] w fun e w' => e = .returned (.int .i64 (need x)) ∧ w = w') := fun w => Need_any w x (by omega)
  have NY : ∀ w, Hid (Calls Try.prog 32 #[.int .i64 y] w fun e w' => e = .returned (.int .i64 (need y)) ∧ w = w') := fun w => Need_any w y (by omega)
  have NZ : ∀ w, Hid (Calls Try.prog 32 #[.int .i64 (x + y)] w fun e w' => e = .returned (.int .i64 (need (x + y))) ∧ w = w') := fun w => Need_any w (x + y) (by omega)
  have NN : ∀ w, Hid (Calls Try.prog 32 #[.int .i64 (-x)] w fun e w' => e = .returned (.int .i64 (need (-x))) ∧ w = w') := fun w => Need_any w (-x) (by omega)
  rw [pn] at NN
  have f1 : need x + need y - need (x + y) = 0 ∨ need x + need y - need (x + y) = 1 := by rw [px, py, pz]; omega
  have f2 : 1 ≤ need x ∧ x ≤ 48 * need x ∧ 48 * (need x - 1) < x := by rw [px]; omega
  have f3 : 1 ≤ need y ∧ need y ≤ 30000 ∧ need x ≤ 30000 ∧ 0 ≤ need (x + y) ∧ need (x + y) ≤ 60000 := by rw [px, py, pz]; omega
  clear px py pz pn
  generalize need x = p at NX f1 f2 f3
  generalize need y = q at NY f1 f3
  generalize need (x + y) = r at NZ f1 f3
  have HX := Lib.hid NX
  have HY := Lib.hid NY
  have HZ := Lib.hid NZ
  have HN := Lib.hid NN
  clear NX NY NZ NN
  obtain ⟨f2a, f2b, f2c⟩ := f2
  have d1 : decide (x ≤ 48 * p) = true := decide_eq_true f2b
  have d2 : decide (48 * (p - 1) < x) = true := decide_eq_true f2c
  have d3 : decide (1 ≤ p) = true := decide_eq_true f2a
  go_enter Try.func8, Try.ntmps8
  go_wp2_with (go_at_call 9; with_reducible refine HA.out.mono ?_; rintro e w1 ⟨rfl, hb1⟩)
  have HB1 := Lib.hid hb1
  clear hb1 HA
  with_reducible refine ((HX.out _).out).mono ?_
  rintro e w2 ⟨rfl, rfl⟩
  go_wp2_with fail
  with_reducible refine ((HY.out _).out).mono ?_
  rintro e w2 ⟨rfl, rfl⟩
  go_wp2_with fail
  with_reducible refine ((HZ.out _).out).mono ?_
  rintro e w2 ⟨rfl, rfl⟩
  go_wp2_with fail
  all_goals
    with_reducible refine ((HX.out _).out).mono ?_
    rintro e w2 ⟨rfl, rfl⟩
    go_wp2_with fail
    with_reducible refine ((HX.out _).out).mono ?_
    rintro e w2 ⟨rfl, rfl⟩
    go_wp2_with fail
    with_reducible refine ((HX.out _).out).mono ?_
    rintro e w2 ⟨rfl, rfl⟩
    go_wp2_with fail
    with_reducible refine ((HN.out _).out).mono ?_
    rintro e w2 ⟨rfl, rfl⟩
    go_wp2_with fail
    go_ret
    exact ⟨rfl, HB1.out⟩
end Go.Proofs.Yticiaiiedagalaa.dk
