/- DecWhole answers true for every two whole numbers. -/
import Derived.Test.YtpnhgggdjlglnaaDoorM6
namespace Go.Proofs.YtpnhgggdjlglnaaDoor.dk
open Go.PlainAid Go.ChangeShapes Go.WideShapes Go.ChangeAt Go.RowKit

theorem of_fields (n : Int) : fmd (decide (n < 0)) (itd n) 0 = #[.bool (ofN n).neg, .string (ofN n).dg, .int .i64 (ofN n).ex] := fmd_eq _ _ _
theorem mul_bound {x y : Int} (x0 : 0 ≤ x) (x1 : x < 16777216) (y0 : -8388608 ≤ y) (y1 : y < 8388608) : -140737488355328 ≤ x * y ∧ x * y ≤ 140737488355328 := by
  have h1 := Int.mul_le_mul_of_nonneg_left (show y ≤ 8388608 by omega) x0
  have h2 := Int.mul_le_mul_of_nonneg_left (show -8388608 ≤ y by omega) x0
  omega
theorem whole_any (a b : Int) (w : World) (ht : TabB w) :
    Calls Tryd.prog 7 #[.int .i64 a, .int .i64 b] w fun e w' => e = .returned (.bool true) ∧ Below w.heap.size w w' := by
  obtain ⟨x, hx⟩ : ∃ x, bits .and .i64 a 16777215 = x := ⟨_, rfl⟩
  obtain ⟨y, hy⟩ : ∃ y, IntKind.i64.wrap (bits .and .i64 b 16777215 - 8388608) = y := ⟨_, rfl⟩
  have hx2 := hx
  have hy2 := hy
  rw [andm16777215] at hx2
  rw [andm16777215, IntKind.wrap_i64] at hy2
  have x0 : 0 ≤ x := by omega
  have x1 : x < 16777216 := by omega
  have y0 : -8388608 ≤ y := by omega
  have y1 : y < 8388608 := by omega
  obtain ⟨m0, m1⟩ := mul_bound x0 x1 y0 y1
  have wm : IntKind.i64.wrap (x * y) = x * y := by rw [IntKind.wrap_i64]; omega
  have ox := ofN_ok x (by omega) (by omega)
  have oy := ofN_ok y (by omega) (by omega)
  have os := ofN_ok (x + y) (by omega) (by omega)
  have op := ofN_ok (x * y) (by omega) (by omega)
  have a1 := addP_eq ox oy
  rw [sum_of ox oy, told_ok os] at a1
  have a2 := mulP_eq ox oy
  rw [mul_of ox oy, told_ok op] at a2
  have i1 := int_of (x + y) (by omega) (by omega)
  have i2 := int_of (x * y) (by omega) (by omega)
  have hc := cmp_of ox oy
  have o1 := of_fields x
  have o2 := of_fields y
  have sx := (Nm.ok_low ox).2.2
  have sy := (Nm.ok_low oy).2.2
  have ss := (Nm.ok_low os).2.2
  have sp := (Nm.ok_low op).2.2
  generalize ofN x = X at *
  generalize ofN y = Y at *
  generalize ofN (x + y) = S at *
  generalize ofN (x * y) = P at *
  obtain ⟨xn, xd, xe⟩ := X
  obtain ⟨yn, yd, ye⟩ := Y
  obtain ⟨sn, sd, se⟩ := S
  obtain ⟨pn, pd, pe⟩ := P
  rcases cmpI_cases x y with ⟨h, e⟩ | ⟨h, e⟩ | ⟨h, e⟩
  · rw [e] at hc
    exact whole_lt w a b x y hx hy x0 x1 y0 y1 xn yn sn pn xd yd sd pd xe ye se pe o1 o2 a1 a2 i1 i2 hc sx sy ss sp h wm ht
  · rw [e] at hc
    exact whole_eq w a b x y hx hy x0 x1 y0 y1 xn yn sn pn xd yd sd pd xe ye se pe o1 o2 a1 a2 i1 i2 hc sx sy ss sp h wm ht
  · rw [e] at hc
    exact whole_gt w a b x y hx hy x0 x1 y0 y1 xn yn sn pn xd yd sd pd xe ye se pe o1 o2 a1 a2 i1 i2 hc sx sy ss sp h wm ht
end Go.Proofs.YtpnhgggdjlglnaaDoor.dk
