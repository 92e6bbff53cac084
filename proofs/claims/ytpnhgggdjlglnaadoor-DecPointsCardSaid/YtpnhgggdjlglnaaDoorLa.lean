/- Sums and products of numbers that may be: what serves every law. -/
import Derived.Test.YtpnhgggdjlglnaaDoorL4
namespace Go.Proofs.YtpnhgggdjlglnaaDoor.dk
open Go.PlainAid Go.ChangeShapes Go.WideShapes Go.ChangeAt Go.RowKit

theorem compare_is {a b : Nm} {k : Int} (h : cmpN a b = k) (s1 : a.dg.size ≤ 1000000) (s2 : b.dg.size ≤ 1000000) : ∀ v, Calls Tryd.prog 15 #[.agg #[.bool a.neg, .string a.dg, .int .i64 a.ex], .agg #[.bool b.neg, .string b.dg, .int .i64 b.ex]] v fun e w' => e = .returned (.int .i64 k) ∧ Below v.heap.size v w' := fun v => by
  have := Compare_any v a.neg b.neg a.dg b.dg a.ex b.ex s1 s2
  rw [show cmpD a.neg a.dg a.ex b.neg b.dg b.ex = k from h] at this
  exact this
theorem told_code (x : Nm) : x.told.2 = 0 ∨ x.told.2 = 4 := by
  rcases told_cases x with ⟨_, h⟩ | ⟨_, h⟩ <;> rw [h]
  · exact .inl rfl
  · exact .inr rfl
theorem told_zero {x : Nm} (h : x.told.2 = 0) : x.ok = true ∧ x.told.1 = x := by
  rcases told_cases x with ⟨h1, h2⟩ | ⟨_, h2⟩
  · exact ⟨h1, by rw [h2]⟩
  · rw [h2] at h
    exact absurd h (by decide)
theorem Nm.small {x : Nm} (h : x.ok = true) : x.dg.size ≤ 1000000 := by
  have := Nm.ok_low h
  omega
theorem mul_all {a b : Nm} (ha : a.ok = true) (hb : b.ok = true) : (mulN a b).Norm ∧ low ≤ (mulN a b).ex ∧ (mulN a b).val * unit = a.val * b.val := by
  have la := Nm.ok_low ha
  have lb := Nm.ok_low hb
  exact ⟨mulN_norm a b, fmN_ex _ _ _ (by rw [low_eq]; omega), mulN_val (Nm.ok_norm ha).n.dig (Nm.ok_norm hb).n.dig (by omega) (by omega)⟩
theorem unit_cancel {x y : Int} (h : x * unit = y * unit) : x = y := Int.eq_of_mul_eq_mul_right (Int.ne_of_gt unit_pos) h
theorem sum_comm {a b : Nm} (ha : a.ok = true) (hb : b.ok = true) : sumN b a = sumN a b := by
  obtain ⟨n1, l1, v1⟩ := sum_all ha hb
  obtain ⟨n2, l2, v2⟩ := sum_all hb ha
  exact Nm.uniq n2 n1 l2 l1 (by rw [v1, v2]; omega)
theorem mul_comm' {a b : Nm} (ha : a.ok = true) (hb : b.ok = true) : mulN b a = mulN a b := by
  obtain ⟨n1, l1, v1⟩ := mul_all ha hb
  obtain ⟨n2, l2, v2⟩ := mul_all hb ha
  exact Nm.uniq n2 n1 l2 l1 (unit_cancel (by rw [v1, v2, Int.mul_comm]))
theorem sum_back {a b : Nm} (ha : a.ok = true) (hb : b.ok = true) (hx : (sumN a b).ok = true) : sumN (sumN a b) (negN b) = a := by
  obtain ⟨n1, l1, v1⟩ := sum_all ha hb
  obtain ⟨n2, l2, v2⟩ := sum_all hx (negN_ok hb)
  exact Nm.uniq n2 (Nm.ok_norm ha) l2 (low_ok ha) (by rw [v2, v1, negN_val hb]; omega)
theorem mul_sum {a b c : Nm} (ha : a.ok = true) (hb : b.ok = true) (hc : c.ok = true) (hx : (sumN a b).ok = true) (hu : (mulN a c).ok = true) (hv : (mulN b c).ok = true) : sumN (mulN a c) (mulN b c) = mulN (sumN a b) c := by
  obtain ⟨_, _, v1⟩ := sum_all ha hb
  obtain ⟨_, _, v2⟩ := mul_all ha hc
  obtain ⟨_, _, v3⟩ := mul_all hb hc
  obtain ⟨n4, l4, v4⟩ := sum_all hu hv
  obtain ⟨n5, l5, v5⟩ := mul_all hx hc
  exact Nm.uniq n4 n5 l4 l5 (unit_cancel (by rw [v4, v5, v1, Int.add_mul, v2, v3, Int.add_mul]))
theorem told_small (x : Nm) : x.told.1.dg.size ≤ 1000000 := by
  rcases told_cases x with ⟨h1, h2⟩ | ⟨_, h2⟩ <;> rw [h2]
  · exact Nm.small h1
  · decide
theorem told_ok1 (x : Nm) : x.told.1.ok = true := by
  rcases told_cases x with ⟨h1, h2⟩ | ⟨_, h2⟩ <;> rw [h2]
  · exact h1
  · exact zero_ok
end Go.Proofs.YtpnhgggdjlglnaaDoor.dk
