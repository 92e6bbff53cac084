/- DecRing answers true for every three numbers. -/
import Derived.Test.YtpnhgggdjlglnaaDoorL7
namespace Go.Proofs.YtpnhgggdjlglnaaDoor.dk
open Go.PlainAid Go.ChangeShapes Go.WideShapes Go.ChangeAt Go.RowKit

theorem mul_all {a b : Nm} (ha : a.ok = true) (hb : b.ok = true) : (mulN a b).Norm ∧ low ≤ (mulN a b).ex ∧ (mulN a b).val * unit = a.val * b.val := by
  have la := Nm.ok_low ha
  have lb := Nm.ok_low hb
  exact ⟨mulN_norm a b, fmN_ex _ _ _ (by rw [low_eq]; omega), mulN_val (Nm.ok_norm ha).n.dig (Nm.ok_norm hb).n.dig (by omega) (by omega)⟩
theorem unit_cancel {x y : Int} (h : x * unit = y * unit) : x = y := Int.eq_of_mul_eq_mul_right (Int.ne_of_gt unit_pos) h
theorem sum_comm {a b : Nm} (ha : a.ok = true) (hb : b.ok = true) : sumN b a = sumN a b := by
  obtain ⟨n1, l1, v1⟩ := sum_all ha hb
  obtain ⟨n2, l2, v2⟩ := sum_all hb ha
  exact Nm.uniq n2 n1 l2 l1 (by rw [v1, v2]; omega)
theorem mul_comm' {a b : Nm} (ha : a.ok = true) (hb : b.ok = true) : mulN b a = mulN a b := by
  obtain ⟨n1, l1, v1⟩ := mul_all ha hb
  obtain ⟨n2, l2, v2⟩ := mul_all hb ha
  exact Nm.uniq n2 n1 l2 l1 (unit_cancel (by rw [v1, v2, Int.mul_comm]))
theorem sum_back {a b : Nm} (ha : a.ok = true) (hb : b.ok = true) (hx : (sumN a b).ok = true) : sumN (sumN a b) (negN b) = a := by
  obtain ⟨n1, l1, v1⟩ := sum_all ha hb
  obtain ⟨n2, l2, v2⟩ := sum_all hx (negN_ok hb)
  exact Nm.uniq n2 (Nm.ok_norm ha) l2 (low_ok ha) (by rw [v2, v1, negN_val hb]; omega)
theorem mul_sum {a b c : Nm} (ha : a.ok = true) (hb : b.ok = true) (hc : c.ok = true) (hx : (sumN a b).ok = true) (hu : (mulN a c).ok = true) (hv : (mulN b c).ok = true) : sumN (mulN a c) (mulN b c) = mulN (sumN a b) c := by
  obtain ⟨_, _, v1⟩ := sum_all ha hb
  obtain ⟨_, _, v2⟩ := mul_all ha hc
  obtain ⟨_, _, v3⟩ := mul_all hb hc
  obtain ⟨n4, l4, v4⟩ := sum_all hu hv
  obtain ⟨n5, l5, v5⟩ := mul_all hx hc
  exact Nm.uniq n4 n5 l4 l5 (unit_cancel (by rw [v4, v5, v1, Int.add_mul, v2, v3, Int.add_mul]))
theorem told_small (x : Nm) : x.told.1.dg.size ≤ 1000000 := by
  rcases told_cases x with ⟨h1, h2⟩ | ⟨_, h2⟩ <;> rw [h2]
  · exact Nm.small h1
  · decide
theorem told_ok1 (x : Nm) : x.told.1.ok = true := by
  rcases told_cases x with ⟨h1, h2⟩ | ⟨_, h2⟩ <;> rw [h2]
  · exact h1
  · exact zero_ok
theorem ring_any (n1 n2 n3 : Bool) (d1 d2 d3 : ByteArray) (e1 e2 e3 : Int) (w : World) (ht : TabB w) :
    Calls Tryd.prog 5 #[.agg #[.bool n1, .string d1, .int .i64 e1], .agg #[.bool n2, .string d2, .int .i64 e2], .agg #[.bool n3, .string d3, .int .i64 e3]] w fun e w' => e = .returned (.bool true) ∧ Below w.heap.size w w' := by
  cases h1 : dsane n1 (unstr d1) e1 with
  | false => exact ring_no1 w n1 n2 n3 d1 d2 d3 e1 e2 e3 h1 ht
  | true =>
  cases h2 : dsane n2 (unstr d2) e2 with
  | false => exact ring_no2 w n1 n2 n3 d1 d2 d3 e1 e2 e3 h1 h2 ht
  | true =>
  cases h3 : dsane n3 (unstr d3) e3 with
  | false => exact ring_no3 w n1 n2 n3 d1 d2 d3 e1 e2 e3 h1 h2 h3 ht
  | true =>
    obtain ⟨a, ha⟩ : ∃ a : Nm, a = ⟨n1, d1, e1⟩ := ⟨_, rfl⟩
    obtain ⟨b, hb⟩ : ∃ b : Nm, b = ⟨n2, d2, e2⟩ := ⟨_, rfl⟩
    obtain ⟨c, hc⟩ : ∃ c : Nm, c = ⟨n3, d3, e3⟩ := ⟨_, rfl⟩
    have oa : a.ok = true := by rw [ha]; exact h1
    have ob : b.ok = true := by rw [hb]; exact h2
    have oc : c.ok = true := by rw [hc]; exact h3
    have a1 := addP_eq oa ob
    have a2 := addP_eq ob oa
    rw [sum_comm oa ob] at a2
    have a3 := mulP_eq oa ob
    have a4 := mulP_eq ob oa
    rw [mul_comm' oa ob] at a4
    have a6 := mulP_eq oa oc
    have a7 := mulP_eq ob oc
    have a8 := mulP_eq (told_ok1 (sumN a b)) oc
    have a9 := addP_eq (told_ok1 (mulN a c)) (told_ok1 (mulN b c))
    have sx := told_small (sumN a b)
    have su := told_small (mulN a c)
    have sv := told_small (mulN b c)
    have hi := told_code (mulN a c)
    have hj := told_code (mulN b c)
    have hk := told_code (mulN (sumN a b).told.1 c)
    have hl := told_code (sumN (mulN a c).told.1 (mulN b c).told.1)
    have hs : (sumN a b).ok = true → (mulN a c).told.2 = 0 → (mulN b c).told.2 = 0 → (mulN (sumN a b).told.1 c).told.2 = 0 → (sumN (mulN a c).told.1 (mulN b c).told.1).told.2 = 0 →
        (sumN (mulN a c).told.1 (mulN b c).told.1).told.1 = (mulN (sumN a b).told.1 c).told.1 := fun k0 k1 k2 k3 k4 => by
      obtain ⟨o1, t1⟩ := told_zero k1
      obtain ⟨o2, t2⟩ := told_zero k2
      rw [show (sumN a b).told.1 = sumN a b by rw [told_ok k0], t1, t2, mul_sum oa ob oc k0 o1 o2]
    have a5 : (sumN a b).ok = true → addP (sumN a b) (negN b) = (a, 0) := fun k0 => by rw [addP_eq k0 (negN_ok ob), sum_back oa ob k0, told_ok oa]
    generalize (mulN a b).told = P at a3 a4
    generalize (sumN (mulN a c).told.1 (mulN b c).told.1).told = T9 at a9 hl hs
    generalize (mulN (sumN a b).told.1 c).told = T8 at a8 hk hs
    generalize (mulN a c).told = T6 at a6 a9 hi hs su
    generalize (mulN b c).told = T7 at a7 a9 hj hs sv
    have hN : negN b = ⟨ngd n2 d2 e2, d2, e2⟩ := by rw [hb]; rfl
    rcases told_cases (sumN a b) with ⟨k0, hx⟩ | ⟨_, hx⟩
    · have a5x := a5 k0
      have hsx := hs k0
      clear a5 hs
      rw [hN] at a5x
      rw [hx] at a1 a2 a8 sx
      generalize sumN a b = X at a1 a2 a5x a8 sx
      obtain ⟨xn, xd, xe⟩ := X
      obtain ⟨⟨pn, pd, pe⟩, gc⟩ := P
      obtain ⟨⟨un, ud, ue⟩, ic⟩ := T6
      obtain ⟨⟨vn, vd, ve⟩, jc⟩ := T7
      obtain ⟨⟨tn, td, te⟩, kc⟩ := T8
      obtain ⟨⟨sn, sd, se⟩, lc⟩ := T9
      subst ha hb hc
      exact ring_ok w n1 n2 n3 d1 d2 d3 e1 e2 e3 h1 h2 h3 xn pn un vn tn sn _ xd pd ud vd td sd xe pe ue ve te se gc ic jc kc lc a1 a2 a3 a4 rfl a5x a6 a7 a8 a9 sx su sv hi hj hk hl (fun i j k l => by
        have := hsx i j k l
        injection this with q1 q2 q3
        exact ⟨q1, q2, q3⟩) ht
    · rw [hx] at a1 a2 a8 sx
      obtain ⟨⟨pn, pd, pe⟩, gc⟩ := P
      obtain ⟨⟨un, ud, ue⟩, ic⟩ := T6
      obtain ⟨⟨vn, vd, ve⟩, jc⟩ := T7
      obtain ⟨⟨tn, td, te⟩, kc⟩ := T8
      obtain ⟨⟨sn, sd, se⟩, lc⟩ := T9
      subst ha hb hc
      exact ring_far w n1 n2 n3 d1 d2 d3 e1 e2 e3 h1 h2 h3 _ pn un vn tn sn _ pd ud vd td sd _ pe ue ve te se gc ic jc kc lc a1 a2 a3 a4 a6 a7 a8 a9 sx su sv ht
end Go.Proofs.YtpnhgggdjlglnaaDoor.dk
