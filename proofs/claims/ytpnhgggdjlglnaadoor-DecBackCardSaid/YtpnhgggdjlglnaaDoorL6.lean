/- DecOrder answers true for every three numbers. -/
import Derived.Test.YtpnhgggdjlglnaaDoorL5
namespace Go.Proofs.YtpnhgggdjlglnaaDoor.dk
open Go.PlainAid Go.ChangeShapes Go.WideShapes Go.ChangeAt Go.RowKit

theorem compare_is {a b : Nm} {k : Int} (h : cmpN a b = k) (s1 : a.dg.size ≤ 1000000) (s2 : b.dg.size ≤ 1000000) : ∀ v, Calls Tryd.prog 15 #[.agg #[.bool a.neg, .string a.dg, .int .i64 a.ex], .agg #[.bool b.neg, .string b.dg, .int .i64 b.ex]] v fun e w' => e = .returned (.int .i64 k) ∧ Below v.heap.size v w' := fun v => by
  have := Compare_any v a.neg b.neg a.dg b.dg a.ex b.ex s1 s2
  rw [show cmpD a.neg a.dg a.ex b.neg b.dg b.ex = k from h] at this
  exact this
theorem told_code (x : Nm) : x.told.2 = 0 ∨ x.told.2 = 4 := by
  rcases told_cases x with ⟨_, h⟩ | ⟨_, h⟩ <;> rw [h]
  · exact .inl rfl
  · exact .inr rfl
theorem told_zero {x : Nm} (h : x.told.2 = 0) : x.ok = true ∧ x.told.1 = x := by
  rcases told_cases x with ⟨h1, h2⟩ | ⟨_, h2⟩
  · exact ⟨h1, by rw [h2]⟩
  · rw [h2] at h
    exact absurd h (by decide)
theorem Nm.small {x : Nm} (h : x.ok = true) : x.dg.size ≤ 1000000 := by
  have := Nm.ok_low h
  omega
theorem order_any (n1 n2 n3 : Bool) (d1 d2 d3 : ByteArray) (e1 e2 e3 : Int) (w : World) (ht : TabB w) :
    Calls Tryd.prog 6 #[.agg #[.bool n1, .string d1, .int .i64 e1], .agg #[.bool n2, .string d2, .int .i64 e2], .agg #[.bool n3, .string d3, .int .i64 e3]] w fun e w' => e = .returned (.bool true) ∧ Below w.heap.size w w' := by
  cases h1 : dsane n1 (unstr d1) e1 with
  | false => exact order_no1 w n1 n2 n3 d1 d2 d3 e1 e2 e3 h1 ht
  | true =>
  cases h2 : dsane n2 (unstr d2) e2 with
  | false => exact order_no2 w n1 n2 n3 d1 d2 d3 e1 e2 e3 h1 h2 ht
  | true =>
  cases h3 : dsane n3 (unstr d3) e3 with
  | false => exact order_no3 w n1 n2 n3 d1 d2 d3 e1 e2 e3 h1 h2 h3 ht
  | true =>
    obtain ⟨a, ha⟩ : ∃ a : Nm, a = ⟨n1, d1, e1⟩ := ⟨_, rfl⟩
    obtain ⟨b, hb⟩ : ∃ b : Nm, b = ⟨n2, d2, e2⟩ := ⟨_, rfl⟩
    obtain ⟨c, hc⟩ : ∃ c : Nm, c = ⟨n3, d3, e3⟩ := ⟨_, rfl⟩
    have oa : a.ok = true := by rw [ha]; exact h1
    have ob : b.ok = true := by rw [hb]; exact h2
    have oc : c.ok = true := by rw [hc]; exact h3
    obtain ⟨f1, f2, f3, f4, f5, f6⟩ := order_facts oa ob oc
    have sa := Nm.small oa
    have sb := Nm.small ob
    have sc := Nm.small oc
    have hx := addP_eq oa oc
    have hy := addP_eq ob oc
    have c6 : (sumN a c).told.2 = 0 → (sumN b c).told.2 = 0 → ∀ v, Calls Tryd.prog 15 #[.agg #[.bool (sumN a c).told.1.neg, .string (sumN a c).told.1.dg, .int .i64 (sumN a c).told.1.ex], .agg #[.bool (sumN b c).told.1.neg, .string (sumN b c).told.1.dg, .int .i64 (sumN b c).told.1.ex]] v fun e w' => e = .returned (.int .i64 (cmpN a b)) ∧ Below v.heap.size v w' := fun k1 k2 => by
      obtain ⟨o1, t1⟩ := told_zero k1
      obtain ⟨o2, t2⟩ := told_zero k2
      rw [t1, t2]
      exact compare_is (f6 o1 o2) (Nm.small o1) (Nm.small o2)
    have k1 := told_code (sumN a c)
    have k2 := told_code (sumN b c)
    generalize (sumN a c).told = X at hx c6 k1
    generalize (sumN b c).told = Y at hy c6 k2
    obtain ⟨⟨xn, xd, xe⟩, ec⟩ := X
    obtain ⟨⟨yn, yd, ye⟩, fc⟩ := Y
    rcases cmpN_cases a b oa ob with hn | hn | hn
    · have hne : ¬ (n1 = n2 ∧ d1 = d2 ∧ e1 = e2) := fun h => by
        have := f3 (by rw [ha, hb, h.1, h.2.1, h.2.2])
        rw [hn] at this
        exact absurd this (by decide)
      rw [hn] at f1 f4 c6
      have c1 := compare_is hn sa sb
      have c2 := compare_is f1 sb sa
      have c3 := compare_is f4 sa sb
      have c4 := compare_is (rfl : cmpN b c = cmpN b c) sb sc
      rw [ha, hb] at c1 c2 c3
      rw [hb, hc] at c4
      rw [ha, hc] at hx
      rw [hb, hc] at hy
      by_cases hp : cmpN b c = -1
      · have c5 := compare_is (f5 hn hp) sa sc
        rw [ha, hc] at c5
        rw [hb, hc] at hp
        rw [hp] at c4
        exact order_lt w n1 n2 n3 d1 d2 d3 e1 e2 e3 h1 h2 h3 c1 c2 _ _ rfl rfl c3 c4 c5 hne xn yn xd yd xe ye ec fc hx hy k1 k2 c6 ht
      · have hp2 : ¬ cmpN b c < 0 := by
          rcases cmpN_cases b c ob oc with h | h | h
          · exact absurd h hp
          · rw [h]; decide
          · rw [h]; decide
        rw [hb, hc] at hp2
        exact order_ln w n1 n2 n3 d1 d2 d3 e1 e2 e3 h1 h2 h3 c1 c2 _ _ rfl rfl c3 _ hp2 c4 hne xn yn xd yd xe ye ec fc hx hy k1 k2 c6 ht
    · have he := f2 hn
      rw [ha, hb] at he
      injection he with i1 i2 i3
      subst i1 i2 i3
      rw [hn] at f1 f4 c6
      have c1 := compare_is hn sa sb
      have c2 := compare_is f1 sb sa
      have c3 := compare_is f4 sa sb
      rw [ha, hb] at c1 c2 c3
      rw [ha, hc] at hx
      rw [hb, hc] at hy
      exact order_eq w n1 n3 d1 d3 e1 e3 h1 h3 c1 c2 _ rfl c3 xn yn xd yd xe ye ec fc hx hy k1 k2 c6 ht
    · have hne : ¬ (n1 = n2 ∧ d1 = d2 ∧ e1 = e2) := fun h => by
        have := f3 (by rw [ha, hb, h.1, h.2.1, h.2.2])
        rw [hn] at this
        exact absurd this (by decide)
      rw [hn] at f1 f4 c6
      have c1 := compare_is hn sa sb
      have c2 := compare_is f1 sb sa
      have c3 := compare_is f4 sa sb
      rw [ha, hb] at c1 c2 c3
      rw [ha, hc] at hx
      rw [hb, hc] at hy
      exact order_gt w n1 n2 n3 d1 d2 d3 e1 e2 e3 h1 h2 h3 c1 c2 _ _ rfl rfl c3 hne xn yn xd yd xe ye ec fc hx hy k1 k2 c6 ht
end Go.Proofs.YtpnhgggdjlglnaaDoor.dk
