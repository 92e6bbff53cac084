/- A number times ten to any exponent. -/
import Derived.Test.YtpnhgggdjlglnaaDoorF0
import Derived.Test.YtpnhgggdjlglnaaDoorB4
namespace Go.Proofs.YtpnhgggdjlglnaaDoor.dk
open Go.PlainAid Go.ChangeShapes Go.WideShapes Go.ChangeAt Go.RowKit

/-- Ten to an exponent. -/
def tenN (k : Int) : Nm := ⟨false, ⟨#[49]⟩, k⟩
def shiftN (d : Nm) (k : Int) : Nm := ⟨d.neg, d.dg, if d.dg.size = 0 then d.ex else d.ex + k⟩
theorem tenN_ok {k : Int} (h1 : -401 ≤ k) (h2 : k ≤ 399) : (tenN k).ok = true := by
  show dsane false [49] k = true
  unfold dsane
  rw [if_neg (by decide)]
  simp only [Bool.and_eq_true, decide_eq_true_eq]
  exact ⟨⟨by decide, by show -400 - 1 ≤ k; omega⟩, by show k ≤ 400 - 1; omega⟩
theorem tenN_val (k : Int) : (tenN k).val = 10 ^ (k - low).toNat := by
  show nv [49] * 10 ^ (k - low).toNat = _
  rw [show nv [49] = 1 by decide, Int.one_mul]
theorem shiftN_norm {d : Nm} (h : d.Norm) (k : Int) : (shiftN d k).Norm := by
  refine ⟨h.n, fun e => ?_⟩
  have hz : d.dg.size = 0 := by rw [← unstr_length]; show (shiftN d k).l.length = 0; rw [e]; rfl
  obtain ⟨a, b⟩ := h.z e
  exact ⟨a, by show (if d.dg.size = 0 then d.ex else d.ex + k) = 0; rw [if_pos hz, b]⟩
theorem mul_ten {d : Nm} (h : d.ok = true) {k : Int} (h1 : -1000 ≤ k) : mulN d (tenN k) = shiftN d k := by
  have hn := Nm.ok_norm h
  have hl := Nm.ok_low h
  have ht : Digs (tenN k).l := fun x hx => by
    have : x = 49 := by simpa using (show x ∈ [49] from hx)
    rw [this]
    decide
  have hv := mulN_val (b := tenN k) hn.n.dig ht (by omega) h1
  refine Nm.uniq (mulN_norm _ _) (shiftN_norm hn k) (fmN_ex _ _ _ (by rw [low_eq]; show -4000 ≤ d.ex + k; omega)) ?_ ?_
  · show low ≤ if d.dg.size = 0 then d.ex else d.ex + k
    rw [low_eq]
    split <;> omega
  · refine Int.eq_of_mul_eq_mul_right (Int.ne_of_gt unit_pos) (hv.trans ?_)
    rw [tenN_val]
    by_cases hz : d.dg.size = 0
    · rw [val_nil hz, val_nil (a := shiftN d k) hz, Int.zero_mul, Int.zero_mul]
    · have hm : d.mag * 10 ^ (k - low).toNat = (shiftN d k).mag * unit := by
        unfold Nm.mag unit
        rw [Int.mul_assoc, Int.mul_assoc, ← Int.pow_add, ← Int.pow_add]
        show _ = nv d.l * 10 ^ (((if d.dg.size = 0 then d.ex else d.ex + k) - low).toNat + (0 - low).toNat)
        rw [if_neg hz]
        congr 2
        rw [low_eq]
        omega
      unfold Nm.val
      show (if d.neg then _ else _) * _ = (if d.neg then _ else _) * _
      cases d.neg
      · exact hm
      · simp only [if_true, Int.neg_mul, hm]
theorem mulP_ten {d : Nm} (h : d.ok = true) {k : Int} (h1 : -401 ≤ k) (h2 : k ≤ 399) : mulP d (tenN k) = (shiftN d k).told := by
  unfold mulP
  rw [if_pos ⟨h, tenN_ok h1 h2⟩, mul_ten h (by omega)]
theorem told_ok {d : Nm} (h : d.ok = true) : d.told = (d, 0) := if_pos h
theorem told_no {d : Nm} (h : d.ok = false) : d.told = (Nm.zero, 4) := if_neg (by rw [h]; decide)
theorem mulP_one {d : Nm} (h : d.ok = true) : mulP d (tenN 0) = (d, 0) := by
  rw [mulP_ten h (by decide) (by decide), show shiftN d 0 = d from Nm.ext3 rfl rfl (by show (if d.dg.size = 0 then d.ex else d.ex + 0) = d.ex; split <;> omega), told_ok h]
theorem zero_ok : Nm.zero.ok = true := by decide
theorem zero_val : Nm.zero.val = 0 := val_nil rfl
theorem norm_zero {d : Nm} (h : d.Norm) (l : low ≤ d.ex) (hv : d.val = 0) : d = Nm.zero := Nm.uniq h (Nm.ok_norm zero_ok) l (by rw [low_eq]; decide) (hv.trans zero_val.symm)
theorem mulP_zero {d : Nm} (h : d.ok = true) : mulP d Nm.zero = (Nm.zero, 0) := by
  have hn := Nm.ok_norm h
  have hl := Nm.ok_low h
  have hv := mulN_val (b := Nm.zero) hn.n.dig (fun x hx => by cases hx) (by omega) (by decide)
  rw [zero_val, Int.mul_zero] at hv
  have h0 : (mulN d Nm.zero).val = 0 := by
    rcases Int.mul_eq_zero.1 hv with h | h
    · exact h
    · exact absurd h (Int.ne_of_gt unit_pos)
  unfold mulP
  rw [if_pos ⟨h, zero_ok⟩, norm_zero (mulN_norm _ _) (fmN_ex _ _ _ (by rw [low_eq]; show -4000 ≤ d.ex + 0; omega)) h0, told_ok zero_ok]
theorem of_one : fmd (decide ((1 : Int) < 0)) (itd 1) 0 = #[.bool false, .string ⟨#[49]⟩, .int .i64 0] := by kernel_rfl
theorem nm_zero {d : Nm} (h : d.ok = true) (hz : d.dg.size = 0) : d = Nm.zero := norm_zero (Nm.ok_norm h) (low_ok h) (val_nil hz)
end Go.Proofs.YtpnhgggdjlglnaaDoor.dk
/- Of two numbers one is below the other: what the values tell. -/
namespace Go.Proofs.YtpnhgggdjlglnaaDoor.dk
open Go.PlainAid Go.ChangeShapes Go.WideShapes Go.ChangeAt Go.RowKit

def cmpN (a b : Nm) : Int := cmpD a.neg a.dg a.ex b.neg b.dg b.ex
def negN (d : Nm) : Nm := ⟨ngd d.neg d.dg d.ex, d.dg, d.ex⟩
theorem negN_full {d : Nm} (h : d.ok = true) (hz : ¬ d.dg.size = 0) : negN d = ⟨!d.neg, d.dg, d.ex⟩ := by
  show (⟨ngd d.neg d.dg d.ex, d.dg, d.ex⟩ : Nm) = _
  unfold ngd
  rw [if_pos ⟨h, hz⟩]
theorem negN_nil {d : Nm} (hz : d.dg.size = 0) : negN d = d := by
  show (⟨ngd d.neg d.dg d.ex, d.dg, d.ex⟩ : Nm) = _
  unfold ngd
  rw [if_neg (fun h => h.2 hz)]
theorem negN_ok {d : Nm} (h : d.ok = true) : (negN d).ok = true := by
  by_cases hz : d.dg.size = 0
  · rw [negN_nil hz]
    exact h
  · rw [negN_full h hz]
    have h2 := h
    unfold Nm.ok dsane at h2 ⊢
    have hl : ¬ (unstr d.dg).length = 0 := by rw [unstr_length]; exact hz
    rw [if_neg hl] at h2 ⊢
    exact h2
theorem negN_val {d : Nm} (h : d.ok = true) : (negN d).val = - d.val := by
  by_cases hz : d.dg.size = 0
  · rw [negN_nil hz, val_nil hz]
    rfl
  · rw [negN_full h hz]
    unfold Nm.val
    show (if (!d.neg) then - d.mag else d.mag) = _
    cases d.neg <;> simp
theorem negN_negN {d : Nm} (h : d.ok = true) : negN (negN d) = d := Nm.uniq (Nm.ok_norm (negN_ok (negN_ok h))) (Nm.ok_norm h) (low_ok (negN_ok (negN_ok h))) (low_ok h) (by rw [negN_val (negN_ok h), negN_val h]; omega)
theorem cmpN_val {a b : Nm} (ha : a.ok = true) (hb : b.ok = true) : cmpN a b = cmpI a.val b.val := cmpD_val ha hb
theorem cmpI_cases (x y : Int) : (x < y ∧ cmpI x y = -1) ∨ (x = y ∧ cmpI x y = 0) ∨ (y < x ∧ cmpI x y = 1) := by
  rcases Int.lt_trichotomy x y with h | h | h
  · exact .inl ⟨h, cmpI_lt h⟩
  · exact .inr (.inl ⟨h, by rw [h, cmpI_eq]⟩)
  · exact .inr (.inr ⟨h, cmpI_gt h⟩)
theorem sum_all {a b : Nm} (ha : a.ok = true) (hb : b.ok = true) : (sumN a b).Norm ∧ low ≤ (sumN a b).ex ∧ (sumN a b).val = a.val + b.val := sumN_all (Nm.ok_norm ha) (Nm.ok_norm hb) (low_ok ha) (low_ok hb)
theorem addP_eq {a b : Nm} (ha : a.ok = true) (hb : b.ok = true) : addP a b = (sumN a b).told := if_pos ⟨ha, hb⟩
theorem mulP_eq {a b : Nm} (ha : a.ok = true) (hb : b.ok = true) : mulP a b = (mulN a b).told := if_pos ⟨ha, hb⟩
theorem told_cases (x : Nm) : (x.ok = true ∧ x.told = (x, 0)) ∨ (x.ok = false ∧ x.told = (Nm.zero, 4)) := by
  cases h : x.ok with
  | true => exact .inl ⟨rfl, told_ok h⟩
  | false => exact .inr ⟨rfl, told_no h⟩
/-- What DecOrder asks of three numbers. -/
theorem order_facts {a b c : Nm} (ha : a.ok = true) (hb : b.ok = true) (hc : c.ok = true) :
    cmpN b a = - cmpN a b ∧ (cmpN a b = 0 → a = b) ∧ (a = b → cmpN a b = 0) ∧ cmpN (negN a) (negN b) = - cmpN a b ∧ (cmpN a b = -1 → cmpN b c = -1 → cmpN a c = -1) ∧
      ((sumN a c).ok = true → (sumN b c).ok = true → cmpN (sumN a c) (sumN b c) = cmpN a b) := by
  refine ⟨?_, fun h => ?_, fun h => ?_, ?_, fun h1 h2 => ?_, fun h1 h2 => ?_⟩
  · rw [cmpN_val hb ha, cmpN_val ha hb]
    rcases cmpI_cases a.val b.val with ⟨h, e⟩ | ⟨h, e⟩ | ⟨h, e⟩
    · rw [e, cmpI_gt h]
      rfl
    · rw [h, cmpI_eq]
      rfl
    · rw [e, cmpI_lt h]
  · rw [cmpN_val ha hb] at h
    refine Nm.uniq (Nm.ok_norm ha) (Nm.ok_norm hb) (low_ok ha) (low_ok hb) ?_
    rcases cmpI_cases a.val b.val with ⟨_, e⟩ | ⟨h, _⟩ | ⟨_, e⟩
    · rw [e] at h
      exact absurd h (by decide)
    · exact h
    · rw [e] at h
      exact absurd h (by decide)
  · rw [h, cmpN_val hb hb, cmpI_eq]
  · rw [cmpN_val (negN_ok ha) (negN_ok hb), cmpN_val ha hb, negN_val ha, negN_val hb]
    rcases cmpI_cases a.val b.val with ⟨h, e⟩ | ⟨h, e⟩ | ⟨h, e⟩
    · rw [e, cmpI_gt (by omega)]
      rfl
    · rw [h, cmpI_eq, cmpI_eq]
      rfl
    · rw [e, cmpI_lt (by omega)]
  · rw [cmpN_val ha hb] at h1
    rw [cmpN_val hb hc] at h2
    rw [cmpN_val ha hc]
    rcases cmpI_cases a.val b.val with ⟨h, e⟩ | ⟨h, e⟩ | ⟨h, e⟩
    · rcases cmpI_cases b.val c.val with ⟨h', e'⟩ | ⟨h', e'⟩ | ⟨h', e'⟩
      · exact cmpI_lt (by omega)
      · rw [e'] at h2
        exact absurd h2 (by decide)
      · rw [e'] at h2
        exact absurd h2 (by decide)
    · rw [e] at h1
      exact absurd h1 (by decide)
    · rw [e] at h1
      exact absurd h1 (by decide)
  · rw [cmpN_val h1 h2, cmpN_val ha hb, (sum_all ha hc).2.2, (sum_all hb hc).2.2]
    rcases cmpI_cases a.val b.val with ⟨h, e⟩ | ⟨h, e⟩ | ⟨h, e⟩
    · rw [e, cmpI_lt (by omega)]
    · rw [h, cmpI_eq, cmpI_eq]
    · rw [e, cmpI_gt (by omega)]
theorem cmpN_cases (a b : Nm) (ha : a.ok = true) (hb : b.ok = true) : cmpN a b = -1 ∨ cmpN a b = 0 ∨ cmpN a b = 1 := by
  rw [cmpN_val ha hb]
  rcases cmpI_cases a.val b.val with ⟨_, e⟩ | ⟨_, e⟩ | ⟨_, e⟩
  · exact .inl e
  · exact .inr (.inl e)
  · exact .inr (.inr e)
end Go.Proofs.YtpnhgggdjlglnaaDoor.dk
/- Sums and products of numbers that may be: what serves every law. -/
namespace Go.Proofs.YtpnhgggdjlglnaaDoor.dk
open Go.PlainAid Go.ChangeShapes Go.WideShapes Go.ChangeAt Go.RowKit

theorem compare_is {a b : Nm} {k : Int} (h : cmpN a b = k) (s1 : a.dg.size ≤ 1000000) (s2 : b.dg.size ≤ 1000000) : ∀ v, Calls Tryd.prog 15 #[.agg #[.bool a.neg, .string a.dg, .int .i64 a.ex], .agg #[.bool b.neg, .string b.dg, .int .i64 b.ex]] v fun e w' => e = .returned (.int .i64 k) ∧ Below v.heap.size v w' := fun v => by
  have := Compare_any v a.neg b.neg a.dg b.dg a.ex b.ex s1 s2
  rw [show cmpD a.neg a.dg a.ex b.neg b.dg b.ex = k from h] at this
  exact this
theorem told_code (x : Nm) : x.told.2 = 0 ∨ x.told.2 = 4 := by
  rcases told_cases x with ⟨_, h⟩ | ⟨_, h⟩ <;> rw [h]
  · exact .inl rfl
  · exact .inr rfl
theorem told_zero {x : Nm} (h : x.told.2 = 0) : x.ok = true ∧ x.told.1 = x := by
  rcases told_cases x with ⟨h1, h2⟩ | ⟨_, h2⟩
  · exact ⟨h1, by rw [h2]⟩
  · rw [h2] at h
    exact absurd h (by decide)
theorem Nm.small {x : Nm} (h : x.ok = true) : x.dg.size ≤ 1000000 := by
  have := Nm.ok_low h
  omega
theorem mul_all {a b : Nm} (ha : a.ok = true) (hb : b.ok = true) : (mulN a b).Norm ∧ low ≤ (mulN a b).ex ∧ (mulN a b).val * unit = a.val * b.val := by
  have la := Nm.ok_low ha
  have lb := Nm.ok_low hb
  exact ⟨mulN_norm a b, fmN_ex _ _ _ (by rw [low_eq]; omega), mulN_val (Nm.ok_norm ha).n.dig (Nm.ok_norm hb).n.dig (by omega) (by omega)⟩
theorem unit_cancel {x y : Int} (h : x * unit = y * unit) : x = y := Int.eq_of_mul_eq_mul_right (Int.ne_of_gt unit_pos) h
theorem sum_comm {a b : Nm} (ha : a.ok = true) (hb : b.ok = true) : sumN b a = sumN a b := by
  obtain ⟨n1, l1, v1⟩ := sum_all ha hb
  obtain ⟨n2, l2, v2⟩ := sum_all hb ha
  exact Nm.uniq n2 n1 l2 l1 (by rw [v1, v2]; omega)
theorem mul_comm' {a b : Nm} (ha : a.ok = true) (hb : b.ok = true) : mulN b a = mulN a b := by
  obtain ⟨n1, l1, v1⟩ := mul_all ha hb
  obtain ⟨n2, l2, v2⟩ := mul_all hb ha
  exact Nm.uniq n2 n1 l2 l1 (unit_cancel (by rw [v1, v2, Int.mul_comm]))
theorem sum_back {a b : Nm} (ha : a.ok = true) (hb : b.ok = true) (hx : (sumN a b).ok = true) : sumN (sumN a b) (negN b) = a := by
  obtain ⟨n1, l1, v1⟩ := sum_all ha hb
  obtain ⟨n2, l2, v2⟩ := sum_all hx (negN_ok hb)
  exact Nm.uniq n2 (Nm.ok_norm ha) l2 (low_ok ha) (by rw [v2, v1, negN_val hb]; omega)
theorem mul_sum {a b c : Nm} (ha : a.ok = true) (hb : b.ok = true) (hc : c.ok = true) (hx : (sumN a b).ok = true) (hu : (mulN a c).ok = true) (hv : (mulN b c).ok = true) : sumN (mulN a c) (mulN b c) = mulN (sumN a b) c := by
  obtain ⟨_, _, v1⟩ := sum_all ha hb
  obtain ⟨_, _, v2⟩ := mul_all ha hc
  obtain ⟨_, _, v3⟩ := mul_all hb hc
  obtain ⟨n4, l4, v4⟩ := sum_all hu hv
  obtain ⟨n5, l5, v5⟩ := mul_all hx hc
  exact Nm.uniq n4 n5 l4 l5 (unit_cancel (by rw [v4, v5, v1, Int.add_mul, v2, v3, Int.add_mul]))
theorem told_small (x : Nm) : x.told.1.dg.size ≤ 1000000 := by
  rcases told_cases x with ⟨h1, h2⟩ | ⟨_, h2⟩ <;> rw [h2]
  · exact Nm.small h1
  · decide
theorem told_ok1 (x : Nm) : x.told.1.ok = true := by
  rcases told_cases x with ⟨h1, h2⟩ | ⟨_, h2⟩ <;> rw [h2]
  · exact h1
  · exact zero_ok
end Go.Proofs.YtpnhgggdjlglnaaDoor.dk
