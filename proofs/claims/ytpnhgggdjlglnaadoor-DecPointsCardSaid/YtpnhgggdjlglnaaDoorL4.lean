/- Of two numbers one is below the other: what the values tell. -/
import Derived.Test.YtpnhgggdjlglnaaDoorL1
namespace Go.Proofs.YtpnhgggdjlglnaaDoor.dk
open Go.PlainAid Go.ChangeShapes Go.WideShapes Go.ChangeAt Go.RowKit

def cmpN (a b : Nm) : Int := cmpD a.neg a.dg a.ex b.neg b.dg b.ex
def negN (d : Nm) : Nm := ⟨ngd d.neg d.dg d.ex, d.dg, d.ex⟩
theorem negN_full {d : Nm} (h : d.ok = true) (hz : ¬ d.dg.size = 0) : negN d = ⟨!d.neg, d.dg, d.ex⟩ := by
  show (⟨ngd d.neg d.dg d.ex, d.dg, d.ex⟩ : Nm) = _
  unfold ngd
  rw [if_pos ⟨h, hz⟩]
theorem negN_nil {d : Nm} (hz : d.dg.size = 0) : negN d = d := by
  show (⟨ngd d.neg d.dg d.ex, d.dg, d.ex⟩ : Nm) = _
  unfold ngd
  rw [if_neg (fun h => h.2 hz)]
theorem negN_ok {d : Nm} (h : d.ok = true) : (negN d).ok = true := by
  by_cases hz : d.dg.size = 0
  · rw [negN_nil hz]
    exact h
  · rw [negN_full h hz]
    have h2 := h
    unfold Nm.ok dsane at h2 ⊢
    have hl : ¬ (unstr d.dg).length = 0 := by rw [unstr_length]; exact hz
    rw [if_neg hl] at h2 ⊢
    exact h2
theorem negN_val {d : Nm} (h : d.ok = true) : (negN d).val = - d.val := by
  by_cases hz : d.dg.size = 0
  · rw [negN_nil hz, val_nil hz]
    rfl
  · rw [negN_full h hz]
    unfold Nm.val
    show (if (!d.neg) then - d.mag else d.mag) = _
    cases d.neg <;> simp
theorem negN_negN {d : Nm} (h : d.ok = true) : negN (negN d) = d := Nm.uniq (Nm.ok_norm (negN_ok (negN_ok h))) (Nm.ok_norm h) (low_ok (negN_ok (negN_ok h))) (low_ok h) (by rw [negN_val (negN_ok h), negN_val h]; omega)
theorem cmpN_val {a b : Nm} (ha : a.ok = true) (hb : b.ok = true) : cmpN a b = cmpI a.val b.val := cmpD_val ha hb
theorem cmpI_cases (x y : Int) : (x < y ∧ cmpI x y = -1) ∨ (x = y ∧ cmpI x y = 0) ∨ (y < x ∧ cmpI x y = 1) := by
  rcases Int.lt_trichotomy x y with h | h | h
  · exact .inl ⟨h, cmpI_lt h⟩
  · exact .inr (.inl ⟨h, by rw [h, cmpI_eq]⟩)
  · exact .inr (.inr ⟨h, cmpI_gt h⟩)
theorem sum_all {a b : Nm} (ha : a.ok = true) (hb : b.ok = true) : (sumN a b).Norm ∧ low ≤ (sumN a b).ex ∧ (sumN a b).val = a.val + b.val := sumN_all (Nm.ok_norm ha) (Nm.ok_norm hb) (low_ok ha) (low_ok hb)
theorem addP_eq {a b : Nm} (ha : a.ok = true) (hb : b.ok = true) : addP a b = (sumN a b).told := if_pos ⟨ha, hb⟩
theorem mulP_eq {a b : Nm} (ha : a.ok = true) (hb : b.ok = true) : mulP a b = (mulN a b).told := if_pos ⟨ha, hb⟩
theorem told_cases (x : Nm) : (x.ok = true ∧ x.told = (x, 0)) ∨ (x.ok = false ∧ x.told = (Nm.zero, 4)) := by
  cases h : x.ok with
  | true => exact .inl ⟨rfl, told_ok h⟩
  | false => exact .inr ⟨rfl, told_no h⟩
/-- What DecOrder asks of three numbers. -/
theorem order_facts {a b c : Nm} (ha : a.ok = true) (hb : b.ok = true) (hc : c.ok = true) :
    cmpN b a = - cmpN a b ∧ (cmpN a b = 0 → a = b) ∧ (a = b → cmpN a b = 0) ∧ cmpN (negN a) (negN b) = - cmpN a b ∧ (cmpN a b = -1 → cmpN b c = -1 → cmpN a c = -1) ∧
      ((sumN a c).ok = true → (sumN b c).ok = true → cmpN (sumN a c) (sumN b c) = cmpN a b) := by
  refine ⟨?_, fun h => ?_, fun h => ?_, ?_, fun h1 h2 => ?_, fun h1 h2 => ?_⟩
  · rw [cmpN_val hb ha, cmpN_val ha hb]
    rcases cmpI_cases a.val b.val with ⟨h, e⟩ | ⟨h, e⟩ | ⟨h, e⟩
    · rw [e, cmpI_gt h]
      rfl
    · rw [h, cmpI_eq]
      rfl
    · rw [e, cmpI_lt h]
  · rw [cmpN_val ha hb] at h
    refine Nm.uniq (Nm.ok_norm ha) (Nm.ok_norm hb) (low_ok ha) (low_ok hb) ?_
    rcases cmpI_cases a.val b.val with ⟨_, e⟩ | ⟨h, _⟩ | ⟨_, e⟩
    · rw [e] at h
      exact absurd h (by decide)
    · exact h
    · rw [e] at h
      exact absurd h (by decide)
  · rw [h, cmpN_val hb hb, cmpI_eq]
  · rw [cmpN_val (negN_ok ha) (negN_ok hb), cmpN_val ha hb, negN_val ha, negN_val hb]
    rcases cmpI_cases a.val b.val with ⟨h, e⟩ | ⟨h, e⟩ | ⟨h, e⟩
    · rw [e, cmpI_gt (by omega)]
      rfl
    · rw [h, cmpI_eq, cmpI_eq]
      rfl
    · rw [e, cmpI_lt (by omega)]
  · rw [cmpN_val ha hb] at h1
    rw [cmpN_val hb hc] at h2
    rw [cmpN_val ha hc]
    rcases cmpI_cases a.val b.val with ⟨h, e⟩ | ⟨h, e⟩ | ⟨h, e⟩
    · rcases cmpI_cases b.val c.val with ⟨h', e'⟩ | ⟨h', e'⟩ | ⟨h', e'⟩
      · exact cmpI_lt (by omega)
      · rw [e'] at h2
        exact absurd h2 (by decide)
      · rw [e'] at h2
        exact absurd h2 (by decide)
    · rw [e] at h1
      exact absurd h1 (by decide)
    · rw [e] at h1
      exact absurd h1 (by decide)
  · rw [cmpN_val h1 h2, cmpN_val ha hb, (sum_all ha hc).2.2, (sum_all hb hc).2.2]
    rcases cmpI_cases a.val b.val with ⟨h, e⟩ | ⟨h, e⟩ | ⟨h, e⟩
    · rw [e, cmpI_lt (by omega)]
    · rw [h, cmpI_eq, cmpI_eq]
    · rw [e, cmpI_gt (by omega)]
theorem cmpN_cases (a b : Nm) (ha : a.ok = true) (hb : b.ok = true) : cmpN a b = -1 ∨ cmpN a b = 0 ∨ cmpN a b = 1 := by
  rw [cmpN_val ha hb]
  rcases cmpI_cases a.val b.val with ⟨_, e⟩ | ⟨_, e⟩ | ⟨_, e⟩
  · exact .inl e
  · exact .inr (.inl e)
  · exact .inr (.inr e)
end Go.Proofs.YtpnhgggdjlglnaaDoor.dk
