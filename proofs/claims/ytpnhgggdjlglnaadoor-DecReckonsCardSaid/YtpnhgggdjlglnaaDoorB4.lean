/- A sum's value; what Compare tells. -/
import Derived.Test.YtpnhgggdjlglnaaDoorB2
import Derived.Test.YtpnhgggdjlglnaaDoorB3
namespace Go.Proofs.YtpnhgggdjlglnaaDoor.dk

theorem mdig_digs (d1 d2 : ByteArray) (e1 e2 t : Int) : Digs (mdig d1 d2 e1 e2 t) := msum_dig _ _ _
theorem unstr_mdig (d1 d2 : ByteArray) (e1 e2 t : Int) : unstr (strOf (mdig d1 d2 e1 e2 t)) = mdig d1 d2 e1 e2 t := unstr_strOf _ (Digs.bys (mdig_digs _ _ _ _ _))
theorem mgN_norm (a b : Nm) (t : Int) : (mgN a b t).Norm := fmN_norm _ _ _ (by rw [unstr_mdig]; exact mdig_digs _ _ _ _ _)
theorem mdig_val {a b : Nm} {t : Int} (ht : t = 1 ∨ t = -1) (ha : Digs a.l) (hb : Digs b.l) (la : low ≤ a.ex) (lb : low ≤ b.ex) (h0 : 0 ≤ a.mag + t * b.mag) :
    nv (mdig a.dg b.dg a.ex b.ex t) * 10 ^ (min a.ex b.ex - low).toNat = a.mag + t * b.mag := by
  obtain ⟨lo, hlo⟩ : ∃ lo, lo = min a.ex b.ex := ⟨_, rfl⟩
  obtain ⟨m, hm⟩ : ∃ m : Nat, m = (max ((a.dg.size : Int) + a.ex) ((b.dg.size : Int) + b.ex) - min a.ex b.ex + 1).toNat := ⟨_, rfl⟩
  obtain ⟨f, hf⟩ : ∃ f : Int → Int, f = fun p => dat (unstr a.dg) a.ex p + t * dat (unstr b.dg) b.ex p := ⟨_, rfl⟩
  have hmd : mdig a.dg b.dg a.ex b.ex t = (msum f lo m).2 := by
    unfold mdig
    rw [hf, hlo, hm]
  have lena : a.l.length = a.dg.size := unstr_length _
  have lenb : b.l.length = b.dg.size := unstr_length _
  have hv := msum_val f lo m
  rw [dsum_add (dat a.l a.ex) (dat b.l b.ex) f t lo (fun p => by rw [hf]; rfl) m, dsum_dat a.l a.ex lo m (by omega) (by omega), dsum_dat b.l b.ex lo m (by omega) (by omega)] at hv
  have hdd : Digs (msum f lo m).2 := msum_dig _ _ _
  have hr := nv_range _ hdd
  rw [msum_len] at hr
  have ra := nv_range a.l ha
  have rb := nv_range b.l hb
  have ma : nv a.l * 10 ^ (a.ex - lo).toNat * 10 ^ (lo - low).toNat = a.mag := by
    unfold Nm.mag
    rw [Int.mul_assoc, ← Int.pow_add]
    congr 2
    omega
  have mb : nv b.l * 10 ^ (b.ex - lo).toNat * 10 ^ (lo - low).toNat = b.mag := by
    unfold Nm.mag
    rw [Int.mul_assoc, ← Int.pow_add]
    congr 2
    omega
  have pa := ten_pos (a.ex - lo).toNat
  have pb := ten_pos (b.ex - lo).toNat
  have ua : nv a.l * 10 ^ (a.ex - lo).toNat < 10 ^ (m - 1) := by
    have h1 := Int.mul_lt_mul_of_pos_right ra.2 pa
    rw [← Int.pow_add] at h1
    exact Int.lt_of_lt_of_le h1 (ten_mono (by omega))
  have ub : nv b.l * 10 ^ (b.ex - lo).toNat < 10 ^ (m - 1) := by
    have h1 := Int.mul_lt_mul_of_pos_right rb.2 pb
    rw [← Int.pow_add] at h1
    exact Int.lt_of_lt_of_le h1 (ten_mono (by omega))
  have ga := Int.mul_nonneg ra.1 (Int.le_of_lt pa)
  have gb := Int.mul_nonneg rb.1 (Int.le_of_lt pb)
  rw [hmd, ← hlo]
  generalize nv a.l * 10 ^ (a.ex - lo).toNat = x at *
  generalize nv b.l * 10 ^ (b.ex - lo).toNat = y at *
  have hmm : (10 : Int) ^ m = 10 ^ (m - 1) * 10 := by
    rw [← Int.pow_succ]
    congr 1
    omega
  have pk := ten_pos (lo - low).toNat
  have hxy : (x + t * y) * 10 ^ (lo - low).toNat = a.mag + t * b.mag := by rw [Int.add_mul, Int.mul_assoc, ma, mb]
  have hge : 0 ≤ x + t * y := by
    rcases (show x + t * y < 0 ∨ 0 ≤ x + t * y by omega) with h | h
    · have := Int.mul_neg_of_neg_of_pos h pk
      omega
    · exact h
  have hlt : x + t * y < 10 ^ m := by
    rw [hmm]
    rcases ht with rfl | rfl <;> omega
  generalize (msum f lo m).1 = C at hv
  have hC : C = 0 := by
    have hp := ten_pos m
    rcases Int.lt_trichotomy C 0 with hneg | h0 | hpos
    · have := Int.mul_le_mul_of_nonneg_right (show C ≤ -1 by omega) (show (0 : Int) ≤ 10 ^ m by omega)
      omega
    · exact h0
    · have := Int.mul_le_mul_of_nonneg_right (show 1 ≤ C by omega) (show (0 : Int) ≤ 10 ^ m by omega)
      omega
  subst hC
  rw [Int.zero_mul, Int.zero_add] at hv
  rw [← hv]
  exact hxy
theorem mgN_val {a b : Nm} {t : Int} (ht : t = 1 ∨ t = -1) (ha : Digs a.l) (hb : Digs b.l) (la : low ≤ a.ex) (lb : low ≤ b.ex) (h0 : 0 ≤ a.mag + t * b.mag) :
    (mgN a b t).val = if a.neg then - (a.mag + t * b.mag) else a.mag + t * b.mag := by
  have hv := fmN_val a.neg (strOf (mdig a.dg b.dg a.ex b.ex t)) (min a.ex b.ex) (by omega)
  rw [unstr_mdig, mdig_val ht ha hb la lb h0] at hv
  exact hv
theorem mgN_ex (a b : Nm) (t : Int) (la : low ≤ a.ex) (lb : low ≤ b.ex) : low ≤ (mgN a b t).ex := fmN_ex _ _ _ (by omega)
theorem l_nil {a : Nm} (h : a.dg.size = 0) : a.l = [] := by
  show unstr a.dg = []
  rw [ba_nil h]
  rfl
theorem l_full {a : Nm} (h : ¬ a.dg.size = 0) : a.l ≠ [] := fun e => h (by rw [← unstr_length]; show a.l.length = 0; rw [e]; rfl)
theorem val_nil {a : Nm} (h : a.dg.size = 0) : a.val = 0 := by
  have := Nm.mag_zero (l_nil h)
  unfold Nm.val
  rw [this]
  split <;> rfl
/-- A sum: a number, in its form, whose value is the sum. -/
theorem sumN_all {a b : Nm} (ha : a.Norm) (hb : b.Norm) (la : low ≤ a.ex) (lb : low ≤ b.ex) : (sumN a b).Norm ∧ low ≤ (sumN a b).ex ∧ (sumN a b).val = a.val + b.val := by
  unfold sumN
  by_cases za : a.dg.size = 0
  · rw [if_pos za]
    exact ⟨hb, lb, by rw [val_nil za]; omega⟩
  rw [if_neg za]
  by_cases zb : b.dg.size = 0
  · rw [if_pos zb]
    exact ⟨ha, la, by rw [val_nil zb]; omega⟩
  rw [if_neg zb]
  have pa := Nm.mag_nonneg ha.n
  have pb := Nm.mag_nonneg hb.n
  by_cases hn : a.neg = b.neg
  · rw [if_pos hn]
    refine ⟨mgN_norm _ _ _, mgN_ex _ _ _ la lb, ?_⟩
    rw [mgN_val (.inl rfl) ha.n.dig hb.n.dig la lb (by omega)]
    unfold Nm.val
    rw [hn]
    split <;> omega
  · rw [if_neg hn]
    have ho := lgr_order ha.n hb.n (l_full za) (l_full zb) la lb
    by_cases hl : lgr a.dg b.dg a.ex b.ex < 0
    · rw [if_pos hl]
      refine ⟨mgN_norm _ _ _, mgN_ex _ _ _ lb la, ?_⟩
      rw [mgN_val (.inr rfl) hb.n.dig ha.n.dig lb la (by omega)]
      unfold Nm.val
      cases ea : a.neg <;> cases eb : b.neg <;> rw [ea, eb] at hn <;> simp at hn ⊢ <;> omega
    · rw [if_neg hl]
      refine ⟨mgN_norm _ _ _, mgN_ex _ _ _ la lb, ?_⟩
      rw [mgN_val (.inr rfl) ha.n.dig hb.n.dig la lb (by omega)]
      unfold Nm.val
      cases ea : a.neg <;> cases eb : b.neg <;> rw [ea, eb] at hn <;> simp at hn ⊢ <;> omega
theorem cmpI_lt {x y : Int} (h : x < y) : cmpI x y = -1 := if_pos h
theorem cmpI_gt {x y : Int} (h : y < x) : cmpI x y = 1 := by
  unfold cmpI
  rw [if_neg (by omega), if_pos h]
theorem cmpI_eq (x : Int) : cmpI x x = 0 := by
  unfold cmpI
  rw [if_neg (by omega), if_neg (by omega)]
theorem low_ok {a : Nm} (h : a.ok = true) : low ≤ a.ex := by
  have := Nm.ok_low h
  rw [low_eq]
  omega
/-- Compare tells which value is below the other one. -/
theorem cmpD_val {a b : Nm} (ha : a.ok = true) (hb : b.ok = true) : cmpD a.neg a.dg a.ex b.neg b.dg b.ex = cmpI a.val b.val := by
  have na := Nm.ok_norm ha
  have nb := Nm.ok_norm hb
  unfold cmpD
  rw [if_pos ⟨ha, hb⟩]
  by_cases za : a.dg.size = 0
  · have va := val_nil za
    have sa : sgd a.neg a.dg = 0 := if_pos za
    rw [va, sa]
    by_cases zb : b.dg.size = 0
    · rw [val_nil zb, show sgd b.neg b.dg = 0 from if_pos zb, if_pos rfl, cmpI_eq, Int.zero_mul]
    · have mb := Nm.mag_pos nb.n (l_full zb)
      unfold Nm.val
      cases eb : b.neg
      · rw [show sgd false b.dg = 1 by unfold sgd; rw [if_neg zb]; rfl, if_neg (by decide), cmpI_lt (by decide)]
        simp only [Bool.false_eq_true, if_false]
        rw [cmpI_lt mb]
      · rw [show sgd true b.dg = -1 by unfold sgd; rw [if_neg zb]; rfl, if_neg (by decide), cmpI_gt (by decide)]
        simp only [if_true]
        rw [cmpI_gt (by omega)]
  · have ma := Nm.mag_pos na.n (l_full za)
    by_cases zb : b.dg.size = 0
    · rw [val_nil zb, show sgd b.neg b.dg = 0 from if_pos zb]
      unfold Nm.val
      cases ea : a.neg
      · rw [show sgd false a.dg = 1 by unfold sgd; rw [if_neg za]; rfl, if_neg (by decide), cmpI_gt (by decide)]
        simp only [Bool.false_eq_true, if_false]
        rw [cmpI_gt ma]
      · rw [show sgd true a.dg = -1 by unfold sgd; rw [if_neg za]; rfl, if_neg (by decide), cmpI_lt (by decide)]
        simp only [if_true]
        rw [cmpI_lt (by omega)]
    · have mb := Nm.mag_pos nb.n (l_full zb)
      have ho := lgr_order na.n nb.n (l_full za) (l_full zb) (low_ok ha) (low_ok hb)
      unfold Nm.val
      cases ea : a.neg <;> cases eb : b.neg
      · rw [show sgd false a.dg = 1 by unfold sgd; rw [if_neg za]; rfl, show sgd false b.dg = 1 by unfold sgd; rw [if_neg zb]; rfl, if_pos rfl]
        simp only [Bool.false_eq_true, if_false, Int.one_mul]
        rcases ho with ⟨h, h2⟩ | ⟨h, h2⟩ | ⟨h, h2⟩
        · rw [h, cmpI_lt h2]
        · rw [h, h2, cmpI_eq]
        · rw [h, cmpI_gt h2]
      · rw [show sgd false a.dg = 1 by unfold sgd; rw [if_neg za]; rfl, show sgd true b.dg = -1 by unfold sgd; rw [if_neg zb]; rfl, if_neg (by decide), cmpI_gt (by decide)]
        simp only [Bool.false_eq_true, if_false, if_true]
        rw [cmpI_gt (by omega)]
      · rw [show sgd true a.dg = -1 by unfold sgd; rw [if_neg za]; rfl, show sgd false b.dg = 1 by unfold sgd; rw [if_neg zb]; rfl, if_neg (by decide), cmpI_lt (by decide)]
        simp only [Bool.false_eq_true, if_false, if_true]
        rw [cmpI_lt (by omega)]
      · rw [show sgd true a.dg = -1 by unfold sgd; rw [if_neg za]; rfl, show sgd true b.dg = -1 by unfold sgd; rw [if_neg zb]; rfl, if_pos rfl]
        simp only [if_true]
        rcases ho with ⟨h, h2⟩ | ⟨h, h2⟩ | ⟨h, h2⟩
        · rw [h, cmpI_gt (by omega)]
          rfl
        · rw [h, h2, cmpI_eq]
          rfl
        · rw [h, cmpI_lt (by omega)]
          rfl
end Go.Proofs.YtpnhgggdjlglnaaDoor.dk
