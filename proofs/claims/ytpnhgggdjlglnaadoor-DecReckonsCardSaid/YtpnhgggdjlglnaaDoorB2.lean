/- A product's value. -/
import Derived.Test.YtpnhgggdjlglnaaDoorB1
import Derived.Test.YtpnhgggdjlglnaaDoorX5
namespace Go.Proofs.YtpnhgggdjlglnaaDoor.dk

def csum (c : Nat → Int) : Nat → Int
  | 0 => 0
  | j + 1 => csum c j + c j * 10 ^ j
theorem psum_val (c : Nat → Int) : ∀ j, csum c j = (psum c j).1 * 10 ^ j + nv (psum c j).2
  | 0 => by
    show (0 : Int) = 0 * _ + 0
    rw [Int.zero_mul, Int.zero_add]
  | j + 1 => by
    show csum c j + c j * 10 ^ j = (((psum c j).1 + c j) / 10) * 10 ^ (j + 1) + ((48 + ((psum c j).1 + c j) % 10 - 48) * 10 ^ (psum c j).2.length + nv (psum c j).2)
    rw [psum_val c j, psum_len, Int.pow_succ]
    generalize (psum c j).1 = C
    generalize c j = x
    generalize nv (psum c j).2 = n
    generalize (10 : Int) ^ j = P
    obtain ⟨q, r, hq, hr, e⟩ : ∃ q r, (C + x) / 10 = q ∧ (C + x) % 10 = r ∧ C + x = 10 * q + r := ⟨_, _, rfl, rfl, by omega⟩
    rw [hq, hr, show 48 + r - 48 = r by omega]
    have ex : x = 10 * q + r - C := by omega
    subst ex
    have e1 : q * (P * 10) = 10 * (q * P) := by rw [← Int.mul_assoc, Int.mul_comm (q * P) 10]
    have e2 : (10 * q + r - C) * P = 10 * (q * P) + r * P - C * P := by rw [Int.sub_mul, Int.add_mul, Int.mul_assoc]
    rw [e1, e2]
    omega
/-- One digit times a number, from place m on. -/
theorem csum_one (A : Int) (B : Int → Int) (m : Nat) : ∀ n : Nat, csum (fun i => if m ≤ i then A * B ((i : Int) - (m : Int)) else 0) n = A * 10 ^ m * csum (fun j => B (j : Int)) (n - m)
  | 0 => by
    rw [Nat.zero_sub]
    show (0 : Int) = _ * 0
    rw [Int.mul_zero]
  | n + 1 => by
    show csum _ n + (if m ≤ n then A * B ((n : Int) - (m : Int)) else 0) * 10 ^ n = _
    rw [csum_one A B m n]
    by_cases h : m ≤ n
    · obtain ⟨k, rfl⟩ := Nat.exists_eq_add_of_le h
      rw [if_pos h, show m + k + 1 - m = k + 1 by omega, show m + k - m = k by omega, show ((m + k : Nat) : Int) - (m : Int) = (k : Int) by omega]
      show _ = A * 10 ^ m * (csum (fun j => B (j : Int)) k + B (k : Int) * 10 ^ k)
      rw [Int.mul_add, Int.pow_add]
      congr 1
      rw [Int.mul_assoc, Int.mul_assoc, ← Int.mul_assoc (B k), Int.mul_comm (B k), Int.mul_assoc (10 ^ m)]
    · rw [if_neg h, show n + 1 - m = 0 by omega, show n - m = 0 by omega, Int.zero_mul, Int.add_zero]
theorem csum_add (a b c : Nat → Int) (h : ∀ i, c i = a i + b i) : ∀ n, csum c n = csum a n + csum b n
  | 0 => rfl
  | n + 1 => by
    show csum c n + c n * 10 ^ n = csum a n + a n * 10 ^ n + (csum b n + b n * 10 ^ n)
    rw [csum_add a b c h n, h n, Int.add_mul]
    omega
theorem csum_congr (a b : Nat → Int) (h : ∀ i, a i = b i) (n : Nat) : csum a n = csum b n := by rw [show a = b from funext h]
theorem isum_zero (F : Nat → Int) : isum F 0 = 0 := rfl
/-- Digits times digits: place by place, or digit by digit. -/
theorem conv_sum (A : Nat → Int) (B : Int → Int) (n : Nat) : ∀ m : Nat, csum (fun i => isum (fun k => A k * B ((i : Int) - (k : Int))) (min (i + 1) m)) n = isum (fun k => A k * 10 ^ k * csum (fun j => B (j : Int)) (n - k)) m
  | 0 => by
    show _ = (0 : Int)
    have : ∀ n, csum (fun i => isum (fun k => A k * B ((i : Int) - (k : Int))) (min (i + 1) 0)) n = 0 := fun n => by
      induction n with
      | zero => rfl
      | succ n ih =>
        show csum _ n + isum _ (min (n + 1) 0) * 10 ^ n = 0
        rw [ih, Nat.min_zero, isum_zero, Int.zero_mul, Int.add_zero]
    exact this n
  | m + 1 => by
    show _ = isum _ m + A m * 10 ^ m * csum (fun j => B (j : Int)) (n - m)
    rw [← conv_sum A B n m, ← csum_one (A m) B m n]
    refine csum_add _ _ _ (fun i => ?_) n
    by_cases h : m ≤ i
    · rw [if_pos h, show min (i + 1) (m + 1) = m + 1 by omega, show min (i + 1) m = m by omega]
      rfl
    · rw [if_neg h, show min (i + 1) (m + 1) = i + 1 by omega, show min (i + 1) m = i + 1 by omega, Int.add_zero]
theorem csum_dsum (f : Int → Int) (lo : Int) : ∀ n, csum (fun j => f (lo + (j : Int))) n = dsum f lo n
  | 0 => rfl
  | n + 1 => by
    show csum _ n + f (lo + (n : Int)) * 10 ^ n = dsum f lo n + f (lo + n) * 10 ^ n
    rw [csum_dsum f lo n]
theorem isum_csum (A : Nat → Int) (x : Int) : ∀ m, isum (fun k => A k * 10 ^ k * x) m = csum A m * x
  | 0 => by
    show (0 : Int) = 0 * x
    rw [Int.zero_mul]
  | m + 1 => by
    show isum _ m + A m * 10 ^ m * x = (csum A m + A m * 10 ^ m) * x
    rw [isum_csum A x m, Int.add_mul]
theorem isum_congr (F G : Nat → Int) : ∀ m, (∀ k, k < m → F k = G k) → isum F m = isum G m
  | 0, _ => rfl
  | m + 1, h => by
    show isum F m + F m = isum G m + G m
    rw [isum_congr F G m (fun k hk => h k (by omega)), h m (by omega)]
theorem csum_pC (l1 l2 : List Int) (e1 e2 : Int) : csum (pC l1 l2 e1 e2 l1.length) (l1.length + l2.length) = nv l1 * nv l2 := by
  have e : ∀ i, pC l1 l2 e1 e2 l1.length i = isum (fun k => dat l1 e1 (e1 + (k : Int)) * (fun j => dat l2 e2 (e2 + j)) ((i : Int) - (k : Int))) (min (i + 1) l1.length) := fun i => by
    unfold pC
    refine isum_congr _ _ _ fun k _ => ?_
    unfold pF
    show _ = _ * dat l2 e2 (e2 + ((i : Int) - (k : Int)))
    rw [show e2 + (i : Int) - (k : Int) = e2 + ((i : Int) - (k : Int)) by omega]
  rw [csum_congr _ _ e, conv_sum (fun k => dat l1 e1 (e1 + (k : Int))) (fun j => dat l2 e2 (e2 + j))]
  have h2 : ∀ k, k < l1.length → csum (fun j => dat l2 e2 (e2 + (j : Int))) (l1.length + l2.length - k) = nv l2 := fun k hk => by
    rw [csum_dsum, dsum_dat l2 e2 e2 _ (by omega) (by omega), show (e2 - e2).toNat = 0 by omega, Int.pow_zero, Int.mul_one]
  rw [isum_congr _ (fun k => dat l1 e1 (e1 + (k : Int)) * 10 ^ k * nv l2) _ (fun k hk => by rw [h2 k hk]), isum_csum, csum_dsum, dsum_dat l1 e1 e1 _ (by omega) (by omega), show (e1 - e1).toNat = 0 by omega, Int.pow_zero, Int.mul_one]
theorem pdig_val (d1 d2 : ByteArray) (e1 e2 : Int) (h1 : Digs (unstr d1)) (h2 : Digs (unstr d2)) : nv (pdig d1 d2 e1 e2) = nv (unstr d1) * nv (unstr d2) := by
  unfold pdig
  have hv := psum_val (pC (unstr d1) (unstr d2) e1 e2 d1.size) (d1.size + d2.size)
  have hc := csum_pC (unstr d1) (unstr d2) e1 e2
  rw [unstr_length, unstr_length] at hc
  rw [hc] at hv
  have hd : Digs (psum (pC (unstr d1) (unstr d2) e1 e2 d1.size) (d1.size + d2.size)).2 := psum_dig _ _
  have hr := nv_range _ hd
  rw [psum_len] at hr
  have r1 := nv_range _ h1
  have r2 := nv_range _ h2
  rw [unstr_length] at r1 r2
  have hlt : nv (unstr d1) * nv (unstr d2) < 10 ^ (d1.size + d2.size) := by
    rw [Int.pow_add]
    have a1 := Int.mul_le_mul_of_nonneg_right (show nv (unstr d1) ≤ 10 ^ d1.size by omega) r2.1
    have a2 := Int.mul_lt_mul_of_pos_left r2.2 (ten_pos d1.size)
    omega
  have hge : 0 ≤ nv (unstr d1) * nv (unstr d2) := Int.mul_nonneg r1.1 r2.1
  generalize (psum (pC (unstr d1) (unstr d2) e1 e2 d1.size) (d1.size + d2.size)).1 = C at hv
  have hC : C = 0 := by
    have hp := ten_pos (d1.size + d2.size)
    rcases Int.lt_trichotomy C 0 with hneg | h0 | hpos
    · have := Int.mul_le_mul_of_nonneg_right (show C ≤ -1 by omega) (show (0 : Int) ≤ 10 ^ (d1.size + d2.size) by omega)
      omega
    · exact h0
    · have := Int.mul_le_mul_of_nonneg_right (show 1 ≤ C by omega) (show (0 : Int) ≤ 10 ^ (d1.size + d2.size) by omega)
      omega
  subst hC
  rw [Int.zero_mul, Int.zero_add] at hv
  exact hv.symm
theorem Digs.bys {l : List Int} (h : Digs l) : Bys l := fun x hx => by
  have := dig_range (h x hx)
  omega
/-- One, in units of ten to low. -/
def unit : Int := 10 ^ (0 - low).toNat
theorem unit_pos : 0 < unit := ten_pos _
theorem pdig_digs (d1 d2 : ByteArray) (e1 e2 : Int) : Digs (pdig d1 d2 e1 e2) := psum_dig _ _
theorem unstr_pdig (d1 d2 : ByteArray) (e1 e2 : Int) : unstr (strOf (pdig d1 d2 e1 e2)) = pdig d1 d2 e1 e2 := unstr_strOf _ (Digs.bys (pdig_digs _ _ _ _))
theorem mulN_norm (a b : Nm) : (mulN a b).Norm := fmN_norm _ _ _ (by rw [unstr_pdig]; exact pdig_digs _ _ _ _)
theorem mulN_val {a b : Nm} (ha : Digs a.l) (hb : Digs b.l) (x1 : -1000 ≤ a.ex) (x2 : -1000 ≤ b.ex) : (mulN a b).val * unit = a.val * b.val := by
  have hv := fmN_val (a.neg != b.neg) (strOf (pdig a.dg b.dg a.ex b.ex)) (a.ex + b.ex) (by rw [low_eq]; omega)
  rw [unstr_pdig, pdig_val _ _ _ _ ha hb] at hv
  show (fmN _ _ _).val * unit = _
  rw [hv]
  have hk : nv (unstr a.dg) * nv (unstr b.dg) * 10 ^ (a.ex + b.ex - low).toNat * unit = a.mag * b.mag := by
    unfold Nm.mag unit Nm.l
    rw [Int.mul_assoc, ← Int.pow_add, show (a.ex + b.ex - low).toNat + (0 - low).toNat = (a.ex - low).toNat + (b.ex - low).toNat by rw [low_eq]; omega, Int.pow_add]
    rw [Int.mul_assoc, ← Int.mul_assoc (nv (unstr b.dg)), Int.mul_comm (nv (unstr b.dg)), Int.mul_assoc (10 ^ _), ← Int.mul_assoc (nv (unstr a.dg))]
  unfold Nm.val
  cases a.neg <;> cases b.neg <;> simp only [bne_self_eq_false, Bool.false_eq_true, if_false, if_true, Bool.true_bne, Bool.false_bne, Bool.not_false, Int.neg_mul, Int.mul_neg, Int.neg_neg, hk]
end Go.Proofs.YtpnhgggdjlglnaaDoor.dk
