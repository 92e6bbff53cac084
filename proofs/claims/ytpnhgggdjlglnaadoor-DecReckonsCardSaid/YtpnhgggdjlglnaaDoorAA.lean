/- Digits as a number. -/
import Derived.Test.YtpnhgggdjlglnaaDoorV
namespace Go.Proofs.YtpnhgggdjlglnaaDoor.dk

/-- Digits, the highest ahead, as a number. -/
def nv : List Int → Int
  | [] => 0
  | c :: l => (c - 48) * 10 ^ l.length + nv l
def Digs (l : List Int) : Prop := ∀ x ∈ l, isDig x = true
theorem dig_range {c : Int} (h : isDig c = true) : 48 ≤ c ∧ c ≤ 57 := by
  unfold isDig at h
  simp only [Bool.and_eq_true, decide_eq_true_eq] at h
  exact h
theorem Digs.tail {c : Int} {l : List Int} (h : Digs (c :: l)) : Digs l := fun x hx => h x (List.mem_cons_of_mem _ hx)
theorem Digs.head {c : Int} {l : List Int} (h : Digs (c :: l)) : 48 ≤ c ∧ c ≤ 57 := dig_range (h c (List.mem_cons_self ..))
theorem Digs.left {a b : List Int} (h : Digs (a ++ b)) : Digs a := fun x hx => h x (List.mem_append_left _ hx)
theorem Digs.right {a b : List Int} (h : Digs (a ++ b)) : Digs b := fun x hx => h x (List.mem_append_right _ hx)
theorem Digs.append {a b : List Int} (h1 : Digs a) (h2 : Digs b) : Digs (a ++ b) := fun x hx => (List.mem_append.1 hx).elim (h1 x) (h2 x)
theorem ten_pos (n : Nat) : (0 : Int) < 10 ^ n := Int.pow_pos (by omega)
theorem ten_mono {a b : Nat} (h : a ≤ b) : (10 : Int) ^ a ≤ 10 ^ b := by
  obtain ⟨k, rfl⟩ := Nat.exists_eq_add_of_le h
  rw [Int.pow_add]
  have h1 := ten_pos a
  have h2 := ten_pos k
  have := Int.mul_le_mul_of_nonneg_left (show (1 : Int) ≤ 10 ^ k by omega) (show (0 : Int) ≤ 10 ^ a by omega)
  omega
theorem nv_append : ∀ (a b : List Int), nv (a ++ b) = nv a * 10 ^ b.length + nv b
  | [], b => by
    show nv b = 0 * _ + nv b
    rw [Int.zero_mul, Int.zero_add]
  | c :: a, b => by
    show (c - 48) * 10 ^ (a ++ b).length + nv (a ++ b) = ((c - 48) * 10 ^ a.length + nv a) * 10 ^ b.length + nv b
    rw [nv_append a b, List.length_append, Int.pow_add, Int.add_mul, Int.mul_assoc, Int.add_assoc]
theorem nv_last (l : List Int) (c : Int) : nv (l ++ [c]) = nv l * 10 + (c - 48) := by
  rw [nv_append]
  show nv l * 10 ^ 1 + ((c - 48) * 10 ^ 0 + 0) = _
  rw [Int.pow_succ, Int.pow_zero]
  omega
theorem nv_zeros : ∀ n, nv (List.replicate n 48) = 0
  | 0 => rfl
  | n + 1 => by
    show (48 - 48) * _ + nv (List.replicate n 48) = 0
    rw [nv_zeros n]
    simp
theorem nv_range : ∀ (l : List Int), Digs l → 0 ≤ nv l ∧ nv l < 10 ^ l.length
  | [], _ => by
    show (0 : Int) ≤ 0 ∧ (0 : Int) < 10 ^ 0
    decide
  | c :: l, h => by
    have h1 := nv_range l h.tail
    have h2 := h.head
    have hp := ten_pos l.length
    show 0 ≤ (c - 48) * 10 ^ l.length + nv l ∧ (c - 48) * 10 ^ l.length + nv l < 10 ^ (l.length + 1)
    rw [Int.pow_succ]
    generalize (10 : Int) ^ l.length = P at *
    have a1 : 0 ≤ (c - 48) * P := Int.mul_nonneg (by omega) (by omega)
    have a2 : (c - 48) * P ≤ 9 * P := Int.mul_le_mul_of_nonneg_right (by omega) (by omega)
    omega
theorem nv_head {c : Int} {l : List Int} (h : Digs (c :: l)) (hc : c ≠ 48) : 10 ^ l.length ≤ nv (c :: l) := by
  have h1 := nv_range l h.tail
  have h2 := h.head
  have hp := ten_pos l.length
  show 10 ^ l.length ≤ (c - 48) * 10 ^ l.length + nv l
  generalize (10 : Int) ^ l.length = P at *
  have a2 : 1 * P ≤ (c - 48) * P := Int.mul_le_mul_of_nonneg_right (by omega) (by omega)
  omega
theorem nv_inj : ∀ (a b : List Int), a.length = b.length → Digs a → Digs b → nv a = nv b → a = b
  | [], [], _, _, _, _ => rfl
  | [], _ :: _, h, _, _, _ => by cases h
  | _ :: _, [], h, _, _, _ => by cases h
  | c :: a, d :: b, hl, ha, hb, h => by
    have hl' : a.length = b.length := by simpa using hl
    have h1 := nv_range a ha.tail
    have h2 := nv_range b hb.tail
    have hp := ten_pos b.length
    have e : (c - 48) * 10 ^ a.length + nv a = (d - 48) * 10 ^ b.length + nv b := h
    rw [hl'] at e h1
    have hcd : c = d := by
      generalize (10 : Int) ^ b.length = P at *
      rcases Int.lt_trichotomy c d with hlt | he | hgt
      · have := Int.mul_le_mul_of_nonneg_right (show c - 48 + 1 ≤ d - 48 by omega) (show 0 ≤ P by omega)
        rw [Int.add_mul] at this
        omega
      · exact he
      · have := Int.mul_le_mul_of_nonneg_right (show d - 48 + 1 ≤ c - 48 by omega) (show 0 ≤ P by omega)
        rw [Int.add_mul] at this
        omega
    subst hcd
    rw [nv_inj a b hl' ha.tail hb.tail (by omega)]
/-- Digits without a 0 at either end. -/
structure Nrm (l : List Int) : Prop where
  dig : Digs l
  fst : ∀ c t, l = c :: t → c ≠ 48
  lst : ∀ t c, l = t ++ [c] → c ≠ 48
theorem Nrm.pos {l : List Int} (h : Nrm l) (h0 : l ≠ []) : 10 ^ (l.length - 1) ≤ nv l := by
  cases l with
  | nil => exact absurd rfl h0
  | cons c t => exact nv_head h.dig (h.fst c t rfl)
theorem Nrm.pos0 {l : List Int} (h : Nrm l) (h0 : l ≠ []) : 0 < nv l := Int.lt_of_lt_of_le (ten_pos _) (h.pos h0)
theorem nrm_one_way {a b : List Int} (ha : Nrm a) (h0 : a ≠ []) {p q : Nat} (hpq : p ≤ q) (h : nv a * 10 ^ p = nv b * 10 ^ q) : p = q := by
  obtain ⟨k, rfl⟩ := Nat.exists_eq_add_of_le hpq
  cases k with
  | zero => rfl
  | succ k =>
    exfalso
    rw [Int.pow_add, Int.mul_comm (10 ^ p), ← Int.mul_assoc] at h
    have e := Int.eq_of_mul_eq_mul_right (by have := ten_pos p; omega) h
    rcases List.eq_nil_or_concat a with rfl | ⟨t, c, rfl⟩
    · exact h0 rfl
    · have hc := ha.lst t c (by simp)
      have hr := dig_range (ha.dig c (by simp))
      rw [List.concat_eq_append, nv_last, Int.pow_succ, ← Int.mul_assoc] at e
      generalize nv b * 10 ^ k = x at e
      omega
theorem nrm_inj {a b : List Int} (ha : Nrm a) (hb : Nrm b) (h0 : a ≠ []) (h1 : b ≠ []) {p q : Nat} (h : nv a * 10 ^ p = nv b * 10 ^ q) : a = b ∧ p = q := by
  have hpq : p = q := by
    rcases Nat.le_total p q with hle | hle
    · exact nrm_one_way ha h0 hle h
    · exact (nrm_one_way hb h1 hle h.symm).symm
  subst hpq
  have e := Int.eq_of_mul_eq_mul_right (by have := ten_pos p; omega) h
  refine ⟨?_, rfl⟩
  have r1 := nv_range a ha.dig
  have r2 := nv_range b hb.dig
  have p1 := ha.pos h0
  have p2 := hb.pos h1
  have l1 : a.length - 1 < b.length := by
    rcases Nat.lt_or_ge (a.length - 1) b.length with hlt | hge
    · exact hlt
    · have := ten_mono hge
      omega
  have l2 : b.length - 1 < a.length := by
    rcases Nat.lt_or_ge (b.length - 1) a.length with hlt | hge
    · exact hlt
    · have := ten_mono hge
      omega
  have n1 : a.length ≠ 0 := fun he => h0 (List.eq_nil_of_length_eq_zero he)
  have n2 : b.length ≠ 0 := fun he => h1 (List.eq_nil_of_length_eq_zero he)
  exact nv_inj a b (by omega) ha.dig hb.dig e
/-- The digits of j powers from lo on, summed up. -/
def dsum (f : Int → Int) (lo : Int) : Nat → Int
  | 0 => 0
  | j + 1 => dsum f lo j + f (lo + j) * 10 ^ j
theorem msum_val (f : Int → Int) (lo : Int) : ∀ j, dsum f lo j = (msum f lo j).1 * 10 ^ j + nv (msum f lo j).2
  | 0 => by
    show (0 : Int) = 0 * _ + 0
    rw [Int.zero_mul, Int.zero_add]
  | j + 1 => by
    show dsum f lo j + f (lo + j) * 10 ^ j = ((f (lo + j) + (msum f lo j).1 + 10) / 10 - 1) * 10 ^ (j + 1) + ((48 + (f (lo + j) + (msum f lo j).1 + 10) % 10 - 48) * 10 ^ (msum f lo j).2.length + nv (msum f lo j).2)
    rw [msum_val f lo j, msum_len, Int.pow_succ]
    generalize (msum f lo j).1 = c
    generalize f (lo + j) = x
    generalize nv (msum f lo j).2 = n
    generalize (10 : Int) ^ j = P
    obtain ⟨q, r, hq, hr, e⟩ : ∃ q r, (x + c + 10) / 10 = q ∧ (x + c + 10) % 10 = r ∧ x + c + 10 = 10 * q + r := ⟨_, _, rfl, rfl, by omega⟩
    rw [hq, hr, show 48 + r - 48 = r by omega]
    have ex : x = 10 * q + r - c - 10 := by omega
    subst ex
    have e1 : (q - 1) * (P * 10) = 10 * (q * P) - 10 * P := by rw [Int.sub_mul, ← Int.mul_assoc, Int.mul_comm (q * P) 10, Int.one_mul, Int.mul_comm P 10]
    have e2 : (10 * q + r - c - 10) * P = 10 * (q * P) + r * P - c * P - 10 * P := by rw [Int.sub_mul, Int.sub_mul, Int.add_mul, Int.mul_assoc]
    rw [e1, e2]
    omega
theorem dsum_add (f g h : Int → Int) (t lo : Int) (e : ∀ p, h p = f p + t * g p) : ∀ j, dsum h lo j = dsum f lo j + t * dsum g lo j
  | 0 => by
    show (0 : Int) = 0 + t * 0
    rw [Int.mul_zero, Int.zero_add]
  | j + 1 => by
    show dsum h lo j + h (lo + j) * 10 ^ j = dsum f lo j + f (lo + j) * 10 ^ j + t * (dsum g lo j + g (lo + j) * 10 ^ j)
    rw [dsum_add f g h t lo e j, e, Int.add_mul, Int.mul_add, Int.mul_assoc]
    omega
theorem dsum_low (l : List Int) (ex lo : Int) : ∀ j : Nat, lo + j ≤ ex → dsum (dat l ex) lo j = 0
  | 0, _ => rfl
  | j + 1, h => by
    show dsum (dat l ex) lo j + dat l ex (lo + j) * 10 ^ j = 0
    rw [dsum_low l ex lo j (by omega), show dat l ex (lo + j) = 0 by unfold dat; rw [if_pos (.inl (by omega))]]
    omega
theorem dsum_mid (l : List Int) (ex lo : Int) (e : Nat) (he : lo + e = ex) : ∀ i : Nat, i ≤ l.length → dsum (dat l ex) lo (e + i) = nv (l.drop (l.length - i)) * 10 ^ e
  | 0, _ => by
    rw [Nat.add_zero, dsum_low l ex lo e (by omega), Nat.sub_zero, List.drop_length]
    show (0 : Int) = 0 * _
    rw [Int.zero_mul]
  | i + 1, h => by
    show dsum (dat l ex) lo (e + i) + dat l ex (lo + ((e + i : Nat) : Int)) * 10 ^ (e + i) = _
    rw [dsum_mid l ex lo e he i (by omega)]
    have hk : l.length - (i + 1) < l.length := by omega
    have e1 : dat l ex (lo + ((e + i : Nat) : Int)) = l.getD (l.length - (i + 1)) 0 - 48 := by
      unfold dat
      rw [if_neg (by omega), show ((l.length : Int) + ex - 1 - (lo + ((e + i : Nat) : Int))).toNat = l.length - (i + 1) by omega]
    have e2 : l.drop (l.length - (i + 1)) = l.getD (l.length - (i + 1)) 0 :: l.drop (l.length - i) := by
      rw [List.drop_eq_getElem_cons hk, show l.length - (i + 1) + 1 = l.length - i by omega, List.getD_eq_getElem?_getD, List.getElem?_eq_getElem hk]
      rfl
    rw [e1, e2]
    show _ = ((l.getD (l.length - (i + 1)) 0 - 48) * 10 ^ (l.drop (l.length - i)).length + nv (l.drop (l.length - i))) * 10 ^ e
    rw [List.length_drop, show l.length - (l.length - i) = i by omega, Int.add_mul, Int.mul_assoc, ← Int.pow_add, Nat.add_comm i e, Int.add_comm]
theorem dsum_all (l : List Int) (ex lo : Int) (e : Nat) (he : lo + e = ex) : ∀ i : Nat, dsum (dat l ex) lo (e + l.length + i) = nv l * 10 ^ e
  | 0 => by
    have := dsum_mid l ex lo e he l.length (Nat.le_refl _)
    rw [Nat.sub_self, List.drop_zero] at this
    exact this
  | i + 1 => by
    show dsum (dat l ex) lo (e + l.length + i) + dat l ex (lo + ((e + l.length + i : Nat) : Int)) * 10 ^ (e + l.length + i) = _
    rw [dsum_all l ex lo e he i, show dat l ex (lo + ((e + l.length + i : Nat) : Int)) = 0 by unfold dat; rw [if_pos (.inr (by omega))]]
    omega
theorem dsum_dat (l : List Int) (ex lo : Int) (j : Nat) (h1 : lo ≤ ex) (h2 : (l.length : Int) + ex ≤ lo + j) : dsum (dat l ex) lo j = nv l * 10 ^ (ex - lo).toNat := by
  have := dsum_all l ex lo (ex - lo).toNat (by omega) (j - ((ex - lo).toNat + l.length))
  rw [show (ex - lo).toNat + l.length + (j - ((ex - lo).toNat + l.length)) = j by omega] at this
  exact this
/-- Digits without the 0s ahead of them, without those behind them. -/
def lz (l : List Int) : List Int := l.dropWhile (· = 48)
def tz (l : List Int) : List Int := (l.reverse.dropWhile (· = 48)).reverse
theorem nv_lz : ∀ l, nv (lz l) = nv l
  | [] => rfl
  | c :: l => by
    unfold lz
    rw [List.dropWhile_cons]
    split
    · rename_i h
      have hc : c = 48 := by simpa using h
      subst hc
      show nv (lz l) = (48 - 48) * _ + nv l
      rw [nv_lz l]
      simp
    · rfl
theorem while_is : ∀ (l : List Int), ∀ x ∈ l.takeWhile (· = 48), x = 48
  | [], x, h => by cases h
  | c :: l, x, h => by
    rw [List.takeWhile_cons] at h
    split at h
    · rename_i hc
      rcases List.mem_cons.1 h with rfl | h
      · simpa using hc
      · exact while_is l x h
    · cases h
theorem tz_eq (l : List Int) : ∃ k, l = tz l ++ List.replicate k 48 := by
  have h := List.takeWhile_append_dropWhile (p := fun x : Int => decide (x = 48)) (l := l.reverse)
  have h3 := congrArg List.reverse h
  rw [List.reverse_append, List.reverse_reverse] at h3
  refine ⟨(l.reverse.takeWhile (fun x : Int => decide (x = 48))).reverse.length, ?_⟩
  rw [← List.eq_replicate_of_mem (fun x hx => while_is _ x (List.mem_reverse.1 hx))]
  exact h3.symm
theorem lz_head : ∀ (l : List Int) c t, lz l = c :: t → c ≠ 48
  | [], c, t, h => by cases h
  | d :: l, c, t, h => by
    unfold lz at h
    rw [List.dropWhile_cons] at h
    split at h
    · exact lz_head l c t h
    · rename_i hd
      injection h with h1 h2
      subst h1
      simpa using hd
theorem lz_mem {l : List Int} {x : Int} (h : x ∈ lz l) : x ∈ l := (List.dropWhile_sublist _).mem h
theorem tz_mem {l : List Int} {x : Int} (h : x ∈ tz l) : x ∈ l := List.mem_reverse.1 ((List.dropWhile_sublist _).mem (List.mem_reverse.1 h))
theorem nrm_strip {l : List Int} (h : Digs l) : Nrm (tz (lz l)) := by
  refine ⟨fun x hx => h x (lz_mem (tz_mem hx)), fun c t e => ?_, fun t c e => ?_⟩
  · obtain ⟨k, hk⟩ := tz_eq (lz l)
    rw [e] at hk
    exact lz_head l c _ hk
  · have e2 := congrArg List.reverse e
    unfold tz at e2
    rw [List.reverse_reverse, List.reverse_append] at e2
    exact lz_head _ c _ e2
theorem nv_strip (l : List Int) : nv l = nv (tz (lz l)) * 10 ^ ((lz l).length - (tz (lz l)).length) := by
  obtain ⟨k, hk⟩ := tz_eq (lz l)
  have e := congrArg nv hk
  rw [nv_append, nv_zeros, nv_lz, List.length_replicate] at e
  have hl := congrArg List.length hk
  rw [List.length_append, List.length_replicate] at hl
  rw [show (lz l).length - (tz (lz l)).length = k by omega]
  omega
theorem tz_length (l : List Int) : (tz l).length ≤ l.length := by
  obtain ⟨k, hk⟩ := tz_eq l
  have hl := congrArg List.length hk
  rw [List.length_append] at hl
  omega
theorem fln_list (s : ByteArray) : unstr (fln s) = lz (unstr s) := by
  unfold fln unstr lz Lib.trimLeftB
  rw [List.dropWhile_map]
  show List.map _ (List.toArray _).toList = _
  rw [List.toList_toArray]
  refine congrArg _ (congrArg (fun p => List.dropWhile p _) (funext fun x => ?_))
  show (x == 48) = decide ((x.toNat : Int) = 48)
  rw [Bool.eq_iff_iff, decide_eq_true_eq, beq_iff_eq]
  constructor
  · rintro rfl
    rfl
  · intro h
    exact UInt8.toNat_inj.1 (by show x.toNat = 48; omega)
theorem fsh_list (s : ByteArray) : unstr (fsh s) = tz (lz (unstr s)) := by
  rw [← fln_list]
  unfold fsh tz Lib.trimRightB
  unfold unstr
  rw [← List.map_reverse, List.dropWhile_map]
  show List.map _ (List.toArray _).toList = _
  rw [List.toList_toArray, List.map_reverse]
  refine congrArg _ (congrArg _ (congrArg (fun p => List.dropWhile p _) (funext fun x => ?_)))
  show (x == 48) = decide ((x.toNat : Int) = 48)
  rw [Bool.eq_iff_iff, decide_eq_true_eq, beq_iff_eq]
  constructor
  · rintro rfl
    rfl
  · intro h
    exact UInt8.toNat_inj.1 (by show x.toNat = 48; omega)
end Go.Proofs.YtpnhgggdjlglnaaDoor.dk
