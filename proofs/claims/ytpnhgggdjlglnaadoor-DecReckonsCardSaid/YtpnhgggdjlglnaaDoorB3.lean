/- Two numbers' order: of their texts, of their values. -/
import Derived.Test.YtpnhgggdjlglnaaDoorB1
namespace Go.Proofs.YtpnhgggdjlglnaaDoor.dk

/-- Bytes as digits. -/
def ud (x : List UInt8) : List Int := x.map fun b => (b.toNat : Int)
theorem nv_last_pos {l : List Int} (hd : Digs l) (h0 : l ≠ []) (hl : ∀ t c, l = t ++ [c] → c ≠ 48) : 0 < nv l := by
  rcases List.eq_nil_or_concat l with rfl | ⟨t, c, rfl⟩
  · exact absurd rfl h0
  · rw [List.concat_eq_append] at *
    have hc := hl t c rfl
    have hr := dig_range (hd c (by simp))
    have := nv_range t hd.left
    rw [nv_last]
    omega
theorem lst_tail {c : Int} {l : List Int} (hl : ∀ t d, c :: l = t ++ [d] → d ≠ 48) : ∀ t d, l = t ++ [d] → d ≠ 48 := fun t d e => hl (c :: t) d (by rw [e]; rfl)
/-- As fractions, digits are in the order of their texts. -/
theorem frac_order : ∀ (x y : List UInt8), Digs (ud x) → Digs (ud y) → (∀ t c, ud x = t ++ [c] → c ≠ 48) → (∀ t c, ud y = t ++ [c] → c ≠ 48) →
    (Lib.compareBytes x y = -1 ∧ nv (ud x) * 10 ^ y.length < nv (ud y) * 10 ^ x.length) ∨ (Lib.compareBytes x y = 0 ∧ x = y) ∨ (Lib.compareBytes x y = 1 ∧ nv (ud y) * 10 ^ x.length < nv (ud x) * 10 ^ y.length)
  | [], [], _, _, _, _ => .inr (.inl ⟨rfl, rfl⟩)
  | [], b :: y, _, hy, _, ly => .inl ⟨rfl, by
      have := nv_last_pos hy (by intro e; cases e) ly
      show 0 * _ < nv (ud (b :: y)) * 10 ^ 0
      rw [Int.zero_mul, Int.pow_zero]
      omega⟩
  | a :: x, [], hx, _, lx, _ => .inr (.inr ⟨rfl, by
      have := nv_last_pos hx (by intro e; cases e) lx
      show 0 * _ < nv (ud (a :: x)) * 10 ^ 0
      rw [Int.zero_mul, Int.pow_zero]
      omega⟩)
  | a :: x, b :: y, hx, hy, lx, ly => by
    have ih := frac_order x y hx.tail hy.tail (lst_tail lx) (lst_tail ly)
    have rx := nv_range (ud x) hx.tail
    have ry := nv_range (ud y) hy.tail
    have da := hx.head
    have db := hy.head
    have lenx : (ud x).length = x.length := List.length_map _
    have leny : (ud y).length = y.length := List.length_map _
    rw [lenx] at rx
    rw [leny] at ry
    have ex : nv (ud (a :: x)) = ((a.toNat : Int) - 48) * 10 ^ x.length + nv (ud x) := by
      show ((a.toNat : Int) - 48) * 10 ^ (ud x).length + nv (ud x) = _
      rw [lenx]
    have ey : nv (ud (b :: y)) = ((b.toNat : Int) - 48) * 10 ^ y.length + nv (ud y) := by
      show ((b.toNat : Int) - 48) * 10 ^ (ud y).length + nv (ud y) = _
      rw [leny]
    rw [ex, ey, List.length_cons, List.length_cons, Int.pow_succ, Int.pow_succ]
    have px := ten_pos x.length
    have py := ten_pos y.length
    generalize (10 : Int) ^ x.length = P at *
    generalize (10 : Int) ^ y.length = Q at *
    generalize nv (ud x) = u at *
    generalize nv (ud y) = v at *
    have pq : 0 < P * Q := Int.mul_pos px py
    have key : ∀ (c d : Int) (P Q u v : Int), 0 < P → 0 < Q → 0 < P * Q → u < P → 0 ≤ v → c + 1 ≤ d → (c * P + u) * (Q * 10) < (d * Q + v) * (P * 10) := fun c d P Q u v hP hQ hPQ hu hv hcd => by
      have h1 : (c * P + u) * Q < (c + 1) * (P * Q) := by
        have := Int.mul_lt_mul_of_pos_right (show c * P + u < c * P + P by omega) hQ
        rw [show c * P + P = (c + 1) * P by rw [Int.add_mul, Int.one_mul], Int.mul_assoc (c + 1)] at this
        exact this
      have h2 : (c + 1) * (P * Q) ≤ d * (P * Q) := Int.mul_le_mul_of_nonneg_right hcd (by omega)
      have h3 : d * (P * Q) ≤ (d * Q + v) * P := by
        rw [Int.add_mul, Int.mul_assoc d, Int.mul_comm Q P]
        have := Int.mul_nonneg hv (show 0 ≤ P by omega)
        omega
      rw [← Int.mul_assoc, ← Int.mul_assoc]
      omega
    unfold Lib.compareBytes
    by_cases h1 : a < b
    · rw [if_pos h1]
      exact .inl ⟨rfl, key _ _ P Q u v px py pq rx.2 ry.1 (by have := UInt8.lt_iff_toNat_lt.1 h1; omega)⟩
    · rw [if_neg h1]
      by_cases h2 : b < a
      · rw [if_pos h2]
        exact .inr (.inr ⟨rfl, key _ _ Q P v u py px (Int.mul_pos py px) ry.2 rx.1 (by have := UInt8.lt_iff_toNat_lt.1 h2; omega)⟩)
      · rw [if_neg h2]
        have hab : a = b := UInt8.toNat_inj.1 (by
          have h3 : ¬ a.toNat < b.toNat := fun h => h1 (UInt8.lt_iff_toNat_lt.2 h)
          have h4 : ¬ b.toNat < a.toNat := fun h => h2 (UInt8.lt_iff_toNat_lt.2 h)
          omega)
        subst hab
        generalize (a.toNat : Int) - 48 = c
        have e1 : (c * P + u) * (Q * 10) = 10 * (c * (P * Q)) + 10 * (u * Q) := by
          rw [← Int.mul_assoc, Int.add_mul, Int.mul_assoc c, Int.add_mul]
          omega
        have e2 : (c * Q + v) * (P * 10) = 10 * (c * (P * Q)) + 10 * (v * P) := by
          rw [← Int.mul_assoc, Int.add_mul, Int.mul_assoc c, Int.mul_comm Q P, Int.add_mul]
          omega
        rw [e1, e2]
        rcases ih with ⟨i1, i2⟩ | ⟨i1, i2⟩ | ⟨i1, i2⟩
        · exact .inl ⟨i1, by omega⟩
        · exact .inr (.inl ⟨i1, by rw [i2]⟩)
        · exact .inr (.inr ⟨i1, by omega⟩)
/-- Numbers without their signs are in the order that larger tells. -/
theorem lgr_order {a b : Nm} (ha : Nrm a.l) (hb : Nrm b.l) (h0 : a.l ≠ []) (h1 : b.l ≠ []) (la : low ≤ a.ex) (lb : low ≤ b.ex) :
    (lgr a.dg b.dg a.ex b.ex = -1 ∧ a.mag < b.mag) ∨ (lgr a.dg b.dg a.ex b.ex = 0 ∧ a.mag = b.mag) ∨ (lgr a.dg b.dg a.ex b.ex = 1 ∧ b.mag < a.mag) := by
  have la1 : a.l.length = a.dg.size := unstr_length _
  have lb1 : b.l.length = b.dg.size := unstr_length _
  have na : a.l.length ≠ 0 := fun e => h0 (List.eq_nil_of_length_eq_zero e)
  have nb : b.l.length ≠ 0 := fun e => h1 (List.eq_nil_of_length_eq_zero e)
  have key : ∀ {a b : Nm}, Nrm a.l → Nrm b.l → a.l ≠ [] → b.l ≠ [] → low ≤ a.ex → low ≤ b.ex → a.l.length ≠ 0 → b.l.length ≠ 0 → (a.l.length : Int) + a.ex < (b.l.length : Int) + b.ex → a.mag < b.mag := fun {a b} ha hb h0 h1 la lb na nb hh => by
    have r1 := (nv_range a.l ha.dig).2
    have r2 := hb.pos h1
    unfold Nm.mag
    have s1 := Int.mul_lt_mul_of_pos_right r1 (ten_pos (a.ex - low).toNat)
    have s2 := Int.mul_le_mul_of_nonneg_right r2 (show 0 ≤ (10 : Int) ^ (b.ex - low).toNat by have := ten_pos (b.ex - low).toNat; omega)
    rw [← Int.pow_add] at s1 s2
    have s3 := ten_mono (show a.l.length + (a.ex - low).toNat ≤ b.l.length - 1 + (b.ex - low).toNat by omega)
    omega
  unfold lgr
  by_cases hlt : (a.dg.size : Int) + a.ex < (b.dg.size : Int) + b.ex
  · rw [show cmpI _ _ = -1 from if_pos hlt, if_neg (by decide)]
    exact .inl ⟨rfl, key ha hb h0 h1 la lb na nb (by omega)⟩
  · by_cases hgt : (b.dg.size : Int) + b.ex < (a.dg.size : Int) + a.ex
    · rw [show cmpI _ _ = 1 by unfold cmpI; rw [if_neg hlt, if_pos hgt], if_neg (by decide)]
      exact .inr (.inr ⟨rfl, key hb ha h1 h0 lb la nb na (by omega)⟩)
    · rw [show cmpI _ _ = 0 by unfold cmpI; rw [if_neg hlt, if_neg hgt], if_pos rfl]
      have hf := frac_order a.dg.data.toList b.dg.data.toList ha.dig hb.dig ha.lst hb.lst
      have sa : a.dg.data.toList.length = a.dg.size := Array.length_toList
      have sb : b.dg.data.toList.length = b.dg.size := Array.length_toList
      rw [sa, sb] at hf
      obtain ⟨H, hH⟩ : ∃ H : Nat, H = (a.ex - low).toNat + a.dg.size := ⟨_, rfl⟩
      have ma : a.mag * 10 ^ a.dg.size = nv a.l * 10 ^ H := by
        unfold Nm.mag
        rw [Int.mul_assoc, ← Int.pow_add, hH]
      have mb : b.mag * 10 ^ b.dg.size = nv b.l * 10 ^ H := by
        unfold Nm.mag
        rw [Int.mul_assoc, ← Int.pow_add, hH]
        congr 2
        omega
      have lift : ∀ {m n x y P Q R : Int}, 0 < P → 0 < Q → 0 < R → m * P = x * R → n * Q = y * R → x * Q < y * P → m < n := fun {m n x y P Q R} hP hQ hR h1 h2 h3 => by
        have h4 := Int.mul_lt_mul_of_pos_right h3 hR
        have h5 : x * Q * R = m * (P * Q) := by rw [Int.mul_assoc, Int.mul_comm Q R, ← Int.mul_assoc, ← h1, Int.mul_assoc]
        have h6 : y * P * R = n * (P * Q) := by rw [Int.mul_assoc, Int.mul_comm P R, ← Int.mul_assoc, ← h2, Int.mul_assoc, Int.mul_comm Q P]
        rw [h5, h6] at h4
        exact Int.lt_of_mul_lt_mul_right h4 (Int.le_of_lt (Int.mul_pos hP hQ))
      rcases hf with ⟨i1, i2⟩ | ⟨i1, i2⟩ | ⟨i1, i2⟩
      · exact .inl ⟨i1, lift (ten_pos _) (ten_pos _) (ten_pos H) ma mb i2⟩
      · refine .inr (.inl ⟨i1, ?_⟩)
        have e : a.l = b.l := by
          show List.map _ _ = List.map _ _
          rw [i2]
        unfold Nm.mag
        have el := congrArg List.length e
        rw [e]
        congr 2
        omega
      · exact .inr (.inr ⟨i1, lift (ten_pos _) (ten_pos _) (ten_pos H) mb ma i2⟩)
end Go.Proofs.YtpnhgggdjlglnaaDoor.dk
