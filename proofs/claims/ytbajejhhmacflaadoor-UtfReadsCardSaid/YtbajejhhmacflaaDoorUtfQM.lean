/- What a quoted text begins with. -/
import Derived.Test.YtbajejhhmacflaaDoorUtfQB
import Derived.Test.YtbajejhhmacflaaDoorUtfQC
namespace Go.Proofs.YtbajejhhmacflaaDoor.utf
open Go.PlainAid Go.ChangeShapes Go.WideShapes Go.ChangeAt Go.RowKit

theorem ch_is_rune' {n b0 b1 b2 b3 r m : Int} (h0 : 0 ≤ b0) (h : Ch n b0 b1 b2 b3 r m) : IsRune r := by unfold Ch at h; unfold IsRune; omega
theorem qs_append (a b : List Int) : qs (a ++ b) = qs a ++ qs b := by simp [qs]
theorem qs_plain : ∀ {l : List Int}, (∀ x ∈ l, 32 ≤ x ∧ x ≠ 34 ∧ x ≠ 92) → qs l = l
  | [], _ => rfl
  | x :: l, h => by
    have hx := h x (by simp)
    have e : qb x = [x] := by unfold qb; rw [if_neg (by omega), if_pos hx.1]
    show qb x ++ qs l = x :: l
    rw [e, qs_plain fun y hy => h y (by simp [hy])]
    rfl
theorem enc_small {r : Int} (h : r < 128) : enc r = [r] := by unfold enc; rw [if_pos h]
theorem enc_plain {r : Int} (hr : IsRune r) (h0 : 32 ≤ r) (h1 : r ≠ 34) (h2 : r ≠ 92) : ∀ x ∈ enc r, 32 ≤ x ∧ x ≠ 34 ∧ x ≠ 92 := by
  intro x hx
  unfold IsRune at hr
  by_cases h128 : r < 128
  · rw [enc_small h128] at hx; simp at hx; omega
  unfold enc at hx
  rw [if_neg h128] at hx
  split at hx
  · simp at hx; omega
  split at hx
  · simp at hx; omega
  split at hx
  · simp at hx; omega
  · omega

theorem esc_head {r : Int} (x : Int) (more : List Int) (hx : (x = 34 ∧ r = 34) ∨ (x = 47 ∧ r = 47) ∨ (x = 92 ∧ r = 92) ∨ (x = 98 ∧ r = 8) ∨ (x = 102 ∧ r = 12) ∨ (x = 110 ∧ r = 10) ∨ (x = 114 ∧ r = 13) ∨ (x = 116 ∧ r = 9)) : esc ([x] ++ more) = (r, 1) :=
  esc_lit (by simp) (by rw [show gl ([x] ++ more) 0 = x from rfl]; exact hx)
theorem letter_esc (r : Int) (h : letter r ≠ 0) (more : List Int) : esc ([letter r] ++ more) = (r, 1) := by
  rcases letter_is r with k | ⟨a, k⟩ | ⟨a, k⟩ | ⟨a, k⟩ | ⟨a, k⟩ | ⟨a, k⟩
  · exact absurd k h
  all_goals
    rw [k]
    exact esc_head _ more (by subst a; simp)
theorem esc_ub {r : Int} (h0 : 0 ≤ r) (h1 : r < 32) (more : List Int) : esc (ub false r ++ more) = (r, 5) := by
  have hd := dig_ub false r h0 (by omega) more
  have h : gl (ub false r ++ more) 0 = 117 := rfl
  rw [esc_other (by unfold ub; simp) (by rw [h]; omega)]
  unfold escn
  rw [hd, if_neg (by simp; omega), if_pos (by simp; omega)]

/-- One step through a quoted text. -/
theorem quote_step {l : List Int} (hO : Oct l) {r : Int} {m : Nat} (h : nxl l = (r, (m : Int))) (hm : m ≠ 0) :
    IsRune r ∧ l.take m = enc r ∧ 1 ≤ m ∧ m ≤ l.length ∧
    ((32 ≤ r ∧ r ≠ 34 ∧ r ≠ 92 ∧ nxl (qs l) = (r, (m : Int)) ∧ m ≤ (qs l).length ∧ (qs l).drop m = qs (l.drop m)) ∨
     (m = 1 ∧ ∃ t : List Int, 1 ≤ t.length ∧ t.length ≤ 5 ∧ qs l = [92] ++ (t ++ qs (l.drop 1)) ∧ nxl (qs l) = (92, 1) ∧ esc (t ++ qs (l.drop 1)) = (r, (t.length : Int)))) := by
  have hch : Ch l.length (gl l 0) (gl l 1) (gl l 2) (gl l 3) r m := by
    rcases nxl_is hO with k | ⟨k, _⟩
    · rw [h] at k; exact k
    · rw [h] at k; injection k with _ k; omega
  have hr : IsRune r := ch_is_rune' (hO.gl 0).1 hch
  have ht : l.take m = enc r := by simpa using take_enc hO hch
  have hml := ch_len hch
  have e : qs l = qs (enc r) ++ qs (l.drop m) := by
    conv => lhs; rw [← List.take_append_drop m l, ht]
    exact qs_append _ _
  have hlen : (enc r).length = m := by rw [← ht, List.length_take]; omega
  refine ⟨hr, ht, by omega, by omega, ?_⟩
  by_cases hp : 32 ≤ r ∧ r ≠ 34 ∧ r ≠ 92
  · refine .inl ⟨hp.1, hp.2.1, hp.2.2, ?_⟩
    rw [e, qs_plain (enc_plain hr hp.1 hp.2.1 hp.2.2)]
    refine ⟨by rw [nxl_enc hr, hlen], by rw [List.length_append]; omega, ?_⟩
    rw [← hlen, List.drop_left]
  · have hs : r < 128 := by omega
    have h0 := hr.1
    rw [enc_small hs] at hlen e
    have hm1 : m = 1 := by simpa using hlen.symm
    subst hm1
    refine .inr ⟨rfl, ?_⟩
    have e' : qs l = qb r ++ qs (l.drop 1) := by rw [e]; simp [qs]
    have n92 : ∀ x : List Int, nxl ([92] ++ x) = (92, 1) := fun x => nxl_enc (r := 92) (by unfold IsRune; omega) x
    have hl := letter_is r
    by_cases hA : r = 34 ∨ r = 92
    · refine ⟨[r], by simp, by simp, ?_, ?_, ?_⟩
      · rw [e', show qb r = [92, r] from if_pos hA]; rfl
      · rw [e', show qb r = [92, r] from if_pos hA]; exact n92 _
      · exact esc_head (r := r) r (qs (l.drop 1)) (by omega)
    by_cases hC : letter r = 0
    · have hq : qb r = [92] ++ ub false r := by
        unfold qb
        rw [if_neg hA, if_neg (by omega), if_neg (by simp [hC])]
        unfold ub
        rw [show r / 4096 % 16 = 0 by omega, show r / 256 % 16 = 0 by omega, show r / 16 % 16 = r / 16 by omega]
        have : hx false (r / 16) = 48 + r / 16 := by unfold hx; rw [if_pos (by omega)]
        rw [this]
        rfl
      refine ⟨ub false r, by unfold ub; simp, by unfold ub; simp, ?_, ?_, ?_⟩
      · rw [e', hq, List.append_assoc]
      · rw [e', hq, List.append_assoc]; exact n92 _
      · exact esc_ub h0 (by omega) _
    · have hq : qb r = [92] ++ [letter r] := by
        unfold qb
        rw [if_neg hA, if_neg (by omega), if_pos hC]; rfl
      refine ⟨[letter r], by simp, by simp, ?_, ?_, ?_⟩
      · rw [e', hq, List.append_assoc]
      · rw [e', hq, List.append_assoc]; exact n92 _
      · exact letter_esc r hC _
theorem qs_nil_iff {l : List Int} (h : qs l = []) : l = [] := by
  cases l with
  | nil => rfl
  | cons x l =>
    exfalso
    have h' : qb x ++ qs l = [] := h
    have h2 := congrArg List.length h'
    have := qb_len x
    rw [List.length_append, List.length_nil] at h2
    omega
theorem strOf_ints (s : ByteArray) : strOf (ints s) = s := by
  have h := strOf_data (ints s)
  apply ByteArray.ext
  apply Array.ext'
  rw [h]
  unfold ints
  rw [List.map_map]
  conv => rhs; rw [← List.map_id s.data.toList]
  apply List.map_congr_left
  intro x _
  apply UInt8.toNat_inj.1
  have := x.toNat_lt
  show ((x.toNat : Int).toNat % 256) = x.toNat
  omega
end Go.Proofs.YtbajejhhmacflaaDoor.utf
