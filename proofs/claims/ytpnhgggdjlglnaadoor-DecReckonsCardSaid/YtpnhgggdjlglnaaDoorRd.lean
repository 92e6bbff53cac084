/- The document's Add and Compare answer as the program's. -/
import Derived.Test.YtpnhgggdjlglnaaDoorR5
namespace Go.Proofs.YtpnhgggdjlglnaaDoor.dk
open Go.PlainAid Go.ChangeShapes Go.WideShapes Go.ChangeAt Go.RowKit

theorem less_val : ∀ x y : List UInt8, x.length = y.length → Digs (ud x) → Digs (ud y) → (Op.bytesLess x y = true ∧ nv (ud x) < nv (ud y)) ∨ (Op.bytesLess x y = false ∧ nv (ud y) ≤ nv (ud x))
  | [], [], _, _, _ => .inr ⟨rfl, by decide⟩
  | [], _ :: _, h, _, _ => absurd h (by simp)
  | _ :: _, [], h, _, _ => absurd h (by simp)
  | a :: x, b :: y, hl, hx, hy => by
    have hl' : x.length = y.length := by simpa using hl
    have ih := less_val x y hl' hx.tail hy.tail
    have h1 := nv_range (ud x) hx.tail
    have h2 := nv_range (ud y) hy.tail
    have lx : (ud x).length = x.length := List.length_map _
    have ly : (ud y).length = y.length := List.length_map _
    have ex : nv (ud (a :: x)) = ((a.toNat : Int) - 48) * 10 ^ y.length + nv (ud x) := by
      show ((a.toNat : Int) - 48) * 10 ^ (ud x).length + nv (ud x) = _
      rw [lx, hl']
    have ey : nv (ud (b :: y)) = ((b.toNat : Int) - 48) * 10 ^ y.length + nv (ud y) := by
      show ((b.toNat : Int) - 48) * 10 ^ (ud y).length + nv (ud y) = _
      rw [ly]
    rw [ex, ey]
    rw [lx, hl'] at h1
    rw [ly] at h2
    have hp := ten_pos y.length
    generalize (10 : Int) ^ y.length = P at *
    unfold Op.bytesLess
    by_cases hab : a < b
    · have hn : a.toNat < b.toNat := UInt8.lt_iff_toNat_lt.1 hab
      have := Int.mul_le_mul_of_nonneg_right (show (a.toNat : Int) - 48 + 1 ≤ (b.toNat : Int) - 48 by omega) (show 0 ≤ P by omega)
      rw [Int.add_mul] at this
      exact .inl ⟨by simp [hab], by omega⟩
    · by_cases hba : b < a
      · have hn : b.toNat < a.toNat := UInt8.lt_iff_toNat_lt.1 hba
        have := Int.mul_le_mul_of_nonneg_right (show (b.toNat : Int) - 48 + 1 ≤ (a.toNat : Int) - 48 by omega) (show 0 ≤ P by omega)
        rw [Int.add_mul] at this
        have hne : ¬ a = b := fun e => by rw [e] at hn; omega
        exact .inr ⟨by simp [hab, hne], by omega⟩
      · have e : a = b := UInt8.toNat_inj.1 (by
          have h3 : ¬ a.toNat < b.toNat := fun h => hab (UInt8.lt_iff_toNat_lt.2 h)
          have h4 : ¬ b.toNat < a.toNat := fun h => hba (UInt8.lt_iff_toNat_lt.2 h)
          omega)
        subst e
        rcases ih with ⟨i1, i2⟩ | ⟨i1, i2⟩
        · exact .inl ⟨by simp [i1], by omega⟩
        · exact .inr ⟨by simp [i1], by omega⟩
theorem less_texts {a b : ByteArray} (hn : b.size = a.size) (ha : Digs (unstr a)) (hb : Digs (unstr b)) : (Op.bytesLess a.toList b.toList = true ∧ nv (unstr a) < nv (unstr b)) ∨ (Op.bytesLess a.toList b.toList = false ∧ nv (unstr b) ≤ nv (unstr a)) := by
  have h := less_val a.data.toList b.data.toList (by rw [Array.length_toList, Array.length_toList]; exact hn.symm) ha hb
  rw [ByteArray.toList_eq, ByteArray.toList_eq]
  exact h
theorem AddR_pair (w : World) (n1 : Bool) (d1 : ByteArray) (e1 : Int) (n2 : Bool) (d2 : ByteArray) (e2 : Int) (s1 : d1.size ≤ 1000000) (s2 : d2.size ≤ 1000000) :
    Calls Tryd.prog 12 #[.agg #[.bool n1, .string d1, .int .i64 e1], .agg #[.bool n2, .string d2, .int .i64 e2]] w fun e w' => e = .returned (pairV (addP ⟨n1, d1, e1⟩ ⟨n2, d2, e2⟩)) ∧ Below w.heap.size w w' := by
  unfold addP
  by_cases h1 : dsane n1 (unstr d1) e1 = true
  · by_cases h2 : dsane n2 (unstr d2) e2 = true
    · have oa : (⟨n1, d1, e1⟩ : Nm).ok = true := h1
      have ob : (⟨n2, d2, e2⟩ : Nm).ok = true := h2
      rw [if_pos ⟨oa, ob⟩]
      by_cases z1 : d1.size = 0
      · rw [show sumN ⟨n1, d1, e1⟩ ⟨n2, d2, e2⟩ = ⟨n2, d2, e2⟩ from if_pos z1, told_ok ob]
        exact addr_zero1 w n1 n2 d1 d2 e1 e2 s1 s2 h1 h2 z1
      by_cases z2 : d2.size = 0
      · rw [show sumN ⟨n1, d1, e1⟩ ⟨n2, d2, e2⟩ = ⟨n1, d1, e1⟩ by unfold sumN; rw [if_neg z1]; exact if_pos z2, told_ok oa]
        exact addr_zero2 w n1 n2 d1 d2 e1 e2 s1 s2 h1 h2 z1 z2
      by_cases hn : n1 = n2
      · exact addr_same w n1 n2 d1 d2 e1 e2 s1 s2 h1 h2 z1 z2 hn
      · have hl := less_texts (a := eqlW ⟨n1, d1, e1⟩ ⟨n2, d2, e2⟩) (b := eqlW ⟨n2, d2, e2⟩ ⟨n1, d1, e1⟩) (by rw [eqlW_size, eqlW_size, eqlN_comm]) (eqlW_digs (Nm.ok_norm oa).n.dig) (eqlW_digs (Nm.ok_norm ob).n.dig)
        rcases hl with ⟨k1, k2⟩ | ⟨k1, k2⟩
        · rw [← sum_comm oa ob]
          exact addr_less w n1 n2 d1 d2 e1 e2 s1 s2 h1 h2 z1 z2 hn (by omega) k1
        · exact addr_more w n1 n2 d1 d2 e1 e2 s1 s2 h1 h2 z1 z2 hn k2 k1
    · rw [if_neg fun h => h2 h.2]
      exact addr_bad2 w n1 n2 d1 d2 e1 e2 s1 s2 h1 (by simpa using h2)
  · rw [if_neg fun h => h1 h.1]
    exact addr_bad1 w n1 n2 d1 d2 e1 e2 s1 s2 (by simpa using h1)
/-- The sign at a place, 0 behind the end. -/
def padAt (l : List Int) (k : Nat) : Int := if k < l.length then l.getD k 0 else 48
def padL (l : List Int) (n : Nat) : List Int := l ++ List.replicate (n - l.length) 48
theorem padL_at (l : List Int) (n k : Nat) (hn : l.length ≤ n) (hk : k < n) : (padL l n).getD k 0 = padAt l k := by
  unfold padL padAt
  rw [List.getD_eq_getElem?_getD]
  by_cases h : k < l.length
  · rw [if_pos h, List.getElem?_append_left h, ← List.getD_eq_getElem?_getD]
  · rw [if_neg h, List.getElem?_append_right (by omega), List.getElem?_replicate, if_pos (by omega)]
    rfl
theorem padL_len (l : List Int) (n : Nat) (hn : l.length ≤ n) : (padL l n).length = n := by
  unfold padL
  rw [List.length_append, List.length_replicate]
  omega
theorem padL_digs {l : List Int} {n : Nat} (h : Digs l) : Digs (padL l n) := h.append (zeros_digs _)
theorem padL_nv (l : List Int) (n : Nat) : nv (padL l n) = nv l * 10 ^ (n - l.length) := by
  unfold padL
  rw [nv_append, nv_zeros, List.length_replicate, Int.add_zero]
/-- Two numbers as high, sign by sign. -/
theorem pads_order {a b : Nm} (ha : a.ok = true) (hb : b.ok = true) (hh : (a.dg.size : Int) + a.ex = (b.dg.size : Int) + b.ex) (i : Nat) (he : ∀ k, k < i → padAt a.l k = padAt b.l k) :
    (i < max a.dg.size b.dg.size → padAt a.l i < padAt b.l i → cmpI a.mag b.mag = -1) ∧ (i < max a.dg.size b.dg.size → padAt b.l i < padAt a.l i → cmpI a.mag b.mag = 1) ∧ (max a.dg.size b.dg.size ≤ i → cmpI a.mag b.mag = 0) := by
  have la := Nm.ok_low ha
  have lb := Nm.ok_low hb
  obtain ⟨N, hN⟩ : ∃ N, N = max a.dg.size b.dg.size := ⟨_, rfl⟩
  have lenA : a.l.length = a.dg.size := unstr_length _
  have lenB : b.l.length = b.dg.size := unstr_length _
  obtain ⟨P, hP⟩ : ∃ P, P = (10 : Int) ^ ((a.dg.size : Int) + a.ex - (N : Int) - low).toNat := ⟨_, rfl⟩
  have pp : 0 < P := by rw [hP]; exact ten_pos _
  have ma : nv (padL a.l N) * P = a.mag := by
    unfold Nm.mag
    rw [padL_nv, hP, Int.mul_assoc, ← Int.pow_add]
    congr 2
    rw [low_eq]
    omega
  have mb : nv (padL b.l N) * P = b.mag := by
    unfold Nm.mag
    rw [padL_nv, hP, Int.mul_assoc, ← Int.pow_add]
    congr 2
    rw [low_eq]
    omega
  have da := padL_digs (n := N) (Nm.ok_norm ha).n.dig
  have db := padL_digs (n := N) (Nm.ok_norm hb).n.dig
  have ka := padL_len a.l N (by omega)
  have kb := padL_len b.l N (by omega)
  have at_ : ∀ k, k < N → (padL a.l N).getD k 0 = padAt a.l k := fun k hk => padL_at _ _ _ (by omega) hk
  have bt : ∀ k, k < N → (padL b.l N).getD k 0 = padAt b.l k := fun k hk => padL_at _ _ _ (by omega) hk
  rw [← hN, ← ma, ← mb]
  refine ⟨fun hi hlt => ?_, fun hi hlt => ?_, fun hi => ?_⟩
  · exact cmpI_lt (Int.mul_lt_mul_of_pos_right (lex_lt _ _ i (ka.trans kb.symm) da db (by omega) (fun k hk => by rw [at_ k (by omega), bt k (by omega)]; exact he k hk) (by rw [at_ i hi, bt i hi]; exact hlt)) pp)
  · exact cmpI_gt (Int.mul_lt_mul_of_pos_right (lex_lt _ _ i (kb.trans ka.symm) db da (by omega) (fun k hk => by rw [at_ k (by omega), bt k (by omega)]; exact (he k hk).symm) (by rw [at_ i hi, bt i hi]; exact hlt)) pp)
  · have e : padL a.l N = padL b.l N := by
      refine List.ext_getElem (ka.trans kb.symm) fun k h1 h2 => ?_
      have h3 := at_ k (by omega)
      have h4 := bt k (by omega)
      rw [List.getD_eq_getElem?_getD, List.getElem?_eq_getElem h1] at h3
      rw [List.getD_eq_getElem?_getD, List.getElem?_eq_getElem h2] at h4
      exact h3.trans ((he k (by omega)).trans h4.symm)
    rw [e, cmpI_eq]
set_option maxRecDepth 100000 in
set_option maxHeartbeats 4000000 in
theorem size_zz (w : World) (n1 n2 : Bool) (e1 e2 : Int)  :
    Calls Tryd.prog 38 #[.agg #[.bool n1, .string ⟨#[]⟩, .int .i64 e1], .agg #[.bool n2, .string ⟨#[]⟩, .int .i64 e2]] w fun e w' => e = .returned (.int .i64 0) ∧ Below w.heap.size w w' := by
  obtain ⟨wa, hwa, r1, r2, hB⟩ := two_rows_at w n1 n2 ⟨#[]⟩ ⟨#[]⟩ e1 e2
  have HW := Lib.hid hwa
  have HB := Lib.hid hB
  obtain ⟨⟨x0, x1, x2⟩, _⟩ := row3 r1
  obtain ⟨⟨y0, y1, y2⟩, _⟩ := row3 r2
  clear hwa r1 r2 hB
  go_enter Tryd.func38, Tryd.ntmps38
  go_upto_region 1 with fail
  rw [← HW.out]
  clear HW
  go_wp2_with fail
  go_ret
  exact ⟨rfl, HB.out⟩
set_option maxRecDepth 100000 in
set_option maxHeartbeats 4000000 in
theorem size_zn (w : World) (n1 n2 : Bool) (d2 : ByteArray) (e1 e2 : Int) (h : ¬ d2.size = 0) (hs : d2.size ≤ 1000000) :
    Calls Tryd.prog 38 #[.agg #[.bool n1, .string ⟨#[]⟩, .int .i64 e1], .agg #[.bool n2, .string d2, .int .i64 e2]] w fun e w' => e = .returned (.int .i64 (-1)) ∧ Below w.heap.size w w' := by
  have hm : min (d2.size : Int) 1 = 1 := by omega
  have dz : (((d2.size : Nat) : Int) == 0) = false := beq_eq_false_iff_ne.2 (by omega)
  clear h hs
  obtain ⟨wa, hwa, r1, r2, hB⟩ := two_rows_at w n1 n2 ⟨#[]⟩ d2 e1 e2
  have HW := Lib.hid hwa
  have HB := Lib.hid hB
  obtain ⟨⟨x0, x1, x2⟩, _⟩ := row3 r1
  obtain ⟨⟨y0, y1, y2⟩, _⟩ := row3 r2
  clear hwa r1 r2 hB
  go_enter Tryd.func38, Tryd.ntmps38
  go_upto_region 1 with fail
  rw [← HW.out]
  clear HW
  go_wp2_with fail
  go_ret
  exact ⟨rfl, HB.out⟩
set_option maxRecDepth 100000 in
set_option maxHeartbeats 4000000 in
theorem size_nz (w : World) (n1 n2 : Bool) (d1 : ByteArray) (e1 e2 : Int) (h : ¬ d1.size = 0) (hs : d1.size ≤ 1000000) :
    Calls Tryd.prog 38 #[.agg #[.bool n1, .string d1, .int .i64 e1], .agg #[.bool n2, .string ⟨#[]⟩, .int .i64 e2]] w fun e w' => e = .returned (.int .i64 1) ∧ Below w.heap.size w w' := by
  have hm : min (d1.size : Int) 1 = 1 := by omega
  have dz : (((d1.size : Nat) : Int) == 0) = false := beq_eq_false_iff_ne.2 (by omega)
  clear h hs
  obtain ⟨wa, hwa, r1, r2, hB⟩ := two_rows_at w n1 n2 d1 ⟨#[]⟩ e1 e2
  have HW := Lib.hid hwa
  have HB := Lib.hid hB
  obtain ⟨⟨x0, x1, x2⟩, _⟩ := row3 r1
  obtain ⟨⟨y0, y1, y2⟩, _⟩ := row3 r2
  clear hwa r1 r2 hB
  go_enter Tryd.func38, Tryd.ntmps38
  go_upto_region 1 with fail
  rw [← HW.out]
  clear HW
  go_wp2_with fail
  go_ret
  exact ⟨rfl, HB.out⟩
set_option maxRecDepth 100000 in
set_option maxHeartbeats 4000000 in
theorem size_lo (w : World) (n1 n2 : Bool) (d1 d2 : ByteArray) (e1 e2 : Int) (z1 : ¬ d1.size = 0) (z2 : ¬ d2.size = 0) (s1 : d1.size ≤ 40) (s2 : d2.size ≤ 40) (b1 : -1000 ≤ e1) (b2 : e1 ≤ 1000) (b3 : -1000 ≤ e2) (b4 : e2 ≤ 1000) (hh : (d1.size : Int) + e1 < (d2.size : Int) + e2) :
    Calls Tryd.prog 38 #[.agg #[.bool n1, .string d1, .int .i64 e1], .agg #[.bool n2, .string d2, .int .i64 e2]] w fun e w' => e = .returned (.int .i64 (-1)) ∧ Below w.heap.size w w' := by
  have dz1 : (((d1.size : Nat) : Int) == 0) = false := beq_eq_false_iff_ne.2 (by omega)
  have dz2 : (((d2.size : Nat) : Int) == 0) = false := beq_eq_false_iff_ne.2 (by omega)
  have w1 : IntKind.i64.wrap ((d1.size : Int) + e1) = (d1.size : Int) + e1 := by rw [IntKind.wrap_i64]; omega
  have w2 : IntKind.i64.wrap ((d2.size : Int) + e2) = (d2.size : Int) + e2 := by rw [IntKind.wrap_i64]; omega
  have dn : (((d1.size : Int) + e1) == ((d2.size : Int) + e2)) = false := beq_eq_false_iff_ne.2 (by omega)
  have dl : decide ((d1.size : Int) + e1 < (d2.size : Int) + e2) = true := decide_eq_true hh
  clear z1 z2 s1 s2 b1 b2 b3 b4 hh
  obtain ⟨wa, hwa, r1, r2, hB⟩ := two_rows_at w n1 n2 d1 d2 e1 e2
  have HW := Lib.hid hwa
  have HB := Lib.hid hB
  obtain ⟨⟨x0, x1, x2⟩, _⟩ := row3 r1
  obtain ⟨⟨y0, y1, y2⟩, _⟩ := row3 r2
  clear hwa r1 r2 hB
  go_enter Tryd.func38, Tryd.ntmps38
  go_upto_region 1 with fail
  rw [← HW.out]
  clear HW
  go_wp2_with fail
  go_ret
  exact ⟨rfl, HB.out⟩
set_option maxRecDepth 100000 in
set_option maxHeartbeats 4000000 in
theorem size_hi (w : World) (n1 n2 : Bool) (d1 d2 : ByteArray) (e1 e2 : Int) (z1 : ¬ d1.size = 0) (z2 : ¬ d2.size = 0) (s1 : d1.size ≤ 40) (s2 : d2.size ≤ 40) (b1 : -1000 ≤ e1) (b2 : e1 ≤ 1000) (b3 : -1000 ≤ e2) (b4 : e2 ≤ 1000) (hh : (d2.size : Int) + e2 < (d1.size : Int) + e1) :
    Calls Tryd.prog 38 #[.agg #[.bool n1, .string d1, .int .i64 e1], .agg #[.bool n2, .string d2, .int .i64 e2]] w fun e w' => e = .returned (.int .i64 1) ∧ Below w.heap.size w w' := by
  have dz1 : (((d1.size : Nat) : Int) == 0) = false := beq_eq_false_iff_ne.2 (by omega)
  have dz2 : (((d2.size : Nat) : Int) == 0) = false := beq_eq_false_iff_ne.2 (by omega)
  have w1 : IntKind.i64.wrap ((d1.size : Int) + e1) = (d1.size : Int) + e1 := by rw [IntKind.wrap_i64]; omega
  have w2 : IntKind.i64.wrap ((d2.size : Int) + e2) = (d2.size : Int) + e2 := by rw [IntKind.wrap_i64]; omega
  have dn : (((d1.size : Int) + e1) == ((d2.size : Int) + e2)) = false := beq_eq_false_iff_ne.2 (by omega)
  have dl : decide ((d1.size : Int) + e1 < (d2.size : Int) + e2) = false := decide_eq_false (by omega)
  clear z1 z2 s1 s2 b1 b2 b3 b4 hh
  obtain ⟨wa, hwa, r1, r2, hB⟩ := two_rows_at w n1 n2 d1 d2 e1 e2
  have HW := Lib.hid hwa
  have HB := Lib.hid hB
  obtain ⟨⟨x0, x1, x2⟩, _⟩ := row3 r1
  obtain ⟨⟨y0, y1, y2⟩, _⟩ := row3 r2
  clear hwa r1 r2 hB
  go_enter Tryd.func38, Tryd.ntmps38
  go_upto_region 1 with fail
  rw [← HW.out]
  clear HW
  go_wp2_with fail
  go_ret
  exact ⟨rfl, HB.out⟩
set_option maxRecDepth 100000 in
set_option maxHeartbeats 4000000 in
theorem size_eq (w : World) (n1 n2 : Bool) (d1 d2 : ByteArray) (e1 e2 : Int) (z1 : ¬ d1.size = 0) (z2 : ¬ d2.size = 0) (s1 : d1.size ≤ 40) (s2 : d2.size ≤ 40) (b1 : -1000 ≤ e1) (b2 : e1 ≤ 1000) (h1 : dsane n1 (unstr d1) e1 = true) (h2 : dsane n2 (unstr d2) e2 = true) (hh : (d1.size : Int) + e1 = (d2.size : Int) + e2) :
    Calls Tryd.prog 38 #[.agg #[.bool n1, .string d1, .int .i64 e1], .agg #[.bool n2, .string d2, .int .i64 e2]] w fun e w' => e = .returned (.int .i64 (cmpI (⟨n1, d1, e1⟩ : Nm).mag (⟨n2, d2, e2⟩ : Nm).mag)) ∧ Below w.heap.size w w' := by
  have dz1 : (((d1.size : Nat) : Int) == 0) = false := beq_eq_false_iff_ne.2 (by omega)
  have dz2 : (((d2.size : Nat) : Int) == 0) = false := beq_eq_false_iff_ne.2 (by omega)
  have w1 : IntKind.i64.wrap ((d1.size : Int) + e1) = (d1.size : Int) + e1 := by rw [IntKind.wrap_i64]; omega
  have w2 : IntKind.i64.wrap ((d2.size : Int) + e2) = (d2.size : Int) + e2 := by rw [IntKind.wrap_i64]; omega
  obtain ⟨hg, hhg⟩ : ∃ hg, hg = (d2.size : Int) + e2 := ⟨_, rfl⟩
  clear w1 w2
  have w1 : IntKind.i64.wrap ((d1.size : Int) + e1) = hg := by rw [IntKind.wrap_i64]; omega
  have w2 : IntKind.i64.wrap ((d2.size : Int) + e2) = hg := by rw [IntKind.wrap_i64]; omega
  have HP := Lib.hid (fun i he => pads_order (a := ⟨n1, d1, e1⟩) (b := ⟨n2, d2, e2⟩) h1 h2 hh i he)
  have L1 := unstr_length d1
  have L2 := unstr_length d2
  obtain ⟨res, hres⟩ : ∃ res, res = cmpI (⟨n1, d1, e1⟩ : Nm).mag (⟨n2, d2, e2⟩ : Nm).mag := ⟨_, rfl⟩
  rw [← hres] at HP ⊢
  have HL := Lib.hid (And.intro L1 L2)
  have HS := Lib.hid (And.intro s1 s2)
  clear hres hhg hh h1 h2 b1 b2 z1 z2 L1 L2 s1 s2
  obtain ⟨wa, hwa, r1, r2, hB⟩ := two_rows_at w n1 n2 d1 d2 e1 e2
  have HW := Lib.hid hwa
  have HB := Lib.hid hB
  obtain ⟨⟨x0, x1, x2⟩, _⟩ := row3 r1
  obtain ⟨⟨y0, y1, y2⟩, _⟩ := row3 r2
  clear hwa r1 r2 hB
  go_enter Tryd.func38, Tryd.ntmps38
  go_upto_region 1 with fail
  rw [← HW.out]
  clear HW
  go_wp2_with fail
  go_loopw [7] (fun iv wr => ∃ i : Nat, i ≤ max d1.size d2.size ∧ iv = .int .i64 (i : Int) ∧ Hid (∀ k, k < i → padAt (unstr d1) k = padAt (unstr d2) k) ∧ wr = wa) (fun iv _ => max d1.size d2.size - (intOf iv).toNat)
  case atStart => exact ⟨0, Nat.zero_le _, rfl, fun k hk => absurd hk (by omega), rfl⟩
  case round =>
    obtain ⟨i, hi, rfl, HI, rfl⟩ := hrel
    have hl := HL.out
    have hs := HS.out
    obtain ⟨pl, pg, pe⟩ := HP.out i HI.out
    have wi : IntKind.i64.wrap ((i : Int) + 1) = (i : Int) + 1 := by rw [IntKind.wrap_i64]; omega
    by_cases q1 : i < d1.size
    · by_cases q2 : i < d2.size
      · have i1 : decide ((i : Int) < (d1.size : Int)) = true := decide_eq_true (by omega)
        have i1n : decide (i < d1.size) = true := decide_eq_true q1
        have eA := byte_at d1 i q1
        have pA : padAt (unstr d1) i = ((d1[i].toNat : Nat) : Int) := by rw [eA]; exact if_pos (by omega)
        have i2 : decide ((i : Int) < (d2.size : Int)) = true := decide_eq_true (by omega)
        have i2n : decide (i < d2.size) = true := decide_eq_true q2
        have eB := byte_at d2 i q2
        have pB : padAt (unstr d2) i = ((d2[i].toNat : Nat) : Int) := by rw [eB]; exact if_pos (by omega)
        change (i < max d1.size d2.size → padAt (unstr d1) i < padAt (unstr d2) i → res = -1) at pl
        change (i < max d1.size d2.size → padAt (unstr d2) i < padAt (unstr d1) i → res = 1) at pg
        have him : i < max d1.size d2.size := by omega
        by_cases g1 : ((d1[i].toNat : Nat) : Int) < (((d2[i].toNat : Nat) : Int) : Int)
        · have k1 : decide (((d1[i].toNat : Nat) : Int) < (((d2[i].toNat : Nat) : Int) : Int)) = true := decide_eq_true g1
          have HR := Lib.hid (pl him (by rw [pA, pB]; exact g1))
          clear pA pB pl pg pe hl hs eA eB HI
          go_wp2_with fail
          go_ret
          exact ⟨by rw [HR.out]; rfl, HB.out⟩
        · have k1 : decide (((d1[i].toNat : Nat) : Int) < (((d2[i].toNat : Nat) : Int) : Int)) = false := decide_eq_false g1
          by_cases g2 : ((d2[i].toNat : Nat) : Int) < (((d1[i].toNat : Nat) : Int) : Int)
          · have k2 : decide (((d2[i].toNat : Nat) : Int) < (((d1[i].toNat : Nat) : Int) : Int)) = true := decide_eq_true g2
            have HR := Lib.hid (pg him (by rw [pA, pB]; exact g2))
            clear pA pB pl pg pe hl hs eA eB HI
            go_wp2_with fail
            go_ret
            exact ⟨by rw [HR.out]; rfl, HB.out⟩
          · have k2 : decide (((d2[i].toNat : Nat) : Int) < (((d1[i].toNat : Nat) : Int) : Int)) = false := decide_eq_false g2
            have HN : Hid (∀ k, k < i + 1 → padAt (unstr d1) k = padAt (unstr d2) k) := fun k hk => by
              by_cases hki : k < i
              · exact HI.out k hki
              · rw [show k = i by omega, pA, pB]
                omega
            clear pA pB pl pg pe hl hs eA eB HI
            go_wp2_with fail
            exact ⟨⟨i + 1, by omega, by go_num, HN, by trivial⟩, by show max d1.size d2.size - ((i : Int) + 1).toNat < max d1.size d2.size - (i : Int).toNat; omega⟩
      · have i1 : decide ((i : Int) < (d1.size : Int)) = true := decide_eq_true (by omega)
        have i1n : decide (i < d1.size) = true := decide_eq_true q1
        have eA := byte_at d1 i q1
        have pA : padAt (unstr d1) i = ((d1[i].toNat : Nat) : Int) := by rw [eA]; exact if_pos (by omega)
        have i2 : decide ((i : Int) < (d2.size : Int)) = false := decide_eq_false (by omega)
        have i2n : decide (i < d2.size) = false := decide_eq_false q2
        have pB : padAt (unstr d2) i = 48 := if_neg (by omega)
        change (i < max d1.size d2.size → padAt (unstr d1) i < padAt (unstr d2) i → res = -1) at pl
        change (i < max d1.size d2.size → padAt (unstr d2) i < padAt (unstr d1) i → res = 1) at pg
        have him : i < max d1.size d2.size := by omega
        by_cases g1 : ((d1[i].toNat : Nat) : Int) < (48 : Int)
        · have k1 : decide (((d1[i].toNat : Nat) : Int) < (48 : Int)) = true := decide_eq_true g1
          have HR := Lib.hid (pl him (by rw [pA, pB]; exact g1))
          clear pA pB pl pg pe hl hs eA HI
          go_wp2_with fail
          go_ret
          exact ⟨by rw [HR.out]; rfl, HB.out⟩
        · have k1 : decide (((d1[i].toNat : Nat) : Int) < (48 : Int)) = false := decide_eq_false g1
          by_cases g2 : 48 < (((d1[i].toNat : Nat) : Int) : Int)
          · have k2 : decide (48 < (((d1[i].toNat : Nat) : Int) : Int)) = true := decide_eq_true g2
            have HR := Lib.hid (pg him (by rw [pA, pB]; exact g2))
            clear pA pB pl pg pe hl hs eA HI
            go_wp2_with fail
            go_ret
            exact ⟨by rw [HR.out]; rfl, HB.out⟩
          · have k2 : decide (48 < (((d1[i].toNat : Nat) : Int) : Int)) = false := decide_eq_false g2
            have HN : Hid (∀ k, k < i + 1 → padAt (unstr d1) k = padAt (unstr d2) k) := fun k hk => by
              by_cases hki : k < i
              · exact HI.out k hki
              · rw [show k = i by omega, pA, pB]
                omega
            clear pA pB pl pg pe hl hs eA HI
            go_wp2_with fail
            exact ⟨⟨i + 1, by omega, by go_num, HN, by trivial⟩, by show max d1.size d2.size - ((i : Int) + 1).toNat < max d1.size d2.size - (i : Int).toNat; omega⟩
    · by_cases q2 : i < d2.size
      · have i1 : decide ((i : Int) < (d1.size : Int)) = false := decide_eq_false (by omega)
        have i1n : decide (i < d1.size) = false := decide_eq_false q1
        have pA : padAt (unstr d1) i = 48 := if_neg (by omega)
        have i2 : decide ((i : Int) < (d2.size : Int)) = true := decide_eq_true (by omega)
        have i2n : decide (i < d2.size) = true := decide_eq_true q2
        have eB := byte_at d2 i q2
        have pB : padAt (unstr d2) i = ((d2[i].toNat : Nat) : Int) := by rw [eB]; exact if_pos (by omega)
        change (i < max d1.size d2.size → padAt (unstr d1) i < padAt (unstr d2) i → res = -1) at pl
        change (i < max d1.size d2.size → padAt (unstr d2) i < padAt (unstr d1) i → res = 1) at pg
        have him : i < max d1.size d2.size := by omega
        by_cases g1 : 48 < (((d2[i].toNat : Nat) : Int) : Int)
        · have k1 : decide (48 < (((d2[i].toNat : Nat) : Int) : Int)) = true := decide_eq_true g1
          have HR := Lib.hid (pl him (by rw [pA, pB]; exact g1))
          clear pA pB pl pg pe hl hs eB HI
          go_wp2_with fail
          go_ret
          exact ⟨by rw [HR.out]; rfl, HB.out⟩
        · have k1 : decide (48 < (((d2[i].toNat : Nat) : Int) : Int)) = false := decide_eq_false g1
          by_cases g2 : ((d2[i].toNat : Nat) : Int) < (48 : Int)
          · have k2 : decide (((d2[i].toNat : Nat) : Int) < (48 : Int)) = true := decide_eq_true g2
            have HR := Lib.hid (pg him (by rw [pA, pB]; exact g2))
            clear pA pB pl pg pe hl hs eB HI
            go_wp2_with fail
            go_ret
            exact ⟨by rw [HR.out]; rfl, HB.out⟩
          · have k2 : decide (((d2[i].toNat : Nat) : Int) < (48 : Int)) = false := decide_eq_false g2
            have HN : Hid (∀ k, k < i + 1 → padAt (unstr d1) k = padAt (unstr d2) k) := fun k hk => by
              by_cases hki : k < i
              · exact HI.out k hki
              · rw [show k = i by omega, pA, pB]
                omega
            clear pA pB pl pg pe hl hs eB HI
            go_wp2_with fail
            exact ⟨⟨i + 1, by omega, by go_num, HN, by trivial⟩, by show max d1.size d2.size - ((i : Int) + 1).toNat < max d1.size d2.size - (i : Int).toNat; omega⟩
      · have i1 : decide ((i : Int) < (d1.size : Int)) = false := decide_eq_false (by omega)
        have i1n : decide (i < d1.size) = false := decide_eq_false q1
        have i2 : decide ((i : Int) < (d2.size : Int)) = false := decide_eq_false (by omega)
        have i2n : decide (i < d2.size) = false := decide_eq_false q2
        have HR := Lib.hid (pe (by show max d1.size d2.size ≤ i; omega))
        clear pl pg pe hl hs HI
        go_wp2_with fail
        go_ret
        exact ⟨by rw [HR.out]; rfl, HB.out⟩
end Go.Proofs.YtpnhgggdjlglnaaDoor.dk
/- The document's Compare answers as the program's. -/
namespace Go.Proofs.YtpnhgggdjlglnaaDoor.dk
open Go.PlainAid Go.ChangeShapes Go.WideShapes Go.ChangeAt Go.RowKit

theorem size_ref (w : World) {a b : Nm} (ha : a.ok = true) (hb : b.ok = true) :
    Calls Tryd.prog 38 #[.agg #[.bool a.neg, .string a.dg, .int .i64 a.ex], .agg #[.bool b.neg, .string b.dg, .int .i64 b.ex]] w fun e w' => e = .returned (.int .i64 (cmpI a.mag b.mag)) ∧ Below w.heap.size w w' := by
  have la := Nm.ok_low ha
  have lb := Nm.ok_low hb
  have na := Nm.ok_norm ha
  have nb := Nm.ok_norm hb
  by_cases z1 : a.dg.size = 0
  · have ma := Nm.mag_zero (l_nil z1)
    by_cases z2 : b.dg.size = 0
    · rw [ma, Nm.mag_zero (l_nil z2), cmpI_eq, ba_nil z1, ba_nil z2]
      exact size_zz w _ _ _ _
    · rw [ma, cmpI_lt (Nm.mag_pos nb.n (l_full z2)), ba_nil z1]
      exact size_zn w _ _ _ _ _ z2 (by omega)
  · by_cases z2 : b.dg.size = 0
    · rw [Nm.mag_zero (l_nil z2), cmpI_gt (Nm.mag_pos na.n (l_full z1)), ba_nil z2]
      exact size_nz w _ _ _ _ _ z1 (by omega)
    · have ho := lgr_order na.n nb.n (l_full z1) (l_full z2) (low_ok ha) (low_ok hb)
      rcases Int.lt_trichotomy ((a.dg.size : Int) + a.ex) ((b.dg.size : Int) + b.ex) with h | h | h
      · have hl : lgr a.dg b.dg a.ex b.ex = -1 := by
          unfold lgr
          rw [show cmpI _ _ = -1 from if_pos h, if_neg (by decide)]
        have hc : cmpI a.mag b.mag = -1 := by
          rcases ho with ⟨_, h2⟩ | ⟨h1, _⟩ | ⟨h1, _⟩
          · exact cmpI_lt h2
          · rw [hl] at h1
            exact absurd h1 (by decide)
          · rw [hl] at h1
            exact absurd h1 (by decide)
        rw [hc]
        exact size_lo w _ _ _ _ _ _ z1 z2 (by omega) (by omega) (by omega) (by omega) (by omega) (by omega) h
      · exact size_eq w _ _ _ _ _ _ z1 z2 (by omega) (by omega) (by omega) (by omega) ha hb h
      · have hl : lgr a.dg b.dg a.ex b.ex = 1 := by
          unfold lgr
          rw [show cmpI _ _ = 1 from cmpI_gt h, if_neg (by decide)]
        have hc : cmpI a.mag b.mag = 1 := by
          rcases ho with ⟨h1, _⟩ | ⟨h1, _⟩ | ⟨_, h2⟩
          · rw [hl] at h1
            exact absurd h1 (by decide)
          · rw [hl] at h1
            exact absurd h1 (by decide)
          · exact cmpI_gt h2
        rw [hc]
        exact size_hi w _ _ _ _ _ _ z1 z2 (by omega) (by omega) (by omega) (by omega) (by omega) (by omega) h
set_option maxRecDepth 100000 in
set_option maxHeartbeats 2000000 in
theorem cmpr_bad1 (w : World) (n1 n2 : Bool) (d1 d2 : ByteArray) (e1 e2 : Int) (h1 : dsane n1 (unstr d1) e1 = false) (s1 : d1.size ≤ 1000000) :
    Calls Tryd.prog 16 #[.agg #[.bool n1, .string d1, .int .i64 e1], .agg #[.bool n2, .string d2, .int .i64 e2]] w fun e w' => e = .returned (.int .i64 0) ∧ Below w.heap.size w w' := by
  have HS1 := Lib.hid (fun v => sane_ref v n1 d1 e1 (by omega))
  rw [h1] at HS1
  clear h1 s1
  obtain ⟨wa, hwa, r1, r2, hB⟩ := two_rows_at w n1 n2 d1 d2 e1 e2
  have HW := Lib.hid hwa
  have HR1 := Lib.hid r1
  have HR2 := Lib.hid r2
  have HB := Lib.hid hB
  obtain ⟨⟨x0, x1, x2⟩, _⟩ := row3 r1
  clear hwa r1 r2 hB
  go_enter Tryd.func16, Tryd.ntmps16
  go_upto_region 1 with fail
  rw [← HW.out]
  clear HW
  go_wp2_with fail
  with_reducible refine (HS1.out _).mono ?_
  rintro e w2 ⟨rfl, hb2⟩
  have HT1 := Lib.hid ((hb2.block _ (lt_of_block HR1.out)).trans HR1.out)
  have HT2 := Lib.hid ((hb2.block _ (lt_of_block HR2.out)).trans HR2.out)
  have HK := Lib.hid (HB.out.trans (hb2.mono HB.out.size))
  clear x0 x1 x2 hb2 HR1 HR2 HB HS1
  go_wp2_with fail
  go_ret
  exact ⟨rfl, HK.out⟩
set_option maxRecDepth 100000 in
set_option maxHeartbeats 2000000 in
theorem cmpr_bad2 (w : World) (n1 n2 : Bool) (d1 d2 : ByteArray) (e1 e2 : Int) (h1 : dsane n1 (unstr d1) e1 = true) (h2 : dsane n2 (unstr d2) e2 = false) (s1 : d1.size ≤ 1000000) (s2 : d2.size ≤ 1000000) :
    Calls Tryd.prog 16 #[.agg #[.bool n1, .string d1, .int .i64 e1], .agg #[.bool n2, .string d2, .int .i64 e2]] w fun e w' => e = .returned (.int .i64 0) ∧ Below w.heap.size w w' := by
  have HS1 := Lib.hid (fun v => sane_ref v n1 d1 e1 (by omega))
  rw [h1] at HS1
  have HS2 := Lib.hid (fun v => sane_ref v n2 d2 e2 (by omega))
  rw [h2] at HS2
  clear h1 h2 s1 s2
  obtain ⟨wa, hwa, r1, r2, hB⟩ := two_rows_at w n1 n2 d1 d2 e1 e2
  have HW := Lib.hid hwa
  have HR1 := Lib.hid r1
  have HR2 := Lib.hid r2
  have HB := Lib.hid hB
  obtain ⟨⟨x0, x1, x2⟩, _⟩ := row3 r1
  clear hwa r1 r2 hB
  go_enter Tryd.func16, Tryd.ntmps16
  go_upto_region 1 with fail
  rw [← HW.out]
  clear HW
  go_wp2_with fail
  with_reducible refine (HS1.out _).mono ?_
  rintro e w2 ⟨rfl, hb2⟩
  have HT1 := Lib.hid ((hb2.block _ (lt_of_block HR1.out)).trans HR1.out)
  have HT2 := Lib.hid ((hb2.block _ (lt_of_block HR2.out)).trans HR2.out)
  have HK := Lib.hid (HB.out.trans (hb2.mono HB.out.size))
  clear x0 x1 x2 hb2 HR1 HR2 HB HS1
  obtain ⟨⟨x0, x1, x2⟩, _⟩ := row3 HT2.out
  go_wp2_with fail
  with_reducible refine (HS2.out _).mono ?_
  rintro e w3 ⟨rfl, hb3⟩
  have HL := Lib.hid (HK.out.trans (hb3.mono HK.out.size))
  clear x0 x1 x2 hb3 HT1 HT2 HK HS2
  go_wp2_with fail
  go_ret
  exact ⟨rfl, HL.out⟩
set_option maxRecDepth 100000 in
set_option maxHeartbeats 2000000 in
theorem cmpr_tf (w : World) (d1 d2 : ByteArray) (e1 e2 : Int) (h1 : dsane true (unstr d1) e1 = true) (h2 : dsane false (unstr d2) e2 = true) (s1 : d1.size ≤ 1000000) (s2 : d2.size ≤ 1000000) :
    Calls Tryd.prog 16 #[.agg #[.bool true, .string d1, .int .i64 e1], .agg #[.bool false, .string d2, .int .i64 e2]] w fun e w' => e = .returned (.int .i64 (-1)) ∧ Below w.heap.size w w' := by
  have HS1 := Lib.hid (fun v => sane_ref v true d1 e1 (by omega))
  rw [h1] at HS1
  have HS2 := Lib.hid (fun v => sane_ref v false d2 e2 (by omega))
  rw [h2] at HS2
  clear h1 h2 s1 s2
  obtain ⟨wa, hwa, r1, r2, hB⟩ := two_rows_at w true false d1 d2 e1 e2
  have HW := Lib.hid hwa
  have HR1 := Lib.hid r1
  have HR2 := Lib.hid r2
  have HB := Lib.hid hB
  obtain ⟨⟨x0, x1, x2⟩, _⟩ := row3 r1
  clear hwa r1 r2 hB
  go_enter Tryd.func16, Tryd.ntmps16
  go_upto_region 1 with fail
  rw [← HW.out]
  clear HW
  go_wp2_with fail
  with_reducible refine (HS1.out _).mono ?_
  rintro e w2 ⟨rfl, hb2⟩
  have HT1 := Lib.hid ((hb2.block _ (lt_of_block HR1.out)).trans HR1.out)
  have HT2 := Lib.hid ((hb2.block _ (lt_of_block HR2.out)).trans HR2.out)
  have HK := Lib.hid (HB.out.trans (hb2.mono HB.out.size))
  clear x0 x1 x2 hb2 HR1 HR2 HB HS1
  obtain ⟨⟨x0, x1, x2⟩, _⟩ := row3 HT2.out
  go_wp2_with fail
  with_reducible refine (HS2.out _).mono ?_
  rintro e w3 ⟨rfl, hb3⟩
  have HU1 := Lib.hid ((hb3.block _ (lt_of_block HT1.out)).trans HT1.out)
  have HU2 := Lib.hid ((hb3.block _ (lt_of_block HT2.out)).trans HT2.out)
  have HL := Lib.hid (HK.out.trans (hb3.mono HK.out.size))
  clear x0 x1 x2 hb3 HT1 HT2 HK HS2
  obtain ⟨⟨x0, x1, x2⟩, _⟩ := row3 HU1.out
  obtain ⟨⟨y0, y1, y2⟩, _⟩ := row3 HU2.out
  go_wp2_with fail
  go_ret
  exact ⟨rfl, HL.out⟩
set_option maxRecDepth 100000 in
set_option maxHeartbeats 2000000 in
theorem cmpr_ft (w : World) (d1 d2 : ByteArray) (e1 e2 : Int) (h1 : dsane false (unstr d1) e1 = true) (h2 : dsane true (unstr d2) e2 = true) (s1 : d1.size ≤ 1000000) (s2 : d2.size ≤ 1000000) :
    Calls Tryd.prog 16 #[.agg #[.bool false, .string d1, .int .i64 e1], .agg #[.bool true, .string d2, .int .i64 e2]] w fun e w' => e = .returned (.int .i64 1) ∧ Below w.heap.size w w' := by
  have HS1 := Lib.hid (fun v => sane_ref v false d1 e1 (by omega))
  rw [h1] at HS1
  have HS2 := Lib.hid (fun v => sane_ref v true d2 e2 (by omega))
  rw [h2] at HS2
  clear h1 h2 s1 s2
  obtain ⟨wa, hwa, r1, r2, hB⟩ := two_rows_at w false true d1 d2 e1 e2
  have HW := Lib.hid hwa
  have HR1 := Lib.hid r1
  have HR2 := Lib.hid r2
  have HB := Lib.hid hB
  obtain ⟨⟨x0, x1, x2⟩, _⟩ := row3 r1
  clear hwa r1 r2 hB
  go_enter Tryd.func16, Tryd.ntmps16
  go_upto_region 1 with fail
  rw [← HW.out]
  clear HW
  go_wp2_with fail
  with_reducible refine (HS1.out _).mono ?_
  rintro e w2 ⟨rfl, hb2⟩
  have HT1 := Lib.hid ((hb2.block _ (lt_of_block HR1.out)).trans HR1.out)
  have HT2 := Lib.hid ((hb2.block _ (lt_of_block HR2.out)).trans HR2.out)
  have HK := Lib.hid (HB.out.trans (hb2.mono HB.out.size))
  clear x0 x1 x2 hb2 HR1 HR2 HB HS1
  obtain ⟨⟨x0, x1, x2⟩, _⟩ := row3 HT2.out
  go_wp2_with fail
  with_reducible refine (HS2.out _).mono ?_
  rintro e w3 ⟨rfl, hb3⟩
  have HU1 := Lib.hid ((hb3.block _ (lt_of_block HT1.out)).trans HT1.out)
  have HU2 := Lib.hid ((hb3.block _ (lt_of_block HT2.out)).trans HT2.out)
  have HL := Lib.hid (HK.out.trans (hb3.mono HK.out.size))
  clear x0 x1 x2 hb3 HT1 HT2 HK HS2
  obtain ⟨⟨x0, x1, x2⟩, _⟩ := row3 HU1.out
  obtain ⟨⟨y0, y1, y2⟩, _⟩ := row3 HU2.out
  go_wp2_with fail
  go_ret
  exact ⟨rfl, HL.out⟩
set_option maxRecDepth 100000 in
set_option maxHeartbeats 2000000 in
theorem cmpr_tt (w : World) (d1 d2 : ByteArray) (e1 e2 : Int) (h1 : dsane true (unstr d1) e1 = true) (h2 : dsane true (unstr d2) e2 = true) (s1 : d1.size ≤ 1000000) (s2 : d2.size ≤ 1000000) :
    Calls Tryd.prog 16 #[.agg #[.bool true, .string d1, .int .i64 e1], .agg #[.bool true, .string d2, .int .i64 e2]] w fun e w' => e = .returned (.int .i64 (cmpI (⟨true, d2, e2⟩ : Nm).mag (⟨true, d1, e1⟩ : Nm).mag)) ∧ Below w.heap.size w w' := by
  have HZ := Lib.hid (fun v => size_ref v (a := ⟨true, d2, e2⟩) (b := ⟨true, d1, e1⟩) h2 h1)
  generalize cmpI (⟨true, d2, e2⟩ : Nm).mag (⟨true, d1, e1⟩ : Nm).mag = rr at HZ ⊢
  have HS1 := Lib.hid (fun v => sane_ref v true d1 e1 (by omega))
  rw [h1] at HS1
  have HS2 := Lib.hid (fun v => sane_ref v true d2 e2 (by omega))
  rw [h2] at HS2
  clear h1 h2 s1 s2
  obtain ⟨wa, hwa, r1, r2, hB⟩ := two_rows_at w true true d1 d2 e1 e2
  have HW := Lib.hid hwa
  have HR1 := Lib.hid r1
  have HR2 := Lib.hid r2
  have HB := Lib.hid hB
  obtain ⟨⟨x0, x1, x2⟩, _⟩ := row3 r1
  clear hwa r1 r2 hB
  go_enter Tryd.func16, Tryd.ntmps16
  go_upto_region 1 with fail
  rw [← HW.out]
  clear HW
  go_wp2_with fail
  with_reducible refine (HS1.out _).mono ?_
  rintro e w2 ⟨rfl, hb2⟩
  have HT1 := Lib.hid ((hb2.block _ (lt_of_block HR1.out)).trans HR1.out)
  have HT2 := Lib.hid ((hb2.block _ (lt_of_block HR2.out)).trans HR2.out)
  have HK := Lib.hid (HB.out.trans (hb2.mono HB.out.size))
  clear x0 x1 x2 hb2 HR1 HR2 HB HS1
  obtain ⟨⟨x0, x1, x2⟩, _⟩ := row3 HT2.out
  go_wp2_with fail
  with_reducible refine (HS2.out _).mono ?_
  rintro e w3 ⟨rfl, hb3⟩
  have HU1 := Lib.hid ((hb3.block _ (lt_of_block HT1.out)).trans HT1.out)
  have HU2 := Lib.hid ((hb3.block _ (lt_of_block HT2.out)).trans HT2.out)
  have HL := Lib.hid (HK.out.trans (hb3.mono HK.out.size))
  clear x0 x1 x2 hb3 HT1 HT2 HK HS2
  obtain ⟨⟨x0, x1, x2⟩, _⟩ := row3 HU1.out
  obtain ⟨⟨y0, y1, y2⟩, _⟩ := row3 HU2.out
  go_wp2_with fail
  with_reducible refine (HZ.out _).mono ?_
  rintro e w4 ⟨rfl, hb4⟩
  have HM := Lib.hid (HL.out.trans (hb4.mono HL.out.size))
  clear x0 x1 x2 y0 y1 y2 hb4 HU1 HU2 HZ HL
  go_wp2_with fail
  go_ret
  exact ⟨rfl, HM.out⟩
set_option maxRecDepth 100000 in
set_option maxHeartbeats 2000000 in
theorem cmpr_ff (w : World) (d1 d2 : ByteArray) (e1 e2 : Int) (h1 : dsane false (unstr d1) e1 = true) (h2 : dsane false (unstr d2) e2 = true) (s1 : d1.size ≤ 1000000) (s2 : d2.size ≤ 1000000) :
    Calls Tryd.prog 16 #[.agg #[.bool false, .string d1, .int .i64 e1], .agg #[.bool false, .string d2, .int .i64 e2]] w fun e w' => e = .returned (.int .i64 (cmpI (⟨false, d1, e1⟩ : Nm).mag (⟨false, d2, e2⟩ : Nm).mag)) ∧ Below w.heap.size w w' := by
  have HZ := Lib.hid (fun v => size_ref v (a := ⟨false, d1, e1⟩) (b := ⟨false, d2, e2⟩) h1 h2)
  generalize cmpI (⟨false, d1, e1⟩ : Nm).mag (⟨false, d2, e2⟩ : Nm).mag = rr at HZ ⊢
  have HS1 := Lib.hid (fun v => sane_ref v false d1 e1 (by omega))
  rw [h1] at HS1
  have HS2 := Lib.hid (fun v => sane_ref v false d2 e2 (by omega))
  rw [h2] at HS2
  clear h1 h2 s1 s2
  obtain ⟨wa, hwa, r1, r2, hB⟩ := two_rows_at w false false d1 d2 e1 e2
  have HW := Lib.hid hwa
  have HR1 := Lib.hid r1
  have HR2 := Lib.hid r2
  have HB := Lib.hid hB
  obtain ⟨⟨x0, x1, x2⟩, _⟩ := row3 r1
  clear hwa r1 r2 hB
  go_enter Tryd.func16, Tryd.ntmps16
  go_upto_region 1 with fail
  rw [← HW.out]
  clear HW
  go_wp2_with fail
  with_reducible refine (HS1.out _).mono ?_
  rintro e w2 ⟨rfl, hb2⟩
  have HT1 := Lib.hid ((hb2.block _ (lt_of_block HR1.out)).trans HR1.out)
  have HT2 := Lib.hid ((hb2.block _ (lt_of_block HR2.out)).trans HR2.out)
  have HK := Lib.hid (HB.out.trans (hb2.mono HB.out.size))
  clear x0 x1 x2 hb2 HR1 HR2 HB HS1
  obtain ⟨⟨x0, x1, x2⟩, _⟩ := row3 HT2.out
  go_wp2_with fail
  with_reducible refine (HS2.out _).mono ?_
  rintro e w3 ⟨rfl, hb3⟩
  have HU1 := Lib.hid ((hb3.block _ (lt_of_block HT1.out)).trans HT1.out)
  have HU2 := Lib.hid ((hb3.block _ (lt_of_block HT2.out)).trans HT2.out)
  have HL := Lib.hid (HK.out.trans (hb3.mono HK.out.size))
  clear x0 x1 x2 hb3 HT1 HT2 HK HS2
  obtain ⟨⟨x0, x1, x2⟩, _⟩ := row3 HU1.out
  obtain ⟨⟨y0, y1, y2⟩, _⟩ := row3 HU2.out
  go_wp2_with fail
  with_reducible refine (HZ.out _).mono ?_
  rintro e w4 ⟨rfl, hb4⟩
  have HM := Lib.hid (HL.out.trans (hb4.mono HL.out.size))
  clear x0 x1 x2 y0 y1 y2 hb4 HU1 HU2 HZ HL
  go_wp2_with fail
  go_ret
  exact ⟨rfl, HM.out⟩
theorem neg_full {d : Nm} (h : d.ok = true) (hn : d.neg = true) : 0 < d.mag := by
  have n := Nm.ok_norm h
  by_cases e : d.l = []
  · have := (n.z e).1
    rw [hn] at this
    cases this
  · exact Nm.mag_pos n.n e
theorem CompareR (w : World) (n1 : Bool) (d1 : ByteArray) (e1 : Int) (n2 : Bool) (d2 : ByteArray) (e2 : Int) (s1 : d1.size ≤ 1000000) (s2 : d2.size ≤ 1000000) :
    Calls Tryd.prog 16 #[.agg #[.bool n1, .string d1, .int .i64 e1], .agg #[.bool n2, .string d2, .int .i64 e2]] w fun e w' => e = .returned (.int .i64 (cmpD n1 d1 e1 n2 d2 e2)) ∧ Below w.heap.size w w' := by
  by_cases h1 : dsane n1 (unstr d1) e1 = true
  · by_cases h2 : dsane n2 (unstr d2) e2 = true
    · have oa : (⟨n1, d1, e1⟩ : Nm).ok = true := h1
      have ob : (⟨n2, d2, e2⟩ : Nm).ok = true := h2
      have hv : cmpD n1 d1 e1 n2 d2 e2 = cmpI (⟨n1, d1, e1⟩ : Nm).val (⟨n2, d2, e2⟩ : Nm).val := cmpD_val oa ob
      rw [hv]
      have pa := Nm.mag_nonneg (Nm.ok_norm oa).n
      have pb := Nm.mag_nonneg (Nm.ok_norm ob).n
      cases n1 <;> cases n2
      · exact cmpr_ff w d1 d2 e1 e2 h1 h2 s1 s2
      · have := neg_full ob rfl
        rw [show cmpI (⟨false, d1, e1⟩ : Nm).val (⟨true, d2, e2⟩ : Nm).val = 1 from cmpI_gt (by show - (⟨true, d2, e2⟩ : Nm).mag < (⟨false, d1, e1⟩ : Nm).mag; omega)]
        exact cmpr_ft w d1 d2 e1 e2 h1 h2 s1 s2
      · have := neg_full oa rfl
        rw [show cmpI (⟨true, d1, e1⟩ : Nm).val (⟨false, d2, e2⟩ : Nm).val = -1 from cmpI_lt (by show - (⟨true, d1, e1⟩ : Nm).mag < (⟨false, d2, e2⟩ : Nm).mag; omega)]
        exact cmpr_tf w d1 d2 e1 e2 h1 h2 s1 s2
      · have e : cmpI (⟨true, d1, e1⟩ : Nm).val (⟨true, d2, e2⟩ : Nm).val = cmpI (⟨true, d2, e2⟩ : Nm).mag (⟨true, d1, e1⟩ : Nm).mag := by
          show cmpI (- (⟨true, d1, e1⟩ : Nm).mag) (- (⟨true, d2, e2⟩ : Nm).mag) = _
          rcases cmpI_cases (⟨true, d2, e2⟩ : Nm).mag (⟨true, d1, e1⟩ : Nm).mag with ⟨h, e⟩ | ⟨h, e⟩ | ⟨h, e⟩
          · rw [e, cmpI_lt (by omega)]
          · rw [h, cmpI_eq, cmpI_eq]
          · rw [e, cmpI_gt (by omega)]
        rw [e]
        exact cmpr_tt w d1 d2 e1 e2 h1 h2 s1 s2
    · rw [show cmpD n1 d1 e1 n2 d2 e2 = 0 from if_neg fun h => h2 h.2]
      exact cmpr_bad2 w n1 n2 d1 d2 e1 e2 h1 (by simpa using h2) s1 s2
  · rw [show cmpD n1 d1 e1 n2 d2 e2 = 0 from if_neg fun h => h1 h.1]
    exact cmpr_bad1 w n1 n2 d1 d2 e1 e2 (by simpa using h1) s1
end Go.Proofs.YtpnhgggdjlglnaaDoor.dk
