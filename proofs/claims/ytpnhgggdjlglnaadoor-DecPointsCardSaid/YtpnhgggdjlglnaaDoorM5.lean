/- Whole numbers as numbers. -/
import Derived.Test.YtpnhgggdjlglnaaDoorM2
import Derived.Test.YtpnhgggdjlglnaaDoorLa
namespace Go.Proofs.YtpnhgggdjlglnaaDoor.dk
open Go.PlainAid Go.ChangeShapes Go.WideShapes Go.ChangeAt Go.RowKit

def ofN (n : Int) : Nm := fmN (decide (n < 0)) (itd n) 0
theorem itd_list (n : Int) : unstr (itd n) = ud (Lib.decDigits n.natAbs) := by
  obtain ⟨f1, f2, _⟩ := dec_facts n.natAbs
  show ud (Lib.trimPrefix (Lib.itoa n) [45]) = _
  by_cases h : n < 0
  · have e : Lib.itoa n = 45 :: Lib.decDigits n.natAbs := by
      unfold Lib.itoa
      rw [if_pos h]
    rw [e]
    unfold Lib.trimPrefix
    rw [show Lib.hasPrefix (45 :: Lib.decDigits n.natAbs) [45] = true from rfl, if_pos rfl]
    rfl
  · have e : Lib.itoa n = Lib.decDigits n.natAbs := by
      unfold Lib.itoa
      rw [if_neg h, show n.toNat = n.natAbs by omega]
    rw [e]
    unfold Lib.trimPrefix
    rw [if_neg ?_]
    intro hp
    cases hd : Lib.decDigits n.natAbs with
    | nil => exact f2 hd
    | cons c t =>
      rw [hd] at hp f1
      have h1 := f1.head
      unfold Lib.hasPrefix at hp
      simp [List.isPrefixOf] at hp
      rw [← hp] at h1
      exact absurd h1 (by decide)
theorem itd_digs (n : Int) : Digs (unstr (itd n)) := by rw [itd_list]; exact (dec_facts _).1
theorem itd_nv (n : Int) : nv (unstr (itd n)) = (n.natAbs : Int) := by rw [itd_list]; exact (dec_facts _).2.2.1
theorem ofN_norm (n : Int) : (ofN n).Norm := fmN_norm _ _ _ (itd_digs n)
theorem ofN_low (n : Int) : low ≤ (ofN n).ex := fmN_ex _ _ _ (by rw [low_eq]; decide)
theorem ofN_val (n : Int) : (ofN n).val = n * unit := by
  have h := fmN_val (decide (n < 0)) (itd n) 0 (by rw [low_eq]; decide)
  rw [itd_nv] at h
  show (fmN _ _ _).val = _
  rw [h]
  show (if decide (n < 0) = true then -((n.natAbs : Int) * unit) else (n.natAbs : Int) * unit) = _
  by_cases hn : n < 0
  · rw [if_pos (decide_eq_true hn), ← Int.neg_mul, show -(n.natAbs : Int) = n by omega]
  · rw [if_neg (by simpa using hn), show (n.natAbs : Int) = n by omega]
theorem ofN_ex (n : Int) : 0 ≤ (ofN n).ex := by
  show 0 ≤ fexp (itd n) 0
  unfold fexp
  have := fsh_le (itd n)
  split <;> omega
theorem ok_of {d : Nm} (h : d.Norm) (hb : ¬ d.dg.size = 0 → d.dg.size ≤ 40 ∧ -400 - (d.dg.size : Int) ≤ d.ex ∧ d.ex ≤ 400 - (d.dg.size : Int)) : d.ok = true := by
  show dsane d.neg (unstr d.dg) d.ex = true
  unfold dsane
  by_cases hz : d.dg.size = 0
  · rw [if_pos (by rw [unstr_length]; exact hz)]
    obtain ⟨h1, h2⟩ := h.z (l_nil hz)
    rw [h1, h2]
    rfl
  · obtain ⟨b1, b2, b3⟩ := hb hz
    rw [if_neg (by rw [unstr_length]; exact hz), unstr_length]
    have hne : unstr d.dg ≠ [] := l_full hz
    have k1 : (unstr d.dg).getD 0 0 ≠ 48 := by
      have := h.n.fst
      rw [show d.l = unstr d.dg from rfl] at this
      cases e : unstr d.dg with
      | nil => exact absurd e hne
      | cons c t => exact this c t e
    have k2 : (unstr d.dg).getD (d.dg.size - 1) 0 ≠ 48 := by
      have hl := h.n.lst
      rw [show d.l = unstr d.dg from rfl] at hl
      rw [← unstr_length]
      rcases List.eq_nil_or_concat (unstr d.dg) with e | ⟨t, c, e⟩
      · exact absurd e hne
      · rw [List.concat_eq_append] at e
        rw [e]
        have := hl t c e
        simpa using this
    simp only [Bool.and_eq_true, decide_eq_true_eq, Bool.not_eq_true', decide_eq_false_iff_not]
    exact ⟨⟨⟨⟨⟨b1, k1⟩, k2⟩, List.all_eq_true.2 h.n.dig⟩, b2⟩, b3⟩
theorem ofN_high (n : Int) (h0 : -1000000000000000 < n) (h1 : n < 1000000000000000) : ((ofN n).dg.size : Int) + (ofN n).ex ≤ 15 := by
  have hn := ofN_norm n
  have hx := ofN_ex n
  have hv := ofN_val n
  by_cases hz : (ofN n).dg.size = 0
  · rw [hz, (hn.z (l_nil hz)).2]
    decide
  · have hp := hn.n.pos (l_full hz)
    have hl : (ofN n).l.length = (ofN n).dg.size := unstr_length _
    have hm : (ofN n).mag = (n.natAbs : Int) * unit := by
      have hpos := Nm.mag_pos hn.n (l_full hz)
      have up := unit_pos
      unfold Nm.val at hv
      by_cases hneg : n < 0
      · have e : (n.natAbs : Int) = -n := by omega
        rw [e, Int.neg_mul]
        have hng : n * unit < 0 := Int.mul_neg_of_neg_of_pos hneg up
        split at hv <;> omega
      · have e : (n.natAbs : Int) = n := by omega
        rw [e]
        have hng : 0 ≤ n * unit := Int.mul_nonneg (by omega) (by omega)
        split at hv <;> omega
    have hm2 : nv (ofN n).l * 10 ^ (ofN n).ex.toNat = (n.natAbs : Int) := by
      refine unit_cancel (Eq.trans ?_ hm)
      unfold unit Nm.mag
      rw [Int.mul_assoc, ← Int.pow_add]
      congr 2
      rw [low_eq]
      omega
    have h3 := Int.mul_le_mul_of_nonneg_right hp (Int.le_of_lt (ten_pos (ofN n).ex.toNat))
    rw [hm2, ← Int.pow_add] at h3
    rcases Nat.lt_or_ge ((ofN n).l.length - 1 + (ofN n).ex.toNat) 15 with hlt | hge
    · omega
    · have h4 := ten_mono hge
      rw [show (10 : Int) ^ 15 = 1000000000000000 by decide] at h4
      omega
theorem ofN_ok (n : Int) (h0 : -1000000000000000 < n) (h1 : n < 1000000000000000) : (ofN n).ok = true := by
  have hx := ofN_ex n
  have hh := ofN_high n h0 h1
  exact ok_of (ofN_norm n) fun _ => by omega
theorem sum_of {x y : Int} (hx : (ofN x).ok = true) (hy : (ofN y).ok = true) : sumN (ofN x) (ofN y) = ofN (x + y) := by
  obtain ⟨n1, l1, v1⟩ := sum_all hx hy
  exact Nm.uniq n1 (ofN_norm _) l1 (ofN_low _) (by rw [v1, ofN_val, ofN_val, ofN_val, Int.add_mul])
theorem mul_of {x y : Int} (hx : (ofN x).ok = true) (hy : (ofN y).ok = true) : mulN (ofN x) (ofN y) = ofN (x * y) := by
  obtain ⟨n1, l1, v1⟩ := mul_all hx hy
  refine Nm.uniq n1 (ofN_norm _) l1 (ofN_low _) (unit_cancel ?_)
  rw [v1, ofN_val, ofN_val, ofN_val, Int.mul_assoc, Int.mul_assoc, Int.mul_assoc, ← Int.mul_assoc unit y, Int.mul_comm unit y, Int.mul_assoc]
theorem cmp_of {x y : Int} (hx : (ofN x).ok = true) (hy : (ofN y).ok = true) : cmpN (ofN x) (ofN y) = cmpI x y := by
  rw [cmpN_val hx hy, ofN_val, ofN_val]
  rcases cmpI_cases x y with ⟨h, e⟩ | ⟨h, e⟩ | ⟨h, e⟩
  · rw [e, cmpI_lt (Int.mul_lt_mul_of_pos_right h unit_pos)]
  · rw [h, cmpI_eq, cmpI_eq]
  · rw [e, cmpI_gt (Int.mul_lt_mul_of_pos_right h unit_pos)]
theorem tsum_low (l : List Int) (ex : Int) (hx : 0 ≤ ex) : ∀ j : Nat, j ≤ l.length → tsum l ex j = nv (l.take j)
  | 0, _ => rfl
  | j + 1, h => by
    show tsum l ex j * 10 + dat l ex ((l.length : Int) + ex - 1 - (j : Int)) = _
    have hd : dat l ex ((l.length : Int) + ex - 1 - (j : Int)) = l.getD j 0 - 48 := by
      unfold dat
      rw [if_neg (by omega), show ((l.length : Int) + ex - 1 - ((l.length : Int) + ex - 1 - (j : Int))).toNat = j by omega]
    rw [tsum_low l ex hx j (by omega), hd, List.take_add_one, List.getElem?_eq_getElem (by omega)]
    show _ = nv (List.take j l ++ [l[j]])
    rw [nv_last, List.getD_eq_getElem?_getD, List.getElem?_eq_getElem (by omega)]
    rfl
theorem tsum_high (l : List Int) (ex : Int) (hx : 0 ≤ ex) : ∀ i : Nat, (i : Int) ≤ ex → tsum l ex (l.length + i) = nv l * 10 ^ i
  | 0, _ => by
    rw [Nat.add_zero, tsum_low l ex hx l.length (Nat.le_refl _), List.take_length, Int.pow_zero, Int.mul_one]
  | i + 1, h => by
    show tsum l ex (l.length + i) * 10 + dat l ex ((l.length : Int) + ex - 1 - ((l.length + i : Nat) : Int)) = _
    rw [tsum_high l ex hx i (by omega), show dat l ex ((l.length : Int) + ex - 1 - ((l.length + i : Nat) : Int)) = 0 by unfold dat; rw [if_pos (.inl (by omega))], Int.add_zero, Int.pow_succ, Int.mul_assoc]
/-- A whole number is told again. -/
theorem int_of (n : Int) (h0 : -1000000000000000 < n) (h1 : n < 1000000000000000) : intV (ofN n) = .tuple #[.int .i64 n, .bool true] := by
  have hx := ofN_ex n
  have hh := ofN_high n h0 h1
  have hok := ofN_ok n h0 h1
  unfold intV
  rw [if_pos ⟨hok, hx, hh⟩]
  have hl : (ofN n).l.length = (ofN n).dg.size := unstr_length _
  have ht : tsum (unstr (ofN n).dg) (ofN n).ex (((ofN n).dg.size : Int) + (ofN n).ex).toNat = nv (ofN n).l * 10 ^ (ofN n).ex.toNat := by
    have := tsum_high (ofN n).l (ofN n).ex hx (ofN n).ex.toNat (by omega)
    rw [hl] at this
    rw [show (((ofN n).dg.size : Int) + (ofN n).ex).toNat = (ofN n).dg.size + (ofN n).ex.toNat by omega]
    exact this
  rw [ht]
  have hv := ofN_val n
  have hm2 : nv (ofN n).l * 10 ^ (ofN n).ex.toNat * unit = (ofN n).mag := by
    unfold unit Nm.mag
    rw [Int.mul_assoc, ← Int.pow_add]
    congr 2
    rw [low_eq]
    omega
  unfold Nm.val at hv
  rw [← hm2] at hv
  have e : (if (ofN n).neg = true then -(nv (ofN n).l * 10 ^ (ofN n).ex.toNat) else nv (ofN n).l * 10 ^ (ofN n).ex.toNat) = n := by
    refine unit_cancel (Eq.trans ?_ hv)
    split
    · rw [Int.neg_mul]
    · rfl
  rw [e]
end Go.Proofs.YtpnhgggdjlglnaaDoor.dk
