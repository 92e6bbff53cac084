/- A number times ten to any exponent. -/
import Derived.Test.YtpnhgggdjlglnaaDoorF0
import Derived.Test.YtpnhgggdjlglnaaDoorB4
namespace Go.Proofs.YtpnhgggdjlglnaaDoor.dk
open Go.PlainAid Go.ChangeShapes Go.WideShapes Go.ChangeAt Go.RowKit

/-- Ten to an exponent. -/
def tenN (k : Int) : Nm := ⟨false, ⟨#[49]⟩, k⟩
def shiftN (d : Nm) (k : Int) : Nm := ⟨d.neg, d.dg, if d.dg.size = 0 then d.ex else d.ex + k⟩
theorem tenN_ok {k : Int} (h1 : -401 ≤ k) (h2 : k ≤ 399) : (tenN k).ok = true := by
  show dsane false [49] k = true
  unfold dsane
  rw [if_neg (by decide)]
  simp only [Bool.and_eq_true, decide_eq_true_eq]
  exact ⟨⟨by decide, by show -400 - 1 ≤ k; omega⟩, by show k ≤ 400 - 1; omega⟩
theorem tenN_val (k : Int) : (tenN k).val = 10 ^ (k - low).toNat := by
  show nv [49] * 10 ^ (k - low).toNat = _
  rw [show nv [49] = 1 by decide, Int.one_mul]
theorem shiftN_norm {d : Nm} (h : d.Norm) (k : Int) : (shiftN d k).Norm := by
  refine ⟨h.n, fun e => ?_⟩
  have hz : d.dg.size = 0 := by rw [← unstr_length]; show (shiftN d k).l.length = 0; rw [e]; rfl
  obtain ⟨a, b⟩ := h.z e
  exact ⟨a, by show (if d.dg.size = 0 then d.ex else d.ex + k) = 0; rw [if_pos hz, b]⟩
theorem mul_ten {d : Nm} (h : d.ok = true) {k : Int} (h1 : -1000 ≤ k) : mulN d (tenN k) = shiftN d k := by
  have hn := Nm.ok_norm h
  have hl := Nm.ok_low h
  have ht : Digs (tenN k).l := fun x hx => by
    have : x = 49 := by simpa using (show x ∈ [49] from hx)
    rw [this]
    decide
  have hv := mulN_val (b := tenN k) hn.n.dig ht (by omega) h1
  refine Nm.uniq (mulN_norm _ _) (shiftN_norm hn k) (fmN_ex _ _ _ (by rw [low_eq]; show -4000 ≤ d.ex + k; omega)) ?_ ?_
  · show low ≤ if d.dg.size = 0 then d.ex else d.ex + k
    rw [low_eq]
    split <;> omega
  · refine Int.eq_of_mul_eq_mul_right (Int.ne_of_gt unit_pos) (hv.trans ?_)
    rw [tenN_val]
    by_cases hz : d.dg.size = 0
    · rw [val_nil hz, val_nil (a := shiftN d k) hz, Int.zero_mul, Int.zero_mul]
    · have hm : d.mag * 10 ^ (k - low).toNat = (shiftN d k).mag * unit := by
        unfold Nm.mag unit
        rw [Int.mul_assoc, Int.mul_assoc, ← Int.pow_add, ← Int.pow_add]
        show _ = nv d.l * 10 ^ (((if d.dg.size = 0 then d.ex else d.ex + k) - low).toNat + (0 - low).toNat)
        rw [if_neg hz]
        congr 2
        rw [low_eq]
        omega
      unfold Nm.val
      show (if d.neg then _ else _) * _ = (if d.neg then _ else _) * _
      cases d.neg
      · exact hm
      · simp only [if_true, Int.neg_mul, hm]
theorem mulP_ten {d : Nm} (h : d.ok = true) {k : Int} (h1 : -401 ≤ k) (h2 : k ≤ 399) : mulP d (tenN k) = (shiftN d k).told := by
  unfold mulP
  rw [if_pos ⟨h, tenN_ok h1 h2⟩, mul_ten h (by omega)]
theorem told_ok {d : Nm} (h : d.ok = true) : d.told = (d, 0) := if_pos h
theorem told_no {d : Nm} (h : d.ok = false) : d.told = (Nm.zero, 4) := if_neg (by rw [h]; decide)
theorem mulP_one {d : Nm} (h : d.ok = true) : mulP d (tenN 0) = (d, 0) := by
  rw [mulP_ten h (by decide) (by decide), show shiftN d 0 = d from Nm.ext3 rfl rfl (by show (if d.dg.size = 0 then d.ex else d.ex + 0) = d.ex; split <;> omega), told_ok h]
theorem zero_ok : Nm.zero.ok = true := by decide
theorem zero_val : Nm.zero.val = 0 := val_nil rfl
theorem norm_zero {d : Nm} (h : d.Norm) (l : low ≤ d.ex) (hv : d.val = 0) : d = Nm.zero := Nm.uniq h (Nm.ok_norm zero_ok) l (by rw [low_eq]; decide) (hv.trans zero_val.symm)
theorem mulP_zero {d : Nm} (h : d.ok = true) : mulP d Nm.zero = (Nm.zero, 0) := by
  have hn := Nm.ok_norm h
  have hl := Nm.ok_low h
  have hv := mulN_val (b := Nm.zero) hn.n.dig (fun x hx => by cases hx) (by omega) (by decide)
  rw [zero_val, Int.mul_zero] at hv
  have h0 : (mulN d Nm.zero).val = 0 := by
    rcases Int.mul_eq_zero.1 hv with h | h
    · exact h
    · exact absurd h (Int.ne_of_gt unit_pos)
  unfold mulP
  rw [if_pos ⟨h, zero_ok⟩, norm_zero (mulN_norm _ _) (fmN_ex _ _ _ (by rw [low_eq]; show -4000 ≤ d.ex + 0; omega)) h0, told_ok zero_ok]
theorem of_one : fmd (decide ((1 : Int) < 0)) (itd 1) 0 = #[.bool false, .string ⟨#[49]⟩, .int .i64 0] := by kernel_rfl
theorem nm_zero {d : Nm} (h : d.ok = true) (hz : d.dg.size = 0) : d = Nm.zero := norm_zero (Nm.ok_norm h) (low_ok h) (val_nil hz)
end Go.Proofs.YtpnhgggdjlglnaaDoor.dk
