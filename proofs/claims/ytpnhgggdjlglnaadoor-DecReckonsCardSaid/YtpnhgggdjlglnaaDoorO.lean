/- size: with an exponent; of any number that may be. -/
import Derived.Test.YtpnhgggdjlglnaaDoorN
import Derived.Lib.ItoaLen
namespace Go.Proofs.YtpnhgggdjlglnaaDoor.dk
open Go.PlainAid Go.ChangeShapes Go.WideShapes Go.ChangeAt Go.RowKit

/-- The first digit, and the others behind a point. -/
def headT (dg : ByteArray) : ByteArray := if 1 < dg.size then dg.extract 0 1 ++ (⟨#[46]⟩ ++ dg.extract 1 dg.size) else dg.extract 0 1
def expT (dg : ByteArray) (h : Int) : ByteArray := (headT dg ++ (if 0 < h then ⟨#[101, 43]⟩ else ⟨#[101]⟩)) ++ ⟨(Lib.itoa (h - 1)).toArray⟩
theorem headT_size (dg : ByteArray) : (headT dg).size ≤ dg.size + 1 := by
  unfold headT
  split
  · rw [ByteArray.size_append, ByteArray.size_append, ByteArray.size_extract, ByteArray.size_extract]
    show _ + (1 + _) ≤ _
    omega
  · rw [ByteArray.size_extract]
    omega
abbrev Tab (w : World) : Prop := Lib.TabIs Tryd.prog w "internal/strconv.uint64pow10" .u64 Lib.pow10Tab
set_option maxRecDepth 100000 in
set_option maxHeartbeats 2000000 in
theorem size_exp (w : World) (dg : ByteArray) (h : Int) (hs : dg.size ≤ 1000000) (h0 : 0 < dg.size) (hh : 21 < h ∨ h < -5) (b1 : -1000000 ≤ h) (b2 : h ≤ 1000000) (ht : Tab w) :
    Calls Tryd.prog 40 #[.string dg, .int .i64 h] w fun e w' => e = .returned (.string (expT dg h)) ∧ Below w.heap.size w w' := by
  have hI := Tryd.strconv_Itoa (h - 1) (by omega) (by omega) w ht
  have hil := Lib.itoa_length_le (h - 1) (by omega) (by omega)
  have hTs := headT_size dg
  have w1 : IntKind.i64.wrap (h - 1) = h - 1 := by rw [IntKind.wrap_i64]; omega
  unfold expT
  have hits : (⟨(Lib.itoa (h - 1)).toArray⟩ : ByteArray).size ≤ 21 := by
    show (List.toArray _).size ≤ 21
    rw [List.size_toArray]
    exact hil
  clear hil ht
  generalize (⟨(Lib.itoa (h - 1)).toArray⟩ : ByteArray) = it at hI hits ⊢
  have hI2 : Calls Tryd.prog 42 #[.int .i64 (h - 1)] w fun e w' => e = .returned (.string it) ∧ Below w.heap.size w w' := hI.mono fun e w' hq => by
    obtain ⟨rfl, k, os, rfl⟩ := hq
    exact ⟨rfl, Lib.below_grow _ _ (Nat.le_refl _) k os⟩
  have HI := Lib.hid hI2
  clear hI hI2
  have l1 : (0 : Int) ≤ 1 := by omega
  have l2 : (1 : Int) ≤ ((dg.size : Nat) : Int) := by omega
  have s1 : (dg.extract 0 1).size = 1 := by rw [ByteArray.size_extract]; omega
  have s2 : (dg.extract 1 dg.size).size = dg.size - 1 := by rw [ByteArray.size_extract]; omega
  have hc1 : (⟨#[46]⟩ : ByteArray).size + (dg.extract 1 dg.size).size ≤ 9223372036854775807 := by rw [s2]; show 1 + (dg.size - 1) ≤ _; omega
  have hc2 : (dg.extract 0 1).size + ((⟨#[46]⟩ : ByteArray) ++ dg.extract 1 dg.size).size ≤ 9223372036854775807 := by rw [ByteArray.size_append, s1, s2]; show 1 + (1 + (dg.size - 1)) ≤ _; omega
  have hc3 : (dg.extract 0 1 ++ ((⟨#[46]⟩ : ByteArray) ++ dg.extract 1 dg.size)).size + (⟨#[101, 43]⟩ : ByteArray).size ≤ 9223372036854775807 := by rw [ByteArray.size_append, ByteArray.size_append, s1, s2]; show 1 + (1 + (dg.size - 1)) + 2 ≤ _; omega
  have hc4 : (dg.extract 0 1 ++ ((⟨#[46]⟩ : ByteArray) ++ dg.extract 1 dg.size)).size + (⟨#[101]⟩ : ByteArray).size ≤ 9223372036854775807 := by rw [ByteArray.size_append, ByteArray.size_append, s1, s2]; show 1 + (1 + (dg.size - 1)) + 1 ≤ _; omega
  have hc5 : (dg.extract 0 1).size + (⟨#[101, 43]⟩ : ByteArray).size ≤ 9223372036854775807 := by rw [s1]; show 1 + 2 ≤ _; omega
  have hc6 : (dg.extract 0 1).size + (⟨#[101]⟩ : ByteArray).size ≤ 9223372036854775807 := by rw [s1]; show 1 + 1 ≤ _; omega
  have hc7 : ((dg.extract 0 1 ++ ((⟨#[46]⟩ : ByteArray) ++ dg.extract 1 dg.size)) ++ (⟨#[101, 43]⟩ : ByteArray)).size + it.size ≤ 9223372036854775807 := by rw [ByteArray.size_append, ByteArray.size_append, ByteArray.size_append, s1, s2]; show 1 + (1 + (dg.size - 1)) + 2 + it.size ≤ _; omega
  have hc8 : ((dg.extract 0 1 ++ ((⟨#[46]⟩ : ByteArray) ++ dg.extract 1 dg.size)) ++ (⟨#[101]⟩ : ByteArray)).size + it.size ≤ 9223372036854775807 := by rw [ByteArray.size_append, ByteArray.size_append, ByteArray.size_append, s1, s2]; show 1 + (1 + (dg.size - 1)) + 1 + it.size ≤ _; omega
  have hc9 : (dg.extract 0 1 ++ (⟨#[101, 43]⟩ : ByteArray)).size + it.size ≤ 9223372036854775807 := by rw [ByteArray.size_append, s1]; show 1 + 2 + it.size ≤ _; omega
  have hcA : (dg.extract 0 1 ++ (⟨#[101]⟩ : ByteArray)).size + it.size ≤ 9223372036854775807 := by rw [ByteArray.size_append, s1]; show 1 + 1 + it.size ≤ _; omega
  clear s1 s2 hTs hits
  rcases hh with hh | hh
  · have d2 : decide (h ≤ 21) = false := decide_eq_false (by omega)
    have d3 : decide (1 ≤ h) = true := decide_eq_true (by omega)
    have d4 : decide (-5 ≤ h) = true := decide_eq_true (by omega)
    have d5 : decide (h ≤ 0) = false := decide_eq_false (by omega)
    by_cases c1 : (dg.size : Int) ≤ h
    · have d1 : decide ((dg.size : Int) ≤ h) = true := decide_eq_true c1
      rw [if_pos (by omega : 0 < h)]
      have dp : decide (0 < h) = true := decide_eq_true (by omega)
      unfold headT
      by_cases n1 : 1 < dg.size
      · rw [if_pos n1]
        have q1 : decide ((1 : Int) < ((dg.size : Nat) : Int)) = true := decide_eq_true (by omega)
        have q2 : decide (1 < dg.size) = true := decide_eq_true n1
        go_enter Tryd.func40, Tryd.ntmps40
        go_wp2_with fail
        with_reducible refine HI.out.mono ?_
        rintro e w2 ⟨rfl, hb2⟩
        have HB := Lib.hid hb2
        clear HI hb2
        go_wp2_with fail
        go_ret
        exact ⟨rfl, HB.out⟩
      · rw [if_neg n1]
        have q1 : decide ((1 : Int) < ((dg.size : Nat) : Int)) = false := decide_eq_false (by omega)
        have q2 : decide (1 < dg.size) = false := decide_eq_false n1
        go_enter Tryd.func40, Tryd.ntmps40
        go_wp2_with fail
        with_reducible refine HI.out.mono ?_
        rintro e w2 ⟨rfl, hb2⟩
        have HB := Lib.hid hb2
        clear HI hb2
        go_wp2_with fail
        go_ret
        exact ⟨rfl, HB.out⟩
    · have d1 : decide ((dg.size : Int) ≤ h) = false := decide_eq_false c1
      rw [if_pos (by omega : 0 < h)]
      have dp : decide (0 < h) = true := decide_eq_true (by omega)
      unfold headT
      by_cases n1 : 1 < dg.size
      · rw [if_pos n1]
        have q1 : decide ((1 : Int) < ((dg.size : Nat) : Int)) = true := decide_eq_true (by omega)
        have q2 : decide (1 < dg.size) = true := decide_eq_true n1
        go_enter Tryd.func40, Tryd.ntmps40
        go_wp2_with fail
        with_reducible refine HI.out.mono ?_
        rintro e w2 ⟨rfl, hb2⟩
        have HB := Lib.hid hb2
        clear HI hb2
        go_wp2_with fail
        go_ret
        exact ⟨rfl, HB.out⟩
      · rw [if_neg n1]
        have q1 : decide ((1 : Int) < ((dg.size : Nat) : Int)) = false := decide_eq_false (by omega)
        have q2 : decide (1 < dg.size) = false := decide_eq_false n1
        go_enter Tryd.func40, Tryd.ntmps40
        go_wp2_with fail
        with_reducible refine HI.out.mono ?_
        rintro e w2 ⟨rfl, hb2⟩
        have HB := Lib.hid hb2
        clear HI hb2
        go_wp2_with fail
        go_ret
        exact ⟨rfl, HB.out⟩
  · have d3 : decide (1 ≤ h) = false := decide_eq_false (by omega)
    have d4 : decide (-5 ≤ h) = false := decide_eq_false (by omega)
    have d1 : decide ((dg.size : Int) ≤ h) = false := decide_eq_false (by omega)
    rw [if_neg (by omega : ¬ 0 < h)]
    have dp : decide (0 < h) = false := decide_eq_false (by omega)
    unfold headT
    by_cases n1 : 1 < dg.size
    · rw [if_pos n1]
      have q1 : decide ((1 : Int) < ((dg.size : Nat) : Int)) = true := decide_eq_true (by omega)
      have q2 : decide (1 < dg.size) = true := decide_eq_true n1
      go_enter Tryd.func40, Tryd.ntmps40
      go_wp2_with fail
      with_reducible refine HI.out.mono ?_
      rintro e w2 ⟨rfl, hb2⟩
      have HB := Lib.hid hb2
      clear HI hb2
      go_wp2_with fail
      go_ret
      exact ⟨rfl, HB.out⟩
    · rw [if_neg n1]
      have q1 : decide ((1 : Int) < ((dg.size : Nat) : Int)) = false := decide_eq_false (by omega)
      have q2 : decide (1 < dg.size) = false := decide_eq_false n1
      go_enter Tryd.func40, Tryd.ntmps40
      go_wp2_with fail
      with_reducible refine HI.out.mono ?_
      rintro e w2 ⟨rfl, hb2⟩
      have HB := Lib.hid hb2
      clear HI hb2
      go_wp2_with fail
      go_ret
      exact ⟨rfl, HB.out⟩
end Go.Proofs.YtpnhgggdjlglnaaDoor.dk
