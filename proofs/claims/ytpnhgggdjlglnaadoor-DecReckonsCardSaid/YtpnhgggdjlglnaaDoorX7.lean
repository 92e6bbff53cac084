/- Int. -/
import Derived.Test.YtpnhgggdjlglnaaDoorX6
import Derived.Deep.DeepCutAuto
import Derived.Deep.CutBlock
namespace Go.Proofs.YtpnhgggdjlglnaaDoor.dk
open Go.PlainAid Go.ChangeShapes Go.WideShapes Go.ChangeAt Go.RowKit

/-- The number of the j highest powers' digits. -/
def tsum (l : List Int) (ex : Int) : Nat → Int
  | 0 => 0
  | j + 1 => tsum l ex j * 10 + dat l ex ((l.length : Int) + ex - 1 - (j : Int))
theorem tsum_range (l : List Int) (ex : Int) (hd : ∀ x ∈ l, isDig x = true) : ∀ j, 0 ≤ tsum l ex j ∧ tsum l ex j < 10 ^ j
  | 0 => by
    show (0 : Int) ≤ 0 ∧ (0 : Int) < 10 ^ 0
    decide
  | j + 1 => by
    have h1 := tsum_range l ex hd j
    have h2 := dat_range l ex ((l.length : Int) + ex - 1 - (j : Int)) hd
    show 0 ≤ tsum l ex j * 10 + dat l ex ((l.length : Int) + ex - 1 - (j : Int)) ∧ tsum l ex j * 10 + dat l ex ((l.length : Int) + ex - 1 - (j : Int)) < 10 ^ (j + 1)
    rw [Int.pow_succ]
    omega
/-- A number as a whole one, and whether it is one. -/
def intV (a : Nm) : Value := if a.ok = true ∧ 0 ≤ a.ex ∧ (a.dg.size : Int) + a.ex ≤ 15 then .tuple #[.int .i64 (if a.neg then - tsum (unstr a.dg) a.ex ((a.dg.size : Int) + a.ex).toNat else tsum (unstr a.dg) a.ex ((a.dg.size : Int) + a.ex).toNat), .bool true] else .tuple #[.int .i64 0, .bool false]
theorem pow15 {j : Nat} (h : j ≤ 15) : (10 : Int) ^ j ≤ 1000000000000000 := by
  have := ten_mono h
  exact Int.le_trans this (by decide)
set_option maxRecDepth 100000 in
set_option maxHeartbeats 2000000 in
theorem Int_bad (w : World) (n1 : Bool) (d1 : ByteArray) (e1 : Int) (s1 : d1.size ≤ 1000000) (h1 : dsane n1 (unstr d1) e1 = false) :
    Calls Tryd.prog 22 #[.agg #[.bool n1, .string d1, .int .i64 e1]] w fun e w' => e = .returned (.tuple #[.int .i64 0, .bool false]) ∧ Below w.heap.size w w' := by
  obtain ⟨wa, hwa⟩ : ∃ wa, wa = w.alloc (.cells #[.bool n1, .string d1, .int .i64 e1] 23) := ⟨_, rfl⟩
  have r1 : wa.heap[w.heap.size]? = some (.cells #[.bool n1, .string d1, .int .i64 e1] 23 (0, 0)) := by rw [hwa]; exact heap_alloc_new _ _
  have hB : Below w.heap.size w wa := by rw [hwa]; exact (Below.refl _ _).alloc (Nat.le_refl _) _
  have HS1 := Lib.hid (fun v => Sane_any v n1 d1 e1 (by omega))
  have HW := Lib.hid hwa
  have HR1 := Lib.hid r1
  have HB := Lib.hid hB
  obtain ⟨⟨x0, x1, x2⟩, _⟩ := row3 r1
  clear hwa r1 hB
  rw [h1] at HS1
  clear h1
  go_enter Tryd.func22, Tryd.ntmps22
  go_upto_region 1 with fail
  rw [← HW.out]
  clear HW
  go_wp2_with fail
  with_reducible refine (HS1.out _).mono ?_
  rintro e w2 ⟨rfl, hb2⟩
  have HT1 := Lib.hid ((hb2.block _ (lt_of_block HR1.out)).trans HR1.out)
  have HK := Lib.hid (HB.out.trans (hb2.mono HB.out.size))
  clear x0 x1 x2 hb2 HR1 HB HS1
  obtain ⟨⟨x0, x1, x2⟩, _⟩ := row3 HT1.out
  go_wp2_with fail
  go_ret2
  exact ⟨rfl, HK.out⟩
set_option maxRecDepth 100000 in
set_option maxHeartbeats 2000000 in
theorem Int_neg (w : World) (n1 : Bool) (d1 : ByteArray) (e1 : Int) (s1 : d1.size ≤ 1000000) (h1 : dsane n1 (unstr d1) e1 = true) (hx : e1 < 0) :
    Calls Tryd.prog 22 #[.agg #[.bool n1, .string d1, .int .i64 e1]] w fun e w' => e = .returned (.tuple #[.int .i64 0, .bool false]) ∧ Below w.heap.size w w' := by
  have dx : decide (e1 < 0) = true := decide_eq_true hx
  obtain ⟨wa, hwa⟩ : ∃ wa, wa = w.alloc (.cells #[.bool n1, .string d1, .int .i64 e1] 23) := ⟨_, rfl⟩
  have r1 : wa.heap[w.heap.size]? = some (.cells #[.bool n1, .string d1, .int .i64 e1] 23 (0, 0)) := by rw [hwa]; exact heap_alloc_new _ _
  have hB : Below w.heap.size w wa := by rw [hwa]; exact (Below.refl _ _).alloc (Nat.le_refl _) _
  have HS1 := Lib.hid (fun v => Sane_any v n1 d1 e1 (by omega))
  have HW := Lib.hid hwa
  have HR1 := Lib.hid r1
  have HB := Lib.hid hB
  obtain ⟨⟨x0, x1, x2⟩, _⟩ := row3 r1
  clear hwa r1 hB
  rw [h1] at HS1
  clear h1
  go_enter Tryd.func22, Tryd.ntmps22
  go_upto_region 1 with fail
  rw [← HW.out]
  clear HW
  go_wp2_with fail
  with_reducible refine (HS1.out _).mono ?_
  rintro e w2 ⟨rfl, hb2⟩
  have HT1 := Lib.hid ((hb2.block _ (lt_of_block HR1.out)).trans HR1.out)
  have HK := Lib.hid (HB.out.trans (hb2.mono HB.out.size))
  clear x0 x1 x2 hb2 HR1 HB HS1
  obtain ⟨⟨x0, x1, x2⟩, _⟩ := row3 HT1.out
  go_wp2_with fail
  go_ret2
  exact ⟨rfl, HK.out⟩
set_option maxRecDepth 100000 in
set_option maxHeartbeats 2000000 in
theorem Int_far (w : World) (n1 : Bool) (d1 : ByteArray) (e1 : Int) (s1 : d1.size ≤ 1000000) (h1 : dsane n1 (unstr d1) e1 = true) (hx : ¬ e1 < 0) (hf : 15 < (d1.size : Int) + e1) :
    Calls Tryd.prog 22 #[.agg #[.bool n1, .string d1, .int .i64 e1]] w fun e w' => e = .returned (.tuple #[.int .i64 0, .bool false]) ∧ Below w.heap.size w w' := by
  have dx : decide (e1 < 0) = false := decide_eq_false hx
  have df : decide ((15 : Int) < (d1.size : Int) + e1) = true := decide_eq_true hf
  obtain ⟨k1, k2, k3⟩ := dsane_any h1
  have HH := Lib.hid (fun v => height_any v n1 d1 e1 (by omega) (by omega) (by omega))
  obtain ⟨wa, hwa⟩ : ∃ wa, wa = w.alloc (.cells #[.bool n1, .string d1, .int .i64 e1] 23) := ⟨_, rfl⟩
  have r1 : wa.heap[w.heap.size]? = some (.cells #[.bool n1, .string d1, .int .i64 e1] 23 (0, 0)) := by rw [hwa]; exact heap_alloc_new _ _
  have hB : Below w.heap.size w wa := by rw [hwa]; exact (Below.refl _ _).alloc (Nat.le_refl _) _
  have HS1 := Lib.hid (fun v => Sane_any v n1 d1 e1 (by omega))
  have HW := Lib.hid hwa
  have HR1 := Lib.hid r1
  have HB := Lib.hid hB
  obtain ⟨⟨x0, x1, x2⟩, _⟩ := row3 r1
  clear hwa r1 hB
  rw [h1] at HS1
  clear h1
  go_enter Tryd.func22, Tryd.ntmps22
  go_upto_region 1 with fail
  rw [← HW.out]
  clear HW
  go_wp2_with fail
  with_reducible refine (HS1.out _).mono ?_
  rintro e w2 ⟨rfl, hb2⟩
  have HT1 := Lib.hid ((hb2.block _ (lt_of_block HR1.out)).trans HR1.out)
  have HK := Lib.hid (HB.out.trans (hb2.mono HB.out.size))
  clear x0 x1 x2 hb2 HR1 HB HS1
  obtain ⟨⟨x0, x1, x2⟩, _⟩ := row3 HT1.out
  go_wp2_with fail
  with_reducible refine (HH.out _).mono ?_
  rintro e w3 ⟨rfl, hb3⟩
  have HU1 := Lib.hid ((hb3.block _ (lt_of_block HT1.out)).trans HT1.out)
  have HL := Lib.hid (HK.out.trans (hb3.mono HK.out.size))
  clear x0 x1 x2 hb3 HT1 HK
  go_wp2_with fail
  go_ret2
  exact ⟨rfl, HL.out⟩
set_option maxRecDepth 100000 in
set_option maxHeartbeats 2000000 in
theorem Int_yes (w : World) (n1 : Bool) (d1 : ByteArray) (e1 : Int) (s1 : d1.size ≤ 1000000) (h1 : dsane n1 (unstr d1) e1 = true) (hx : ¬ e1 < 0) (hf : ¬ 15 < (d1.size : Int) + e1) :
    Calls Tryd.prog 22 #[.agg #[.bool n1, .string d1, .int .i64 e1]] w fun e w' => e = .returned (.tuple #[.int .i64 (if n1 then - tsum (unstr d1) e1 ((d1.size : Int) + e1).toNat else tsum (unstr d1) e1 ((d1.size : Int) + e1).toNat), .bool true]) ∧ Below w.heap.size w w' := by
  have HGd := Lib.hid (dsane_digs h1)
  generalize hvv : tsum (unstr d1) e1 ((d1.size : Int) + e1).toNat = vv
  have HVv := Lib.hid hvv
  clear hvv
  have dx : decide (e1 < 0) = false := decide_eq_false hx
  have df : decide ((15 : Int) < (d1.size : Int) + e1) = false := decide_eq_false hf
  obtain ⟨k1, k2, k3⟩ := dsane_any h1
  have HH := Lib.hid (fun v => height_any v n1 d1 e1 (by omega) (by omega) (by omega))
  obtain ⟨wa, hwa⟩ : ∃ wa, wa = w.alloc (.cells #[.bool n1, .string d1, .int .i64 e1] 23) := ⟨_, rfl⟩
  have r1 : wa.heap[w.heap.size]? = some (.cells #[.bool n1, .string d1, .int .i64 e1] 23 (0, 0)) := by rw [hwa]; exact heap_alloc_new _ _
  have hB : Below w.heap.size w wa := by rw [hwa]; exact (Below.refl _ _).alloc (Nat.le_refl _) _
  have HS1 := Lib.hid (fun v => Sane_any v n1 d1 e1 (by omega))
  have HW := Lib.hid hwa
  have HR1 := Lib.hid r1
  have HB := Lib.hid hB
  obtain ⟨⟨x0, x1, x2⟩, _⟩ := row3 r1
  clear hwa r1 hB
  rw [h1] at HS1
  clear h1
  go_enter Tryd.func22, Tryd.ntmps22
  go_upto_region 1 with fail
  rw [← HW.out]
  clear HW
  go_wp2_with fail
  with_reducible refine (HS1.out _).mono ?_
  rintro e w2 ⟨rfl, hb2⟩
  have HT1 := Lib.hid ((hb2.block _ (lt_of_block HR1.out)).trans HR1.out)
  have HK := Lib.hid (HB.out.trans (hb2.mono HB.out.size))
  clear x0 x1 x2 hb2 HR1 HB HS1
  obtain ⟨⟨x0, x1, x2⟩, _⟩ := row3 HT1.out
  go_wp2_with fail
  with_reducible refine (HH.out _).mono ?_
  rintro e w3 ⟨rfl, hb3⟩
  have HU1 := Lib.hid ((hb3.block _ (lt_of_block HT1.out)).trans HT1.out)
  have HL := Lib.hid (HK.out.trans (hb3.mono HK.out.size))
  clear x0 x1 x2 hb3 HT1 HK
  obtain ⟨⟨x0, x1, x2⟩, _⟩ := row3 HU1.out
  go_wp2_with fail
  with_reducible refine (digitsOf_any _ n1 d1 e1 (by omega) (by omega) (by omega)).mono ?_
  rintro e w4 ⟨g1, j1, rfl, lg1, lh1, rg1, rh1, hb4⟩
  have HV1 := Lib.hid ((hb4.block _ (lt_of_block HU1.out)).trans HU1.out)
  have HM := Lib.hid (HL.out.trans (hb4.mono HL.out.size))
  have HQ := Lib.hid (And.intro rg1 rh1)
  clear x0 x1 x2 hb4 HU1 HL rg1 rh1 lg1 lh1
  obtain ⟨⟨x0, x1, x2⟩, _⟩ := row3 HV1.out
  go_wp2_with fail
  with_reducible refine (HH.out _).mono ?_
  rintro e w5 ⟨rfl, hb5⟩
  have HX1 := Lib.hid ((hb5.block _ (lt_of_block HV1.out)).trans HV1.out)
  have HN := Lib.hid (HM.out.trans (hb5.mono HM.out.size))
  have hq2 : Boxed w5 j1 3 (.int .i64 ((d1.size : Int) + e1)) := (hb5.block _ HQ.out.2.lt).trans HQ.out.2
  have HP := Lib.hid (And.intro ((hb5.block _ (lt_of_block HQ.out.1)).trans HQ.out.1) hq2)
  clear x0 x1 x2 hb5 hq2 HV1 HM HQ HH
  obtain ⟨m, hm⟩ : ∃ m : Nat, (m : Int) = (d1.size : Int) + e1 := ⟨((d1.size : Int) + e1).toNat, by omega⟩
  have hmt : ((d1.size : Int) + e1).toNat = m := by omega
  have wm : IntKind.i64.wrap ((d1.size : Int) + e1 - 1) = (m : Int) - 1 := by rw [IntKind.wrap_i64]; omega
  obtain ⟨T, hT⟩ : ∃ T, T = tsum (unstr d1) e1 := ⟨_, rfl⟩
  have hTs : ∀ j, T (j + 1) = T j * 10 + dat (unstr d1) e1 ((m : Int) - 1 - (j : Int)) := fun j => by
    rw [hT, hm]
    show _ = tsum (unstr d1) e1 j * 10 + dat (unstr d1) e1 _
    rw [← unstr_length]
    rfl
  have hTr : ∀ j : Nat, j ≤ 15 → 0 ≤ T j ∧ T j ≤ 1000000000000000 := fun j hj => by
    have h1 := tsum_range (unstr d1) e1 HGd.out j
    have h2 := pow15 hj
    rw [hT]
    omega
  have HTs := Lib.hid hTs
  have HTr := Lib.hid hTr
  have HT0 := Lib.hid (show T 0 = 0 by rw [hT]; rfl)
  have HTe := Lib.hid (show T m = vv by rw [hT, ← hmt]; exact HVv.out)
  have HMm := Lib.hid hm
  clear hT hTs hTr hm hmt
  go_wp2_with fail
  go_loopw [4, 6] (fun nv pv wr => ∃ j : Nat, j ≤ m ∧ nv = .int .i64 (T j) ∧ pv = .int .i64 ((m : Int) - 1 - (j : Int)) ∧ wr = w5) (fun _ p _ => (intOf p + 1).toNat)
  case atStart => exact ⟨0, Nat.zero_le _, by rw [HT0.out], by go_num, rfl⟩
  case round =>
    obtain ⟨j, hj, rfl, rfl, rfl⟩ := hrel
    have hm := HMm.out
    by_cases hjm : j < m
    · have D := Lib.hid (dat_any _ g1 j1 n1 d1 e1 ((m : Int) - 1 - (j : Int)) HGd.out (by omega) (by omega) (by omega) (by omega) (by omega) HP.out.1 HP.out.2)
      have dj : decide ((0 : Int) ≤ (m : Int) - 1 - (j : Int)) = true := decide_eq_true (by omega)
      have q := dat_range (unstr d1) e1 ((m : Int) - 1 - (j : Int)) HGd.out
      have qT := HTr.out j (by omega)
      have HSt := Lib.hid (HTs.out j)
      generalize dat (unstr d1) e1 ((m : Int) - 1 - (j : Int)) = da at q D HSt
      generalize T j = tj at qT HSt ⊢
      have w1 : IntKind.i64.wrap (tj * 10) = tj * 10 := by rw [IntKind.wrap_i64]; omega
      have w2 : IntKind.i64.wrap (tj * 10 + da) = tj * 10 + da := by rw [IntKind.wrap_i64]; omega
      have w3 : IntKind.i64.wrap ((m : Int) - 1 - (j : Int) - 1) = (m : Int) - 1 - (j : Int) - 1 := by rw [IntKind.wrap_i64]; omega
      have HE := Lib.hid (And.intro (show (m : Int) - 1 - (j : Int) - 1 = (m : Int) - 1 - ((j + 1 : Nat) : Int) by omega) (show ((m : Int) - 1 - (j : Int) - 1 + 1).toNat < ((m : Int) - 1 - (j : Int) + 1).toNat by omega))
      clear q qT hm
      go_wp2_with fail
      with_reducible refine D.out.mono ?_
      rintro e wx ⟨rfl, rfl⟩
      go_wp2_with fail
      refine ⟨⟨j + 1, by omega, ?_, ?_, ?_⟩, ?_⟩
      · rw [HSt.out]
      · rw [HE.out.1]
      · first | rfl | trivial
      · exact HE.out.2
    · have dj : decide ((0 : Int) ≤ (m : Int) - 1 - (j : Int)) = false := decide_eq_false (by omega)
      obtain rfl : j = m := by omega
      obtain ⟨⟨x0, x1, x2⟩, _⟩ := row3 HX1.out
      have qT := HTr.out j (by omega)
      rw [HTe.out] at qT ⊢
      have w1 : IntKind.i64.wrap (-vv) = -vv := by rw [IntKind.wrap_i64]; omega
      clear hm HP qT
      cases n1 with
      | true =>
        go_wp2_with fail
        go_ret2
        exact ⟨rfl, HN.out⟩
      | false =>
        go_wp2_with fail
        go_ret2
        exact ⟨rfl, HN.out⟩
theorem Int_any (w : World) (a : Nm) (s1 : a.dg.size ≤ 1000000) :
    Calls Tryd.prog 22 #[a.v] w fun e w' => e = .returned (intV a) ∧ Below w.heap.size w w' := by
  obtain ⟨n1, d1, e1⟩ := a
  unfold intV
  show Calls _ _ #[.agg #[.bool n1, .string d1, .int .i64 e1]] _ _
  by_cases h1 : dsane n1 (unstr d1) e1 = true
  · by_cases hx : e1 < 0
    · rw [if_neg fun h => absurd h.2.1 (by show ¬ 0 ≤ e1; omega)]
      exact Int_neg w n1 d1 e1 s1 h1 hx
    · by_cases hf : 15 < (d1.size : Int) + e1
      · rw [if_neg fun h => absurd h.2.2 (by show ¬ (d1.size : Int) + e1 ≤ 15; omega)]
        exact Int_far w n1 d1 e1 s1 h1 hx hf
      · rw [if_pos ⟨h1, by show 0 ≤ e1; omega, by show (d1.size : Int) + e1 ≤ 15; omega⟩]
        exact Int_yes w n1 d1 e1 s1 h1 hx hf
  · rw [if_neg fun h => h1 h.1]
    exact Int_bad w n1 d1 e1 s1 (by simpa using h1)
end Go.Proofs.YtpnhgggdjlglnaaDoor.dk
