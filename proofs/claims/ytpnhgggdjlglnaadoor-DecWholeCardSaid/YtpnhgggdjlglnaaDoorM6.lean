/- The walk of DecWhole. -/
import Derived.Test.YtpnhgggdjlglnaaDoorM5
import Derived.Test.YtpnhgggdjlglnaaDoorF0
import Derived.Deep.DeepCutAuto
import Derived.Deep.CutBlock
namespace Go.Proofs.YtpnhgggdjlglnaaDoor.dk
open Go.PlainAid Go.ChangeShapes Go.WideShapes Go.ChangeAt Go.RowKit

theorem andm65535 (n : Int) : bits .and .i64 n 65535 = n % 65536 := by
  have h127 : (BitVec.ofInt 64 65535).toNat = 2 ^ 16 - 1 := by decide
  have key : (BitVec.ofInt 64 n &&& BitVec.ofInt 64 65535).toNat = (n % ((2 ^ 64 : Nat) : Int)).toNat % 2 ^ 16 := by
    rw [BitVec.toNat_and, BitVec.toNat_ofInt, h127, Nat.and_two_pow_sub_one_eq_mod]
  show IntKind.i64.wrap ((BitVec.ofInt 64 n &&& BitVec.ofInt 64 65535).toNat : Nat) = n % 65536
  rw [key, IntKind.wrap_i64]
  omega
theorem andm16777215 (n : Int) : bits .and .i64 n 16777215 = n % 16777216 := by
  have h127 : (BitVec.ofInt 64 16777215).toNat = 2 ^ 24 - 1 := by decide
  have key : (BitVec.ofInt 64 n &&& BitVec.ofInt 64 16777215).toNat = (n % ((2 ^ 64 : Nat) : Int)).toNat % 2 ^ 24 := by
    rw [BitVec.toNat_and, BitVec.toNat_ofInt, h127, Nat.and_two_pow_sub_one_eq_mod]
  show IntKind.i64.wrap ((BitVec.ofInt 64 n &&& BitVec.ofInt 64 16777215).toNat : Nat) = n % 16777216
  rw [key, IntKind.wrap_i64]
  omega
set_option maxRecDepth 100000 in
set_option maxHeartbeats 4000000 in
theorem whole_lt (w : World) (a b x y : Int) (hx : bits .and .i64 a 16777215 = x) (hy : IntKind.i64.wrap (bits .and .i64 b 16777215 - 8388608) = y) (x0 : 0 ≤ x) (x1 : x < 16777216) (y0 : -8388608 ≤ y) (y1 : y < 8388608) (xn yn sn pn : Bool) (xd yd sd pd : ByteArray) (xe ye se pe : Int) (o1 : fmd (decide (x < 0)) (itd x) 0 = #[.bool xn, .string xd, .int .i64 xe]) (o2 : fmd (decide (y < 0)) (itd y) 0 = #[.bool yn, .string yd, .int .i64 ye]) (a1 : addP ⟨xn, xd, xe⟩ ⟨yn, yd, ye⟩ = (⟨sn, sd, se⟩, 0)) (a2 : mulP ⟨xn, xd, xe⟩ ⟨yn, yd, ye⟩ = (⟨pn, pd, pe⟩, 0)) (i1 : intV ⟨sn, sd, se⟩ = .tuple #[.int .i64 (x + y), .bool true]) (i2 : intV ⟨pn, pd, pe⟩ = .tuple #[.int .i64 (x * y), .bool true]) (hc : cmpN ⟨xn, xd, xe⟩ ⟨yn, yd, ye⟩ = -1) (sx : xd.size ≤ 40) (sy : yd.size ≤ 40) (ss : sd.size ≤ 40) (sp : pd.size ≤ 40) (hcmp : x < y) (wm : IntKind.i64.wrap (x * y) = x * y) (ht : TabB w) :
    Calls Tryd.prog 7 #[.int .i64 a, .int .i64 b] w fun e w' => e = .returned (.bool true) ∧ Below w.heap.size w w' := by
  have HOx := Lib.hid (fun v h => Of_any v x (by omega) (by omega) h)
  have HOy := Lib.hid (fun v h => Of_any v y (by omega) (by omega) h)
  rw [o1] at HOx
  rw [o2] at HOy
  have HA := Lib.hid (fun v => Add_pair v xn xd xe yn yd ye (by omega) (by omega))
  have HM := Lib.hid (fun v => Mul_pair v xn xd xe yn yd ye (by omega) (by omega))
  rw [a1] at HA
  rw [a2] at HM
  have hI1 : ∀ v, Calls Tryd.prog 22 #[.agg #[.bool sn, .string sd, .int .i64 se]] v fun e w' => e = .returned (intV ⟨sn, sd, se⟩) ∧ Below v.heap.size v w' := fun v => Int_any v ⟨sn, sd, se⟩ (by show sd.size ≤ 1000000; omega)
  have hI2 : ∀ v, Calls Tryd.prog 22 #[.agg #[.bool pn, .string pd, .int .i64 pe]] v fun e w' => e = .returned (intV ⟨pn, pd, pe⟩) ∧ Below v.heap.size v w' := fun v => Int_any v ⟨pn, pd, pe⟩ (by show pd.size ≤ 1000000; omega)
  rw [i1] at hI1
  rw [i2] at hI2
  have HI1 := Lib.hid hI1
  have HI2 := Lib.hid hI2
  have HC := Lib.hid (compare_is hc (by show xd.size ≤ 1000000; omega) (by show yd.size ≤ 1000000; omega))
  have wa : IntKind.i64.wrap (x + y) = x + y := by rw [IntKind.wrap_i64]; omega
  have f1 : decide (x < y) = true := decide_eq_true hcmp
  have f2 : decide (y < x) = false := decide_eq_false (by omega)
  clear hcmp
  have HT := Lib.hid ht
  have HB := Lib.hid (Below.refl w.heap.size w)
  clear ht o1 o2 a1 a2 i1 i2 hI1 hI2 hc sx sy ss sp x0 x1 y0 y1
  go_enter Tryd.func7, Tryd.ntmps7
  go_wp2_with fail
  with_reducible refine (awake_any _ HT.out).mono ?_
  rintro e u1 ⟨rfl, hb⟩
  have X2 := Lib.hid (TabB.below HT.out hb)
  have B3 := Lib.hid (HB.out.trans (hb.mono HB.out.size))
  clear hb HT HB
  go_wp2_with fail
  with_reducible refine (HOx.out _ X2.out).mono ?_
  rintro e u4 ⟨rfl, hb⟩
  have X5 := Lib.hid (TabB.below X2.out hb)
  have B6 := Lib.hid (B3.out.trans (hb.mono B3.out.size))
  clear hb X2 B3
  go_wp2_with fail
  with_reducible refine (HOy.out _ X5.out).mono ?_
  rintro e u7 ⟨rfl, hb⟩
  have X8 := Lib.hid (TabB.below X5.out hb)
  have B9 := Lib.hid (B6.out.trans (hb.mono B6.out.size))
  clear hb X5 B6
  go_wp2_with fail
  with_reducible refine (HA.out _).mono ?_
  rintro e u10 ⟨rfl, hb⟩
  have X11 := Lib.hid (TabB.below X8.out hb)
  have B12 := Lib.hid (B9.out.trans (hb.mono B9.out.size))
  clear hb X8 B9
  unfold pairV
  obtain ⟨u13, hwv, hr, hb⟩ := boxed3 u10 (.bool sn) (.string sd) (.int .i64 se)
  have X14 := Lib.hid (TabB.below X11.out hb)
  have B15 := Lib.hid (B12.out.trans (hb.mono B12.out.size))
  have R16 := Lib.hid hr
  have HYW := Lib.hid hwv
  clear hb hr hwv X11 B12
  go_upto_region 5 with fail
  rw [← HYW.out]
  clear HYW
  go_wp2_with fail
  with_reducible refine (HOx.out _ X14.out).mono ?_
  rintro e u17 ⟨rfl, hb⟩
  have R18 := Lib.hid ((hb.block _ (lt_of_block R16.out)).trans R16.out)
  have X19 := Lib.hid (TabB.below X14.out hb)
  have B20 := Lib.hid (B15.out.trans (hb.mono B15.out.size))
  clear hb R16 X14 B15
  go_wp2_with fail
  with_reducible refine (HOy.out _ X19.out).mono ?_
  rintro e u21 ⟨rfl, hb⟩
  have R22 := Lib.hid ((hb.block _ (lt_of_block R18.out)).trans R18.out)
  have X23 := Lib.hid (TabB.below X19.out hb)
  have B24 := Lib.hid (B20.out.trans (hb.mono B20.out.size))
  clear hb R18 X19 B20
  go_wp2_with fail
  with_reducible refine (HM.out _).mono ?_
  rintro e u25 ⟨rfl, hb⟩
  have R26 := Lib.hid ((hb.block _ (lt_of_block R22.out)).trans R22.out)
  have X27 := Lib.hid (TabB.below X23.out hb)
  have B28 := Lib.hid (B24.out.trans (hb.mono B24.out.size))
  clear hb R22 X23 B24
  unfold pairV
  obtain ⟨u29, hwv, hr, hb⟩ := boxed3 u25 (.bool pn) (.string pd) (.int .i64 pe)
  have R30 := Lib.hid ((hb.block _ (lt_of_block R26.out)).trans R26.out)
  have X31 := Lib.hid (TabB.below X27.out hb)
  have B32 := Lib.hid (B28.out.trans (hb.mono B28.out.size))
  have R33 := Lib.hid hr
  have HYW := Lib.hid hwv
  clear hb hr hwv R26 X27 B28
  go_upto_region 6 with fail
  rw [← HYW.out]
  clear HYW
  obtain ⟨⟨c34, c35, c36⟩, _⟩ := row3 R30.out
  go_wp2_with fail
  clear c34 c35 c36
  with_reducible refine (HI1.out _).mono ?_
  rintro e u37 ⟨rfl, hb⟩
  have R38 := Lib.hid ((hb.block _ (lt_of_block R30.out)).trans R30.out)
  have R39 := Lib.hid ((hb.block _ (lt_of_block R33.out)).trans R33.out)
  have X40 := Lib.hid (TabB.below X31.out hb)
  have B41 := Lib.hid (B32.out.trans (hb.mono B32.out.size))
  clear hb R30 R33 X31 B32
  obtain ⟨⟨c42, c43, c44⟩, _⟩ := row3 R39.out
  go_wp2_with fail
  clear c42 c43 c44
  with_reducible refine (HI2.out _).mono ?_
  rintro e u45 ⟨rfl, hb⟩
  have R46 := Lib.hid ((hb.block _ (lt_of_block R38.out)).trans R38.out)
  have R47 := Lib.hid ((hb.block _ (lt_of_block R39.out)).trans R39.out)
  have X48 := Lib.hid (TabB.below X40.out hb)
  have B49 := Lib.hid (B41.out.trans (hb.mono B41.out.size))
  clear hb R38 R39 X40 B41
  go_wp2_with fail
  with_reducible refine (HOx.out _ X48.out).mono ?_
  rintro e u50 ⟨rfl, hb⟩
  have R51 := Lib.hid ((hb.block _ (lt_of_block R46.out)).trans R46.out)
  have R52 := Lib.hid ((hb.block _ (lt_of_block R47.out)).trans R47.out)
  have X53 := Lib.hid (TabB.below X48.out hb)
  have B54 := Lib.hid (B49.out.trans (hb.mono B49.out.size))
  clear hb R46 R47 X48 B49
  go_wp2_with fail
  with_reducible refine (HOy.out _ X53.out).mono ?_
  rintro e u55 ⟨rfl, hb⟩
  have R56 := Lib.hid ((hb.block _ (lt_of_block R51.out)).trans R51.out)
  have R57 := Lib.hid ((hb.block _ (lt_of_block R52.out)).trans R52.out)
  have X58 := Lib.hid (TabB.below X53.out hb)
  have B59 := Lib.hid (B54.out.trans (hb.mono B54.out.size))
  clear hb R51 R52 X53 B54
  go_wp2_with fail
  with_reducible refine (HC.out _).mono ?_
  rintro e u60 ⟨rfl, hb⟩
  have R61 := Lib.hid ((hb.block _ (lt_of_block R56.out)).trans R56.out)
  have R62 := Lib.hid ((hb.block _ (lt_of_block R57.out)).trans R57.out)
  have X63 := Lib.hid (TabB.below X58.out hb)
  have B64 := Lib.hid (B59.out.trans (hb.mono B59.out.size))
  clear hb R56 R57 X58 B59
  go_wp2_with fail
  go_ret
  exact ⟨rfl, B64.out⟩
set_option maxRecDepth 100000 in
set_option maxHeartbeats 4000000 in
theorem whole_gt (w : World) (a b x y : Int) (hx : bits .and .i64 a 16777215 = x) (hy : IntKind.i64.wrap (bits .and .i64 b 16777215 - 8388608) = y) (x0 : 0 ≤ x) (x1 : x < 16777216) (y0 : -8388608 ≤ y) (y1 : y < 8388608) (xn yn sn pn : Bool) (xd yd sd pd : ByteArray) (xe ye se pe : Int) (o1 : fmd (decide (x < 0)) (itd x) 0 = #[.bool xn, .string xd, .int .i64 xe]) (o2 : fmd (decide (y < 0)) (itd y) 0 = #[.bool yn, .string yd, .int .i64 ye]) (a1 : addP ⟨xn, xd, xe⟩ ⟨yn, yd, ye⟩ = (⟨sn, sd, se⟩, 0)) (a2 : mulP ⟨xn, xd, xe⟩ ⟨yn, yd, ye⟩ = (⟨pn, pd, pe⟩, 0)) (i1 : intV ⟨sn, sd, se⟩ = .tuple #[.int .i64 (x + y), .bool true]) (i2 : intV ⟨pn, pd, pe⟩ = .tuple #[.int .i64 (x * y), .bool true]) (hc : cmpN ⟨xn, xd, xe⟩ ⟨yn, yd, ye⟩ = 1) (sx : xd.size ≤ 40) (sy : yd.size ≤ 40) (ss : sd.size ≤ 40) (sp : pd.size ≤ 40) (hcmp : y < x) (wm : IntKind.i64.wrap (x * y) = x * y) (ht : TabB w) :
    Calls Tryd.prog 7 #[.int .i64 a, .int .i64 b] w fun e w' => e = .returned (.bool true) ∧ Below w.heap.size w w' := by
  have HOx := Lib.hid (fun v h => Of_any v x (by omega) (by omega) h)
  have HOy := Lib.hid (fun v h => Of_any v y (by omega) (by omega) h)
  rw [o1] at HOx
  rw [o2] at HOy
  have HA := Lib.hid (fun v => Add_pair v xn xd xe yn yd ye (by omega) (by omega))
  have HM := Lib.hid (fun v => Mul_pair v xn xd xe yn yd ye (by omega) (by omega))
  rw [a1] at HA
  rw [a2] at HM
  have hI1 : ∀ v, Calls Tryd.prog 22 #[.agg #[.bool sn, .string sd, .int .i64 se]] v fun e w' => e = .returned (intV ⟨sn, sd, se⟩) ∧ Below v.heap.size v w' := fun v => Int_any v ⟨sn, sd, se⟩ (by show sd.size ≤ 1000000; omega)
  have hI2 : ∀ v, Calls Tryd.prog 22 #[.agg #[.bool pn, .string pd, .int .i64 pe]] v fun e w' => e = .returned (intV ⟨pn, pd, pe⟩) ∧ Below v.heap.size v w' := fun v => Int_any v ⟨pn, pd, pe⟩ (by show pd.size ≤ 1000000; omega)
  rw [i1] at hI1
  rw [i2] at hI2
  have HI1 := Lib.hid hI1
  have HI2 := Lib.hid hI2
  have HC := Lib.hid (compare_is hc (by show xd.size ≤ 1000000; omega) (by show yd.size ≤ 1000000; omega))
  have wa : IntKind.i64.wrap (x + y) = x + y := by rw [IntKind.wrap_i64]; omega
  have f1 : decide (x < y) = false := decide_eq_false (by omega)
  have f2 : decide (y < x) = true := decide_eq_true hcmp
  clear hcmp
  have HT := Lib.hid ht
  have HB := Lib.hid (Below.refl w.heap.size w)
  clear ht o1 o2 a1 a2 i1 i2 hI1 hI2 hc sx sy ss sp x0 x1 y0 y1
  go_enter Tryd.func7, Tryd.ntmps7
  go_wp2_with fail
  with_reducible refine (awake_any _ HT.out).mono ?_
  rintro e u1 ⟨rfl, hb⟩
  have X2 := Lib.hid (TabB.below HT.out hb)
  have B3 := Lib.hid (HB.out.trans (hb.mono HB.out.size))
  clear hb HT HB
  go_wp2_with fail
  with_reducible refine (HOx.out _ X2.out).mono ?_
  rintro e u4 ⟨rfl, hb⟩
  have X5 := Lib.hid (TabB.below X2.out hb)
  have B6 := Lib.hid (B3.out.trans (hb.mono B3.out.size))
  clear hb X2 B3
  go_wp2_with fail
  with_reducible refine (HOy.out _ X5.out).mono ?_
  rintro e u7 ⟨rfl, hb⟩
  have X8 := Lib.hid (TabB.below X5.out hb)
  have B9 := Lib.hid (B6.out.trans (hb.mono B6.out.size))
  clear hb X5 B6
  go_wp2_with fail
  with_reducible refine (HA.out _).mono ?_
  rintro e u10 ⟨rfl, hb⟩
  have X11 := Lib.hid (TabB.below X8.out hb)
  have B12 := Lib.hid (B9.out.trans (hb.mono B9.out.size))
  clear hb X8 B9
  unfold pairV
  obtain ⟨u13, hwv, hr, hb⟩ := boxed3 u10 (.bool sn) (.string sd) (.int .i64 se)
  have X14 := Lib.hid (TabB.below X11.out hb)
  have B15 := Lib.hid (B12.out.trans (hb.mono B12.out.size))
  have R16 := Lib.hid hr
  have HYW := Lib.hid hwv
  clear hb hr hwv X11 B12
  go_upto_region 5 with fail
  rw [← HYW.out]
  clear HYW
  go_wp2_with fail
  with_reducible refine (HOx.out _ X14.out).mono ?_
  rintro e u17 ⟨rfl, hb⟩
  have R18 := Lib.hid ((hb.block _ (lt_of_block R16.out)).trans R16.out)
  have X19 := Lib.hid (TabB.below X14.out hb)
  have B20 := Lib.hid (B15.out.trans (hb.mono B15.out.size))
  clear hb R16 X14 B15
  go_wp2_with fail
  with_reducible refine (HOy.out _ X19.out).mono ?_
  rintro e u21 ⟨rfl, hb⟩
  have R22 := Lib.hid ((hb.block _ (lt_of_block R18.out)).trans R18.out)
  have X23 := Lib.hid (TabB.below X19.out hb)
  have B24 := Lib.hid (B20.out.trans (hb.mono B20.out.size))
  clear hb R18 X19 B20
  go_wp2_with fail
  with_reducible refine (HM.out _).mono ?_
  rintro e u25 ⟨rfl, hb⟩
  have R26 := Lib.hid ((hb.block _ (lt_of_block R22.out)).trans R22.out)
  have X27 := Lib.hid (TabB.below X23.out hb)
  have B28 := Lib.hid (B24.out.trans (hb.mono B24.out.size))
  clear hb R22 X23 B24
  unfold pairV
  obtain ⟨u29, hwv, hr, hb⟩ := boxed3 u25 (.bool pn) (.string pd) (.int .i64 pe)
  have R30 := Lib.hid ((hb.block _ (lt_of_block R26.out)).trans R26.out)
  have X31 := Lib.hid (TabB.below X27.out hb)
  have B32 := Lib.hid (B28.out.trans (hb.mono B28.out.size))
  have R33 := Lib.hid hr
  have HYW := Lib.hid hwv
  clear hb hr hwv R26 X27 B28
  go_upto_region 6 with fail
  rw [← HYW.out]
  clear HYW
  obtain ⟨⟨c34, c35, c36⟩, _⟩ := row3 R30.out
  go_wp2_with fail
  clear c34 c35 c36
  with_reducible refine (HI1.out _).mono ?_
  rintro e u37 ⟨rfl, hb⟩
  have R38 := Lib.hid ((hb.block _ (lt_of_block R30.out)).trans R30.out)
  have R39 := Lib.hid ((hb.block _ (lt_of_block R33.out)).trans R33.out)
  have X40 := Lib.hid (TabB.below X31.out hb)
  have B41 := Lib.hid (B32.out.trans (hb.mono B32.out.size))
  clear hb R30 R33 X31 B32
  obtain ⟨⟨c42, c43, c44⟩, _⟩ := row3 R39.out
  go_wp2_with fail
  clear c42 c43 c44
  with_reducible refine (HI2.out _).mono ?_
  rintro e u45 ⟨rfl, hb⟩
  have R46 := Lib.hid ((hb.block _ (lt_of_block R38.out)).trans R38.out)
  have R47 := Lib.hid ((hb.block _ (lt_of_block R39.out)).trans R39.out)
  have X48 := Lib.hid (TabB.below X40.out hb)
  have B49 := Lib.hid (B41.out.trans (hb.mono B41.out.size))
  clear hb R38 R39 X40 B41
  go_wp2_with fail
  with_reducible refine (HOx.out _ X48.out).mono ?_
  rintro e u50 ⟨rfl, hb⟩
  have R51 := Lib.hid ((hb.block _ (lt_of_block R46.out)).trans R46.out)
  have R52 := Lib.hid ((hb.block _ (lt_of_block R47.out)).trans R47.out)
  have X53 := Lib.hid (TabB.below X48.out hb)
  have B54 := Lib.hid (B49.out.trans (hb.mono B49.out.size))
  clear hb R46 R47 X48 B49
  go_wp2_with fail
  with_reducible refine (HOy.out _ X53.out).mono ?_
  rintro e u55 ⟨rfl, hb⟩
  have R56 := Lib.hid ((hb.block _ (lt_of_block R51.out)).trans R51.out)
  have R57 := Lib.hid ((hb.block _ (lt_of_block R52.out)).trans R52.out)
  have X58 := Lib.hid (TabB.below X53.out hb)
  have B59 := Lib.hid (B54.out.trans (hb.mono B54.out.size))
  clear hb R51 R52 X53 B54
  go_wp2_with fail
  with_reducible refine (HC.out _).mono ?_
  rintro e u60 ⟨rfl, hb⟩
  have R61 := Lib.hid ((hb.block _ (lt_of_block R56.out)).trans R56.out)
  have R62 := Lib.hid ((hb.block _ (lt_of_block R57.out)).trans R57.out)
  have X63 := Lib.hid (TabB.below X58.out hb)
  have B64 := Lib.hid (B59.out.trans (hb.mono B59.out.size))
  clear hb R56 R57 X58 B59
  go_wp2_with fail
  go_ret
  exact ⟨rfl, B64.out⟩
set_option maxRecDepth 100000 in
set_option maxHeartbeats 4000000 in
theorem whole_eq (w : World) (a b x y : Int) (hx : bits .and .i64 a 16777215 = x) (hy : IntKind.i64.wrap (bits .and .i64 b 16777215 - 8388608) = y) (x0 : 0 ≤ x) (x1 : x < 16777216) (y0 : -8388608 ≤ y) (y1 : y < 8388608) (xn yn sn pn : Bool) (xd yd sd pd : ByteArray) (xe ye se pe : Int) (o1 : fmd (decide (x < 0)) (itd x) 0 = #[.bool xn, .string xd, .int .i64 xe]) (o2 : fmd (decide (y < 0)) (itd y) 0 = #[.bool yn, .string yd, .int .i64 ye]) (a1 : addP ⟨xn, xd, xe⟩ ⟨yn, yd, ye⟩ = (⟨sn, sd, se⟩, 0)) (a2 : mulP ⟨xn, xd, xe⟩ ⟨yn, yd, ye⟩ = (⟨pn, pd, pe⟩, 0)) (i1 : intV ⟨sn, sd, se⟩ = .tuple #[.int .i64 (x + y), .bool true]) (i2 : intV ⟨pn, pd, pe⟩ = .tuple #[.int .i64 (x * y), .bool true]) (hc : cmpN ⟨xn, xd, xe⟩ ⟨yn, yd, ye⟩ = 0) (sx : xd.size ≤ 40) (sy : yd.size ≤ 40) (ss : sd.size ≤ 40) (sp : pd.size ≤ 40) (hcmp : x = y) (wm : IntKind.i64.wrap (x * y) = x * y) (ht : TabB w) :
    Calls Tryd.prog 7 #[.int .i64 a, .int .i64 b] w fun e w' => e = .returned (.bool true) ∧ Below w.heap.size w w' := by
  have HOx := Lib.hid (fun v h => Of_any v x (by omega) (by omega) h)
  have HOy := Lib.hid (fun v h => Of_any v y (by omega) (by omega) h)
  rw [o1] at HOx
  rw [o2] at HOy
  have HA := Lib.hid (fun v => Add_pair v xn xd xe yn yd ye (by omega) (by omega))
  have HM := Lib.hid (fun v => Mul_pair v xn xd xe yn yd ye (by omega) (by omega))
  rw [a1] at HA
  rw [a2] at HM
  have hI1 : ∀ v, Calls Tryd.prog 22 #[.agg #[.bool sn, .string sd, .int .i64 se]] v fun e w' => e = .returned (intV ⟨sn, sd, se⟩) ∧ Below v.heap.size v w' := fun v => Int_any v ⟨sn, sd, se⟩ (by show sd.size ≤ 1000000; omega)
  have hI2 : ∀ v, Calls Tryd.prog 22 #[.agg #[.bool pn, .string pd, .int .i64 pe]] v fun e w' => e = .returned (intV ⟨pn, pd, pe⟩) ∧ Below v.heap.size v w' := fun v => Int_any v ⟨pn, pd, pe⟩ (by show pd.size ≤ 1000000; omega)
  rw [i1] at hI1
  rw [i2] at hI2
  have HI1 := Lib.hid hI1
  have HI2 := Lib.hid hI2
  have HC := Lib.hid (compare_is hc (by show xd.size ≤ 1000000; omega) (by show yd.size ≤ 1000000; omega))
  have wa : IntKind.i64.wrap (x + y) = x + y := by rw [IntKind.wrap_i64]; omega
  have f1 : decide (x < y) = false := decide_eq_false (by omega)
  have f2 : decide (y < x) = false := decide_eq_false (by omega)
  clear hcmp
  have HT := Lib.hid ht
  have HB := Lib.hid (Below.refl w.heap.size w)
  clear ht o1 o2 a1 a2 i1 i2 hI1 hI2 hc sx sy ss sp x0 x1 y0 y1
  go_enter Tryd.func7, Tryd.ntmps7
  go_wp2_with fail
  with_reducible refine (awake_any _ HT.out).mono ?_
  rintro e u1 ⟨rfl, hb⟩
  have X2 := Lib.hid (TabB.below HT.out hb)
  have B3 := Lib.hid (HB.out.trans (hb.mono HB.out.size))
  clear hb HT HB
  go_wp2_with fail
  with_reducible refine (HOx.out _ X2.out).mono ?_
  rintro e u4 ⟨rfl, hb⟩
  have X5 := Lib.hid (TabB.below X2.out hb)
  have B6 := Lib.hid (B3.out.trans (hb.mono B3.out.size))
  clear hb X2 B3
  go_wp2_with fail
  with_reducible refine (HOy.out _ X5.out).mono ?_
  rintro e u7 ⟨rfl, hb⟩
  have X8 := Lib.hid (TabB.below X5.out hb)
  have B9 := Lib.hid (B6.out.trans (hb.mono B6.out.size))
  clear hb X5 B6
  go_wp2_with fail
  with_reducible refine (HA.out _).mono ?_
  rintro e u10 ⟨rfl, hb⟩
  have X11 := Lib.hid (TabB.below X8.out hb)
  have B12 := Lib.hid (B9.out.trans (hb.mono B9.out.size))
  clear hb X8 B9
  unfold pairV
  obtain ⟨u13, hwv, hr, hb⟩ := boxed3 u10 (.bool sn) (.string sd) (.int .i64 se)
  have X14 := Lib.hid (TabB.below X11.out hb)
  have B15 := Lib.hid (B12.out.trans (hb.mono B12.out.size))
  have R16 := Lib.hid hr
  have HYW := Lib.hid hwv
  clear hb hr hwv X11 B12
  go_upto_region 5 with fail
  rw [← HYW.out]
  clear HYW
  go_wp2_with fail
  with_reducible refine (HOx.out _ X14.out).mono ?_
  rintro e u17 ⟨rfl, hb⟩
  have R18 := Lib.hid ((hb.block _ (lt_of_block R16.out)).trans R16.out)
  have X19 := Lib.hid (TabB.below X14.out hb)
  have B20 := Lib.hid (B15.out.trans (hb.mono B15.out.size))
  clear hb R16 X14 B15
  go_wp2_with fail
  with_reducible refine (HOy.out _ X19.out).mono ?_
  rintro e u21 ⟨rfl, hb⟩
  have R22 := Lib.hid ((hb.block _ (lt_of_block R18.out)).trans R18.out)
  have X23 := Lib.hid (TabB.below X19.out hb)
  have B24 := Lib.hid (B20.out.trans (hb.mono B20.out.size))
  clear hb R18 X19 B20
  go_wp2_with fail
  with_reducible refine (HM.out _).mono ?_
  rintro e u25 ⟨rfl, hb⟩
  have R26 := Lib.hid ((hb.block _ (lt_of_block R22.out)).trans R22.out)
  have X27 := Lib.hid (TabB.below X23.out hb)
  have B28 := Lib.hid (B24.out.trans (hb.mono B24.out.size))
  clear hb R22 X23 B24
  unfold pairV
  obtain ⟨u29, hwv, hr, hb⟩ := boxed3 u25 (.bool pn) (.string pd) (.int .i64 pe)
  have R30 := Lib.hid ((hb.block _ (lt_of_block R26.out)).trans R26.out)
  have X31 := Lib.hid (TabB.below X27.out hb)
  have B32 := Lib.hid (B28.out.trans (hb.mono B28.out.size))
  have R33 := Lib.hid hr
  have HYW := Lib.hid hwv
  clear hb hr hwv R26 X27 B28
  go_upto_region 6 with fail
  rw [← HYW.out]
  clear HYW
  obtain ⟨⟨c34, c35, c36⟩, _⟩ := row3 R30.out
  go_wp2_with fail
  clear c34 c35 c36
  with_reducible refine (HI1.out _).mono ?_
  rintro e u37 ⟨rfl, hb⟩
  have R38 := Lib.hid ((hb.block _ (lt_of_block R30.out)).trans R30.out)
  have R39 := Lib.hid ((hb.block _ (lt_of_block R33.out)).trans R33.out)
  have X40 := Lib.hid (TabB.below X31.out hb)
  have B41 := Lib.hid (B32.out.trans (hb.mono B32.out.size))
  clear hb R30 R33 X31 B32
  obtain ⟨⟨c42, c43, c44⟩, _⟩ := row3 R39.out
  go_wp2_with fail
  clear c42 c43 c44
  with_reducible refine (HI2.out _).mono ?_
  rintro e u45 ⟨rfl, hb⟩
  have R46 := Lib.hid ((hb.block _ (lt_of_block R38.out)).trans R38.out)
  have R47 := Lib.hid ((hb.block _ (lt_of_block R39.out)).trans R39.out)
  have X48 := Lib.hid (TabB.below X40.out hb)
  have B49 := Lib.hid (B41.out.trans (hb.mono B41.out.size))
  clear hb R38 R39 X40 B41
  go_wp2_with fail
  with_reducible refine (HOx.out _ X48.out).mono ?_
  rintro e u50 ⟨rfl, hb⟩
  have R51 := Lib.hid ((hb.block _ (lt_of_block R46.out)).trans R46.out)
  have R52 := Lib.hid ((hb.block _ (lt_of_block R47.out)).trans R47.out)
  have X53 := Lib.hid (TabB.below X48.out hb)
  have B54 := Lib.hid (B49.out.trans (hb.mono B49.out.size))
  clear hb R46 R47 X48 B49
  go_wp2_with fail
  with_reducible refine (HOy.out _ X53.out).mono ?_
  rintro e u55 ⟨rfl, hb⟩
  have R56 := Lib.hid ((hb.block _ (lt_of_block R51.out)).trans R51.out)
  have R57 := Lib.hid ((hb.block _ (lt_of_block R52.out)).trans R52.out)
  have X58 := Lib.hid (TabB.below X53.out hb)
  have B59 := Lib.hid (B54.out.trans (hb.mono B54.out.size))
  clear hb R51 R52 X53 B54
  go_wp2_with fail
  with_reducible refine (HC.out _).mono ?_
  rintro e u60 ⟨rfl, hb⟩
  have R61 := Lib.hid ((hb.block _ (lt_of_block R56.out)).trans R56.out)
  have R62 := Lib.hid ((hb.block _ (lt_of_block R57.out)).trans R57.out)
  have X63 := Lib.hid (TabB.below X58.out hb)
  have B64 := Lib.hid (B59.out.trans (hb.mono B59.out.size))
  clear hb R56 R57 X58 B59
  go_wp2_with fail
  go_ret
  exact ⟨rfl, B64.out⟩
end Go.Proofs.YtpnhgggdjlglnaaDoor.dk
