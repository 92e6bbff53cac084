/- The walk of DecPoints. -/
import Derived.Test.YtpnhgggdjlglnaaDoorMc
import Derived.Test.YtpnhgggdjlglnaaDoorF0
import Derived.Deep.DeepCutAuto
import Derived.Deep.CutBlock
namespace Go.Proofs.YtpnhgggdjlglnaaDoor.dk
open Go.PlainAid Go.ChangeShapes Go.WideShapes Go.ChangeAt Go.RowKit

set_option maxRecDepth 100000 in
set_option maxHeartbeats 4000000 in
theorem points_mn (w : World) (a b : Int) (a0 b0 : Nat) (ha : bits .and .i64 a 65535 = ((a0 : Nat) : Int)) (hb : bits .and .i64 b 65535 = ((b0 : Nat) : Int)) (a1 : a0 < 65536) (b1 : b0 < 65536) (A B C : ByteArray) (n : Bool) (d : ByteArray) (e : Int) (qa : digB a0 = A) (qb : digB b0 = B) (qc : digB B.size = C) (sb : B.size ≤ 5) (sc : C.size ≤ 5) (sa : A.size ≤ 5) (na : (A.toList == [48]) = false) (p1 : parseP ((((⟨#[45]⟩ : ByteArray) ++ A) ++ ⟨#[46]⟩) ++ B) = (⟨n, d, e⟩, 0)) (p2 : parseP (((((⟨#[45]⟩ : ByteArray) ++ A) ++ ⟨#[46]⟩) ++ B) ++ ⟨#[48, 48, 48, 101, 48]⟩) = (⟨n, d, e⟩, 0)) (p3 : parseP (((((⟨#[45]⟩ : ByteArray) ++ A) ++ B) ++ ⟨#[69, 45]⟩) ++ C) = (⟨n, d, e⟩, 0)) (p4 : parseP (((⟨#[45]⟩ : ByteArray) ++ ⟨#[48]⟩) ++ A) = (Nm.zero, 2)) (ht : TabB w) :
    Calls Tryd.prog 9 #[.int .i64 a, .int .i64 b, .bool true] w fun e w' => e = .returned (.bool true) ∧ Below w.heap.size w w' := by
  have HP1 := Lib.hid (fun v => Parse_pair v ((((⟨#[45]⟩ : ByteArray) ++ A) ++ ⟨#[46]⟩) ++ B) (by simp only [ByteArray.size_append]; show _ ≤ 1000000000; have : ∀ x : ByteArray, x.size = x.data.size := fun _ => rfl; have e1 : (⟨#[45]⟩ : ByteArray).size = 1 := rfl; have e2 : (⟨#[]⟩ : ByteArray).size = 0 := rfl; have e3 : (⟨#[46]⟩ : ByteArray).size = 1 := rfl; have e4 : (⟨#[48]⟩ : ByteArray).size = 1 := rfl; have e5 : (⟨#[69, 45]⟩ : ByteArray).size = 2 := rfl; have e6 : (⟨#[48, 48, 48, 101, 48]⟩ : ByteArray).size = 5 := rfl; omega))
  rw [p1] at HP1
  have HP2 := Lib.hid (fun v => Parse_pair v (((((⟨#[45]⟩ : ByteArray) ++ A) ++ ⟨#[46]⟩) ++ B) ++ ⟨#[48, 48, 48, 101, 48]⟩) (by simp only [ByteArray.size_append]; show _ ≤ 1000000000; have : ∀ x : ByteArray, x.size = x.data.size := fun _ => rfl; have e1 : (⟨#[45]⟩ : ByteArray).size = 1 := rfl; have e2 : (⟨#[]⟩ : ByteArray).size = 0 := rfl; have e3 : (⟨#[46]⟩ : ByteArray).size = 1 := rfl; have e4 : (⟨#[48]⟩ : ByteArray).size = 1 := rfl; have e5 : (⟨#[69, 45]⟩ : ByteArray).size = 2 := rfl; have e6 : (⟨#[48, 48, 48, 101, 48]⟩ : ByteArray).size = 5 := rfl; omega))
  rw [p2] at HP2
  have HP3 := Lib.hid (fun v => Parse_pair v (((((⟨#[45]⟩ : ByteArray) ++ A) ++ B) ++ ⟨#[69, 45]⟩) ++ C) (by simp only [ByteArray.size_append]; show _ ≤ 1000000000; have : ∀ x : ByteArray, x.size = x.data.size := fun _ => rfl; have e1 : (⟨#[45]⟩ : ByteArray).size = 1 := rfl; have e2 : (⟨#[]⟩ : ByteArray).size = 0 := rfl; have e3 : (⟨#[46]⟩ : ByteArray).size = 1 := rfl; have e4 : (⟨#[48]⟩ : ByteArray).size = 1 := rfl; have e5 : (⟨#[69, 45]⟩ : ByteArray).size = 2 := rfl; have e6 : (⟨#[48, 48, 48, 101, 48]⟩ : ByteArray).size = 5 := rfl; omega))
  rw [p3] at HP3
  have HP4 := Lib.hid (fun v => Parse_pair v (((⟨#[45]⟩ : ByteArray) ++ ⟨#[48]⟩) ++ A) (by simp only [ByteArray.size_append]; show _ ≤ 1000000000; have : ∀ x : ByteArray, x.size = x.data.size := fun _ => rfl; have e1 : (⟨#[45]⟩ : ByteArray).size = 1 := rfl; have e2 : (⟨#[]⟩ : ByteArray).size = 0 := rfl; have e3 : (⟨#[46]⟩ : ByteArray).size = 1 := rfl; have e4 : (⟨#[48]⟩ : ByteArray).size = 1 := rfl; have e5 : (⟨#[69, 45]⟩ : ByteArray).size = 2 := rfl; have e6 : (⟨#[48, 48, 48, 101, 48]⟩ : ByteArray).size = 5 := rfl; omega))
  rw [p4] at HP4
  have HP5 := Lib.hid (fun v => Parse_pair v ⟨#[48, 48]⟩ (by decide))
  rw [parse_00] at HP5
  have HDa := Lib.hid (fun v => digits_fn a0 (by omega) v)
  rw [qa] at HDa
  have HDb := Lib.hid (fun v => digits_fn b0 (by omega) v)
  rw [qb] at HDb
  have HDc := Lib.hid (fun v => digits_fn B.size (by omega) v)
  rw [qc] at HDc
  have z1 : ¬ 9223372036854775807 < 1 + 1 := by omega
  have z2 : ¬ 9223372036854775807 < 1 + 1 + A.size := by omega
  have z3 : ¬ 9223372036854775807 < 1 + A.size := by omega
  have z4 : ¬ 9223372036854775807 < 1 + A.size + 1 := by omega
  have z5 : ¬ 9223372036854775807 < 1 + A.size + 1 + B.size := by omega
  have z6 : ¬ 9223372036854775807 < 1 + A.size + 1 + B.size + 5 := by omega
  have z7 : ¬ 9223372036854775807 < 1 + A.size + B.size := by omega
  have z8 : ¬ 9223372036854775807 < 1 + A.size + B.size + 2 := by omega
  have z9 : ¬ 9223372036854775807 < 1 + A.size + B.size + 2 + C.size := by omega
  have HT := Lib.hid ht
  have HB := Lib.hid (Below.refl w.heap.size w)
  clear ht p1 p2 p3 p4 qa qb qc a1 b1 sb sc sa
  go_enter Tryd.func9, Tryd.ntmps9
  go_wp2_with fail
  with_reducible refine (awake_any _ HT.out).mono ?_
  rintro e u1 ⟨rfl, hb⟩
  have X2 := Lib.hid (TabB.below HT.out hb)
  have B3 := Lib.hid (HB.out.trans (hb.mono HB.out.size))
  clear hb HT HB
  go_wp2_with fail
  with_reducible refine (HDa.out _).mono ?_
  rintro e u4 ⟨rfl, hb⟩
  have X5 := Lib.hid (TabB.below X2.out hb)
  have B6 := Lib.hid (B3.out.trans (hb.mono B3.out.size))
  clear hb X2 B3
  go_wp2_with fail
  with_reducible refine (HDb.out _).mono ?_
  rintro e u7 ⟨rfl, hb⟩
  have X8 := Lib.hid (TabB.below X5.out hb)
  have B9 := Lib.hid (B6.out.trans (hb.mono B6.out.size))
  clear hb X5 B6
  go_wp2_with fail
  with_reducible refine (HP1.out _).mono ?_
  rintro e u10 ⟨rfl, hb⟩
  have X11 := Lib.hid (TabB.below X8.out hb)
  have B12 := Lib.hid (B9.out.trans (hb.mono B9.out.size))
  clear hb X8 B9
  unfold pairV
  obtain ⟨u13, hwv, hr, hb⟩ := boxed3 u10 (.bool n) (.string d) (.int .i64 e)
  have X14 := Lib.hid (TabB.below X11.out hb)
  have B15 := Lib.hid (B12.out.trans (hb.mono B12.out.size))
  have R16 := Lib.hid hr
  have HYW := Lib.hid hwv
  clear hb hr hwv X11 B12
  go_upto_region 8 with fail
  rw [← HYW.out]
  clear HYW
  go_wp2_with fail
  with_reducible refine (HP2.out _).mono ?_
  rintro e u17 ⟨rfl, hb⟩
  have R18 := Lib.hid ((hb.block _ (lt_of_block R16.out)).trans R16.out)
  have X19 := Lib.hid (TabB.below X14.out hb)
  have B20 := Lib.hid (B15.out.trans (hb.mono B15.out.size))
  clear hb R16 X14 B15
  unfold pairV
  obtain ⟨u21, hwv, hr, hb⟩ := boxed3 u17 (.bool n) (.string d) (.int .i64 e)
  have R22 := Lib.hid ((hb.block _ (lt_of_block R18.out)).trans R18.out)
  have X23 := Lib.hid (TabB.below X19.out hb)
  have B24 := Lib.hid (B20.out.trans (hb.mono B20.out.size))
  have R25 := Lib.hid hr
  have HYW := Lib.hid hwv
  clear hb hr hwv R18 X19 B20
  go_upto_region 9 with fail
  rw [← HYW.out]
  clear HYW
  go_wp2_with fail
  with_reducible refine (HDc.out _).mono ?_
  rintro e u26 ⟨rfl, hb⟩
  have R27 := Lib.hid ((hb.block _ (lt_of_block R22.out)).trans R22.out)
  have R28 := Lib.hid ((hb.block _ (lt_of_block R25.out)).trans R25.out)
  have X29 := Lib.hid (TabB.below X23.out hb)
  have B30 := Lib.hid (B24.out.trans (hb.mono B24.out.size))
  clear hb R22 R25 X23 B24
  go_wp2_with fail
  with_reducible refine (HP3.out _).mono ?_
  rintro e u31 ⟨rfl, hb⟩
  have R32 := Lib.hid ((hb.block _ (lt_of_block R27.out)).trans R27.out)
  have R33 := Lib.hid ((hb.block _ (lt_of_block R28.out)).trans R28.out)
  have X34 := Lib.hid (TabB.below X29.out hb)
  have B35 := Lib.hid (B30.out.trans (hb.mono B30.out.size))
  clear hb R27 R28 X29 B30
  unfold pairV
  obtain ⟨u36, hwv, hr, hb⟩ := boxed3 u31 (.bool n) (.string d) (.int .i64 e)
  have R37 := Lib.hid ((hb.block _ (lt_of_block R32.out)).trans R32.out)
  have R38 := Lib.hid ((hb.block _ (lt_of_block R33.out)).trans R33.out)
  have X39 := Lib.hid (TabB.below X34.out hb)
  have B40 := Lib.hid (B35.out.trans (hb.mono B35.out.size))
  have R41 := Lib.hid hr
  have HYW := Lib.hid hwv
  clear hb hr hwv R32 R33 X34 B35
  go_upto_region 10 with fail
  rw [← HYW.out]
  clear HYW
  go_wp2_with fail
  with_reducible refine (HP4.out _).mono ?_
  rintro e u42 ⟨rfl, hb⟩
  have R43 := Lib.hid ((hb.block _ (lt_of_block R37.out)).trans R37.out)
  have R44 := Lib.hid ((hb.block _ (lt_of_block R38.out)).trans R38.out)
  have R45 := Lib.hid ((hb.block _ (lt_of_block R41.out)).trans R41.out)
  have X46 := Lib.hid (TabB.below X39.out hb)
  have B47 := Lib.hid (B40.out.trans (hb.mono B40.out.size))
  clear hb R37 R38 R41 X39 B40
  unfold pairV Nm.zero
  obtain ⟨u48, hwv, hr, hb⟩ := boxed3 u42 (.bool false) (.string ⟨#[]⟩) (.int .i64 0)
  have R49 := Lib.hid ((hb.block _ (lt_of_block R43.out)).trans R43.out)
  have R50 := Lib.hid ((hb.block _ (lt_of_block R44.out)).trans R44.out)
  have R51 := Lib.hid ((hb.block _ (lt_of_block R45.out)).trans R45.out)
  have X52 := Lib.hid (TabB.below X46.out hb)
  have B53 := Lib.hid (B47.out.trans (hb.mono B47.out.size))
  have R54 := Lib.hid hr
  have HYW := Lib.hid hwv
  clear hb hr hwv R43 R44 R45 X46 B47
  go_upto_region 11 with fail
  rw [← HYW.out]
  clear HYW
  obtain ⟨⟨c55, c56, c57⟩, _⟩ := row3 R49.out
  obtain ⟨⟨c58, c59, c60⟩, _⟩ := row3 R50.out
  obtain ⟨⟨c61, c62, c63⟩, _⟩ := row3 R51.out
  obtain ⟨⟨c64, c65, c66⟩, _⟩ := row3 R54.out
  go_wp2_with fail
  go_ret
  exact ⟨rfl, B53.out⟩
set_option maxRecDepth 100000 in
set_option maxHeartbeats 4000000 in
theorem points_pn (w : World) (a b : Int) (a0 b0 : Nat) (ha : bits .and .i64 a 65535 = ((a0 : Nat) : Int)) (hb : bits .and .i64 b 65535 = ((b0 : Nat) : Int)) (a1 : a0 < 65536) (b1 : b0 < 65536) (A B C : ByteArray) (n : Bool) (d : ByteArray) (e : Int) (qa : digB a0 = A) (qb : digB b0 = B) (qc : digB B.size = C) (sb : B.size ≤ 5) (sc : C.size ≤ 5) (sa : A.size ≤ 5) (na : (A.toList == [48]) = false) (p1 : parseP ((((⟨#[]⟩ : ByteArray) ++ A) ++ ⟨#[46]⟩) ++ B) = (⟨n, d, e⟩, 0)) (p2 : parseP (((((⟨#[]⟩ : ByteArray) ++ A) ++ ⟨#[46]⟩) ++ B) ++ ⟨#[48, 48, 48, 101, 48]⟩) = (⟨n, d, e⟩, 0)) (p3 : parseP (((((⟨#[]⟩ : ByteArray) ++ A) ++ B) ++ ⟨#[69, 45]⟩) ++ C) = (⟨n, d, e⟩, 0)) (p4 : parseP (((⟨#[]⟩ : ByteArray) ++ ⟨#[48]⟩) ++ A) = (Nm.zero, 2)) (ht : TabB w) :
    Calls Tryd.prog 9 #[.int .i64 a, .int .i64 b, .bool false] w fun e w' => e = .returned (.bool true) ∧ Below w.heap.size w w' := by
  have HP1 := Lib.hid (fun v => Parse_pair v ((((⟨#[]⟩ : ByteArray) ++ A) ++ ⟨#[46]⟩) ++ B) (by simp only [ByteArray.size_append]; show _ ≤ 1000000000; have : ∀ x : ByteArray, x.size = x.data.size := fun _ => rfl; have e1 : (⟨#[45]⟩ : ByteArray).size = 1 := rfl; have e2 : (⟨#[]⟩ : ByteArray).size = 0 := rfl; have e3 : (⟨#[46]⟩ : ByteArray).size = 1 := rfl; have e4 : (⟨#[48]⟩ : ByteArray).size = 1 := rfl; have e5 : (⟨#[69, 45]⟩ : ByteArray).size = 2 := rfl; have e6 : (⟨#[48, 48, 48, 101, 48]⟩ : ByteArray).size = 5 := rfl; omega))
  rw [p1] at HP1
  have HP2 := Lib.hid (fun v => Parse_pair v (((((⟨#[]⟩ : ByteArray) ++ A) ++ ⟨#[46]⟩) ++ B) ++ ⟨#[48, 48, 48, 101, 48]⟩) (by simp only [ByteArray.size_append]; show _ ≤ 1000000000; have : ∀ x : ByteArray, x.size = x.data.size := fun _ => rfl; have e1 : (⟨#[45]⟩ : ByteArray).size = 1 := rfl; have e2 : (⟨#[]⟩ : ByteArray).size = 0 := rfl; have e3 : (⟨#[46]⟩ : ByteArray).size = 1 := rfl; have e4 : (⟨#[48]⟩ : ByteArray).size = 1 := rfl; have e5 : (⟨#[69, 45]⟩ : ByteArray).size = 2 := rfl; have e6 : (⟨#[48, 48, 48, 101, 48]⟩ : ByteArray).size = 5 := rfl; omega))
  rw [p2] at HP2
  have HP3 := Lib.hid (fun v => Parse_pair v (((((⟨#[]⟩ : ByteArray) ++ A) ++ B) ++ ⟨#[69, 45]⟩) ++ C) (by simp only [ByteArray.size_append]; show _ ≤ 1000000000; have : ∀ x : ByteArray, x.size = x.data.size := fun _ => rfl; have e1 : (⟨#[45]⟩ : ByteArray).size = 1 := rfl; have e2 : (⟨#[]⟩ : ByteArray).size = 0 := rfl; have e3 : (⟨#[46]⟩ : ByteArray).size = 1 := rfl; have e4 : (⟨#[48]⟩ : ByteArray).size = 1 := rfl; have e5 : (⟨#[69, 45]⟩ : ByteArray).size = 2 := rfl; have e6 : (⟨#[48, 48, 48, 101, 48]⟩ : ByteArray).size = 5 := rfl; omega))
  rw [p3] at HP3
  have HP4 := Lib.hid (fun v => Parse_pair v (((⟨#[]⟩ : ByteArray) ++ ⟨#[48]⟩) ++ A) (by simp only [ByteArray.size_append]; show _ ≤ 1000000000; have : ∀ x : ByteArray, x.size = x.data.size := fun _ => rfl; have e1 : (⟨#[45]⟩ : ByteArray).size = 1 := rfl; have e2 : (⟨#[]⟩ : ByteArray).size = 0 := rfl; have e3 : (⟨#[46]⟩ : ByteArray).size = 1 := rfl; have e4 : (⟨#[48]⟩ : ByteArray).size = 1 := rfl; have e5 : (⟨#[69, 45]⟩ : ByteArray).size = 2 := rfl; have e6 : (⟨#[48, 48, 48, 101, 48]⟩ : ByteArray).size = 5 := rfl; omega))
  rw [p4] at HP4
  have HP5 := Lib.hid (fun v => Parse_pair v ⟨#[48, 48]⟩ (by decide))
  rw [parse_00] at HP5
  have HDa := Lib.hid (fun v => digits_fn a0 (by omega) v)
  rw [qa] at HDa
  have HDb := Lib.hid (fun v => digits_fn b0 (by omega) v)
  rw [qb] at HDb
  have HDc := Lib.hid (fun v => digits_fn B.size (by omega) v)
  rw [qc] at HDc
  have z1 : ¬ 9223372036854775807 < 0 + 1 := by omega
  have z2 : ¬ 9223372036854775807 < 1 := by omega
  have z3 : ¬ 9223372036854775807 < 0 + 1 + A.size := by omega
  have z4 : ¬ 9223372036854775807 < 1 + A.size := by omega
  have z5 : ¬ 9223372036854775807 < 0 + A.size := by omega
  have z6 : ¬ 9223372036854775807 < A.size := by omega
  have z7 : ¬ 9223372036854775807 < 0 + A.size + 1 := by omega
  have z8 : ¬ 9223372036854775807 < A.size + 1 := by omega
  have z9 : ¬ 9223372036854775807 < 0 + A.size + 1 + B.size := by omega
  have z10 : ¬ 9223372036854775807 < A.size + 1 + B.size := by omega
  have z11 : ¬ 9223372036854775807 < 0 + A.size + 1 + B.size + 5 := by omega
  have z12 : ¬ 9223372036854775807 < A.size + 1 + B.size + 5 := by omega
  have z13 : ¬ 9223372036854775807 < 0 + A.size + B.size := by omega
  have z14 : ¬ 9223372036854775807 < A.size + B.size := by omega
  have z15 : ¬ 9223372036854775807 < 0 + A.size + B.size + 2 := by omega
  have z16 : ¬ 9223372036854775807 < A.size + B.size + 2 := by omega
  have z17 : ¬ 9223372036854775807 < 0 + A.size + B.size + 2 + C.size := by omega
  have z18 : ¬ 9223372036854775807 < A.size + B.size + 2 + C.size := by omega
  have HT := Lib.hid ht
  have HB := Lib.hid (Below.refl w.heap.size w)
  clear ht p1 p2 p3 p4 qa qb qc a1 b1 sb sc sa
  go_enter Tryd.func9, Tryd.ntmps9
  go_wp2_with fail
  with_reducible refine (awake_any _ HT.out).mono ?_
  rintro e u1 ⟨rfl, hb⟩
  have X2 := Lib.hid (TabB.below HT.out hb)
  have B3 := Lib.hid (HB.out.trans (hb.mono HB.out.size))
  clear hb HT HB
  go_wp2_with fail
  with_reducible refine (HDa.out _).mono ?_
  rintro e u4 ⟨rfl, hb⟩
  have X5 := Lib.hid (TabB.below X2.out hb)
  have B6 := Lib.hid (B3.out.trans (hb.mono B3.out.size))
  clear hb X2 B3
  go_wp2_with fail
  with_reducible refine (HDb.out _).mono ?_
  rintro e u7 ⟨rfl, hb⟩
  have X8 := Lib.hid (TabB.below X5.out hb)
  have B9 := Lib.hid (B6.out.trans (hb.mono B6.out.size))
  clear hb X5 B6
  go_wp2_with fail
  with_reducible refine (HP1.out _).mono ?_
  rintro e u10 ⟨rfl, hb⟩
  have X11 := Lib.hid (TabB.below X8.out hb)
  have B12 := Lib.hid (B9.out.trans (hb.mono B9.out.size))
  clear hb X8 B9
  unfold pairV
  obtain ⟨u13, hwv, hr, hb⟩ := boxed3 u10 (.bool n) (.string d) (.int .i64 e)
  have X14 := Lib.hid (TabB.below X11.out hb)
  have B15 := Lib.hid (B12.out.trans (hb.mono B12.out.size))
  have R16 := Lib.hid hr
  have HYW := Lib.hid hwv
  clear hb hr hwv X11 B12
  go_upto_region 8 with fail
  rw [← HYW.out]
  clear HYW
  go_wp2_with fail
  with_reducible refine (HP2.out _).mono ?_
  rintro e u17 ⟨rfl, hb⟩
  have R18 := Lib.hid ((hb.block _ (lt_of_block R16.out)).trans R16.out)
  have X19 := Lib.hid (TabB.below X14.out hb)
  have B20 := Lib.hid (B15.out.trans (hb.mono B15.out.size))
  clear hb R16 X14 B15
  unfold pairV
  obtain ⟨u21, hwv, hr, hb⟩ := boxed3 u17 (.bool n) (.string d) (.int .i64 e)
  have R22 := Lib.hid ((hb.block _ (lt_of_block R18.out)).trans R18.out)
  have X23 := Lib.hid (TabB.below X19.out hb)
  have B24 := Lib.hid (B20.out.trans (hb.mono B20.out.size))
  have R25 := Lib.hid hr
  have HYW := Lib.hid hwv
  clear hb hr hwv R18 X19 B20
  go_upto_region 9 with fail
  rw [← HYW.out]
  clear HYW
  go_wp2_with fail
  with_reducible refine (HDc.out _).mono ?_
  rintro e u26 ⟨rfl, hb⟩
  have R27 := Lib.hid ((hb.block _ (lt_of_block R22.out)).trans R22.out)
  have R28 := Lib.hid ((hb.block _ (lt_of_block R25.out)).trans R25.out)
  have X29 := Lib.hid (TabB.below X23.out hb)
  have B30 := Lib.hid (B24.out.trans (hb.mono B24.out.size))
  clear hb R22 R25 X23 B24
  go_wp2_with fail
  with_reducible refine (HP3.out _).mono ?_
  rintro e u31 ⟨rfl, hb⟩
  have R32 := Lib.hid ((hb.block _ (lt_of_block R27.out)).trans R27.out)
  have R33 := Lib.hid ((hb.block _ (lt_of_block R28.out)).trans R28.out)
  have X34 := Lib.hid (TabB.below X29.out hb)
  have B35 := Lib.hid (B30.out.trans (hb.mono B30.out.size))
  clear hb R27 R28 X29 B30
  unfold pairV
  obtain ⟨u36, hwv, hr, hb⟩ := boxed3 u31 (.bool n) (.string d) (.int .i64 e)
  have R37 := Lib.hid ((hb.block _ (lt_of_block R32.out)).trans R32.out)
  have R38 := Lib.hid ((hb.block _ (lt_of_block R33.out)).trans R33.out)
  have X39 := Lib.hid (TabB.below X34.out hb)
  have B40 := Lib.hid (B35.out.trans (hb.mono B35.out.size))
  have R41 := Lib.hid hr
  have HYW := Lib.hid hwv
  clear hb hr hwv R32 R33 X34 B35
  go_upto_region 10 with fail
  rw [← HYW.out]
  clear HYW
  go_wp2_with fail
  with_reducible refine (HP4.out _).mono ?_
  rintro e u42 ⟨rfl, hb⟩
  have R43 := Lib.hid ((hb.block _ (lt_of_block R37.out)).trans R37.out)
  have R44 := Lib.hid ((hb.block _ (lt_of_block R38.out)).trans R38.out)
  have R45 := Lib.hid ((hb.block _ (lt_of_block R41.out)).trans R41.out)
  have X46 := Lib.hid (TabB.below X39.out hb)
  have B47 := Lib.hid (B40.out.trans (hb.mono B40.out.size))
  clear hb R37 R38 R41 X39 B40
  unfold pairV Nm.zero
  obtain ⟨u48, hwv, hr, hb⟩ := boxed3 u42 (.bool false) (.string ⟨#[]⟩) (.int .i64 0)
  have R49 := Lib.hid ((hb.block _ (lt_of_block R43.out)).trans R43.out)
  have R50 := Lib.hid ((hb.block _ (lt_of_block R44.out)).trans R44.out)
  have R51 := Lib.hid ((hb.block _ (lt_of_block R45.out)).trans R45.out)
  have X52 := Lib.hid (TabB.below X46.out hb)
  have B53 := Lib.hid (B47.out.trans (hb.mono B47.out.size))
  have R54 := Lib.hid hr
  have HYW := Lib.hid hwv
  clear hb hr hwv R43 R44 R45 X46 B47
  go_upto_region 11 with fail
  rw [← HYW.out]
  clear HYW
  obtain ⟨⟨c55, c56, c57⟩, _⟩ := row3 R49.out
  obtain ⟨⟨c58, c59, c60⟩, _⟩ := row3 R50.out
  obtain ⟨⟨c61, c62, c63⟩, _⟩ := row3 R51.out
  obtain ⟨⟨c64, c65, c66⟩, _⟩ := row3 R54.out
  go_wp2_with fail
  go_ret
  exact ⟨rfl, B53.out⟩
set_option maxRecDepth 100000 in
set_option maxHeartbeats 4000000 in
theorem points_mz (w : World) (a b : Int) (a0 b0 : Nat) (ha : bits .and .i64 a 65535 = ((a0 : Nat) : Int)) (hb : bits .and .i64 b 65535 = ((b0 : Nat) : Int)) (a1 : a0 < 65536) (b1 : b0 < 65536) (B C : ByteArray) (n : Bool) (d : ByteArray) (e : Int) (qa : digB a0 = ⟨#[48]⟩) (qb : digB b0 = B) (qc : digB B.size = C) (sb : B.size ≤ 5) (sc : C.size ≤ 5) (p1 : parseP ((((⟨#[45]⟩ : ByteArray) ++ ⟨#[48]⟩) ++ ⟨#[46]⟩) ++ B) = (⟨n, d, e⟩, 0)) (p2 : parseP (((((⟨#[45]⟩ : ByteArray) ++ ⟨#[48]⟩) ++ ⟨#[46]⟩) ++ B) ++ ⟨#[48, 48, 48, 101, 48]⟩) = (⟨n, d, e⟩, 0)) (hn : Bool) (hd : ByteArray) (he hc : Int) (p3 : parseP (((((⟨#[45]⟩ : ByteArray) ++ ⟨#[48]⟩) ++ B) ++ ⟨#[69, 45]⟩) ++ C) = (⟨hn, hd, he⟩, hc)) (p4 : parseP (((⟨#[45]⟩ : ByteArray) ++ ⟨#[48]⟩) ++ ⟨#[48]⟩) = (Nm.zero, 2)) (ht : TabB w) :
    Calls Tryd.prog 9 #[.int .i64 a, .int .i64 b, .bool true] w fun e w' => e = .returned (.bool true) ∧ Below w.heap.size w w' := by
  have HP1 := Lib.hid (fun v => Parse_pair v ((((⟨#[45]⟩ : ByteArray) ++ ⟨#[48]⟩) ++ ⟨#[46]⟩) ++ B) (by simp only [ByteArray.size_append]; show _ ≤ 1000000000; have : ∀ x : ByteArray, x.size = x.data.size := fun _ => rfl; have e1 : (⟨#[45]⟩ : ByteArray).size = 1 := rfl; have e2 : (⟨#[]⟩ : ByteArray).size = 0 := rfl; have e3 : (⟨#[46]⟩ : ByteArray).size = 1 := rfl; have e4 : (⟨#[48]⟩ : ByteArray).size = 1 := rfl; have e5 : (⟨#[69, 45]⟩ : ByteArray).size = 2 := rfl; have e6 : (⟨#[48, 48, 48, 101, 48]⟩ : ByteArray).size = 5 := rfl; omega))
  rw [p1] at HP1
  have HP2 := Lib.hid (fun v => Parse_pair v (((((⟨#[45]⟩ : ByteArray) ++ ⟨#[48]⟩) ++ ⟨#[46]⟩) ++ B) ++ ⟨#[48, 48, 48, 101, 48]⟩) (by simp only [ByteArray.size_append]; show _ ≤ 1000000000; have : ∀ x : ByteArray, x.size = x.data.size := fun _ => rfl; have e1 : (⟨#[45]⟩ : ByteArray).size = 1 := rfl; have e2 : (⟨#[]⟩ : ByteArray).size = 0 := rfl; have e3 : (⟨#[46]⟩ : ByteArray).size = 1 := rfl; have e4 : (⟨#[48]⟩ : ByteArray).size = 1 := rfl; have e5 : (⟨#[69, 45]⟩ : ByteArray).size = 2 := rfl; have e6 : (⟨#[48, 48, 48, 101, 48]⟩ : ByteArray).size = 5 := rfl; omega))
  rw [p2] at HP2
  have HP3 := Lib.hid (fun v => Parse_pair v (((((⟨#[45]⟩ : ByteArray) ++ ⟨#[48]⟩) ++ B) ++ ⟨#[69, 45]⟩) ++ C) (by simp only [ByteArray.size_append]; show _ ≤ 1000000000; have : ∀ x : ByteArray, x.size = x.data.size := fun _ => rfl; have e1 : (⟨#[45]⟩ : ByteArray).size = 1 := rfl; have e2 : (⟨#[]⟩ : ByteArray).size = 0 := rfl; have e3 : (⟨#[46]⟩ : ByteArray).size = 1 := rfl; have e4 : (⟨#[48]⟩ : ByteArray).size = 1 := rfl; have e5 : (⟨#[69, 45]⟩ : ByteArray).size = 2 := rfl; have e6 : (⟨#[48, 48, 48, 101, 48]⟩ : ByteArray).size = 5 := rfl; omega))
  rw [p3] at HP3
  have HP4 := Lib.hid (fun v => Parse_pair v (((⟨#[45]⟩ : ByteArray) ++ ⟨#[48]⟩) ++ ⟨#[48]⟩) (by simp only [ByteArray.size_append]; show _ ≤ 1000000000; have : ∀ x : ByteArray, x.size = x.data.size := fun _ => rfl; have e1 : (⟨#[45]⟩ : ByteArray).size = 1 := rfl; have e2 : (⟨#[]⟩ : ByteArray).size = 0 := rfl; have e3 : (⟨#[46]⟩ : ByteArray).size = 1 := rfl; have e4 : (⟨#[48]⟩ : ByteArray).size = 1 := rfl; have e5 : (⟨#[69, 45]⟩ : ByteArray).size = 2 := rfl; have e6 : (⟨#[48, 48, 48, 101, 48]⟩ : ByteArray).size = 5 := rfl; omega))
  rw [p4] at HP4
  have HP5 := Lib.hid (fun v => Parse_pair v ⟨#[48, 48]⟩ (by decide))
  rw [parse_00] at HP5
  have HDa := Lib.hid (fun v => digits_fn a0 (by omega) v)
  rw [qa] at HDa
  have HDb := Lib.hid (fun v => digits_fn b0 (by omega) v)
  rw [qb] at HDb
  have HDc := Lib.hid (fun v => digits_fn B.size (by omega) v)
  rw [qc] at HDc
  have z1 : ¬ 9223372036854775807 < 1 + 1 := by omega
  have z2 : ¬ 9223372036854775807 < 1 + 1 + 1 := by omega
  have z3 : ¬ 9223372036854775807 < 1 + 1 := by omega
  have z4 : ¬ 9223372036854775807 < 1 + 1 + 1 := by omega
  have z5 : ¬ 9223372036854775807 < 1 + 1 + 1 + B.size := by omega
  have z6 : ¬ 9223372036854775807 < 1 + 1 + 1 + B.size + 5 := by omega
  have z7 : ¬ 9223372036854775807 < 1 + 1 + B.size := by omega
  have z8 : ¬ 9223372036854775807 < 1 + 1 + B.size + 2 := by omega
  have z9 : ¬ 9223372036854775807 < 1 + 1 + B.size + 2 + C.size := by omega
  have HT := Lib.hid ht
  have HB := Lib.hid (Below.refl w.heap.size w)
  clear ht p1 p2 p3 p4 qa qb qc a1 b1 sb sc
  go_enter Tryd.func9, Tryd.ntmps9
  go_wp2_with fail
  with_reducible refine (awake_any _ HT.out).mono ?_
  rintro e u1 ⟨rfl, hb⟩
  have X2 := Lib.hid (TabB.below HT.out hb)
  have B3 := Lib.hid (HB.out.trans (hb.mono HB.out.size))
  clear hb HT HB
  go_wp2_with fail
  with_reducible refine (HDa.out _).mono ?_
  rintro e u4 ⟨rfl, hb⟩
  have X5 := Lib.hid (TabB.below X2.out hb)
  have B6 := Lib.hid (B3.out.trans (hb.mono B3.out.size))
  clear hb X2 B3
  go_wp2_with fail
  with_reducible refine (HDb.out _).mono ?_
  rintro e u7 ⟨rfl, hb⟩
  have X8 := Lib.hid (TabB.below X5.out hb)
  have B9 := Lib.hid (B6.out.trans (hb.mono B6.out.size))
  clear hb X5 B6
  go_wp2_with fail
  with_reducible refine (HP1.out _).mono ?_
  rintro e u10 ⟨rfl, hb⟩
  have X11 := Lib.hid (TabB.below X8.out hb)
  have B12 := Lib.hid (B9.out.trans (hb.mono B9.out.size))
  clear hb X8 B9
  unfold pairV
  obtain ⟨u13, hwv, hr, hb⟩ := boxed3 u10 (.bool n) (.string d) (.int .i64 e)
  have X14 := Lib.hid (TabB.below X11.out hb)
  have B15 := Lib.hid (B12.out.trans (hb.mono B12.out.size))
  have R16 := Lib.hid hr
  have HYW := Lib.hid hwv
  clear hb hr hwv X11 B12
  go_upto_region 8 with fail
  rw [← HYW.out]
  clear HYW
  go_wp2_with fail
  with_reducible refine (HP2.out _).mono ?_
  rintro e u17 ⟨rfl, hb⟩
  have R18 := Lib.hid ((hb.block _ (lt_of_block R16.out)).trans R16.out)
  have X19 := Lib.hid (TabB.below X14.out hb)
  have B20 := Lib.hid (B15.out.trans (hb.mono B15.out.size))
  clear hb R16 X14 B15
  unfold pairV
  obtain ⟨u21, hwv, hr, hb⟩ := boxed3 u17 (.bool n) (.string d) (.int .i64 e)
  have R22 := Lib.hid ((hb.block _ (lt_of_block R18.out)).trans R18.out)
  have X23 := Lib.hid (TabB.below X19.out hb)
  have B24 := Lib.hid (B20.out.trans (hb.mono B20.out.size))
  have R25 := Lib.hid hr
  have HYW := Lib.hid hwv
  clear hb hr hwv R18 X19 B20
  go_upto_region 9 with fail
  rw [← HYW.out]
  clear HYW
  go_wp2_with fail
  with_reducible refine (HDc.out _).mono ?_
  rintro e u26 ⟨rfl, hb⟩
  have R27 := Lib.hid ((hb.block _ (lt_of_block R22.out)).trans R22.out)
  have R28 := Lib.hid ((hb.block _ (lt_of_block R25.out)).trans R25.out)
  have X29 := Lib.hid (TabB.below X23.out hb)
  have B30 := Lib.hid (B24.out.trans (hb.mono B24.out.size))
  clear hb R22 R25 X23 B24
  go_wp2_with fail
  with_reducible refine (HP3.out _).mono ?_
  rintro e u31 ⟨rfl, hb⟩
  have R32 := Lib.hid ((hb.block _ (lt_of_block R27.out)).trans R27.out)
  have R33 := Lib.hid ((hb.block _ (lt_of_block R28.out)).trans R28.out)
  have X34 := Lib.hid (TabB.below X29.out hb)
  have B35 := Lib.hid (B30.out.trans (hb.mono B30.out.size))
  clear hb R27 R28 X29 B30
  unfold pairV
  obtain ⟨u36, hwv, hr, hb⟩ := boxed3 u31 (.bool hn) (.string hd) (.int .i64 he)
  have R37 := Lib.hid ((hb.block _ (lt_of_block R32.out)).trans R32.out)
  have R38 := Lib.hid ((hb.block _ (lt_of_block R33.out)).trans R33.out)
  have X39 := Lib.hid (TabB.below X34.out hb)
  have B40 := Lib.hid (B35.out.trans (hb.mono B35.out.size))
  have R41 := Lib.hid hr
  have HYW := Lib.hid hwv
  clear hb hr hwv R32 R33 X34 B35
  go_upto_region 10 with fail
  rw [← HYW.out]
  clear HYW
  go_wp2_with fail
  with_reducible refine (HP4.out _).mono ?_
  rintro e u42 ⟨rfl, hb⟩
  have R43 := Lib.hid ((hb.block _ (lt_of_block R37.out)).trans R37.out)
  have R44 := Lib.hid ((hb.block _ (lt_of_block R38.out)).trans R38.out)
  have R45 := Lib.hid ((hb.block _ (lt_of_block R41.out)).trans R41.out)
  have X46 := Lib.hid (TabB.below X39.out hb)
  have B47 := Lib.hid (B40.out.trans (hb.mono B40.out.size))
  clear hb R37 R38 R41 X39 B40
  unfold pairV Nm.zero
  have LD := Lib.hid (lt_of_block R43.out)
  have LF := Lib.hid (lt_of_block R44.out)
  have LH := Lib.hid (lt_of_block R45.out)
  have LS := Lib.hid B47.out.size
  obtain ⟨u48, hwv, hr, hb⟩ := boxed3 u42 (.bool false) (.string ⟨#[]⟩) (.int .i64 0)
  have R49 := Lib.hid ((hb.block _ (lt_of_block R43.out)).trans R43.out)
  have R50 := Lib.hid ((hb.block _ (lt_of_block R44.out)).trans R44.out)
  have R51 := Lib.hid ((hb.block _ (lt_of_block R45.out)).trans R45.out)
  have X52 := Lib.hid (TabB.below X46.out hb)
  have B53 := Lib.hid (B47.out.trans (hb.mono B47.out.size))
  have R54 := Lib.hid hr
  have HYW := Lib.hid hwv
  clear hb hr hwv R43 R44 R45 X46 B47
  go_upto_region 11 with fail
  rw [← HYW.out]
  clear HYW
  go_wp2_with fail
  with_reducible refine (HP5.out _).mono ?_
  rintro e u55 ⟨rfl, hb⟩
  have R56 := Lib.hid ((hb.block _ (lt_of_block R49.out)).trans R49.out)
  have R57 := Lib.hid ((hb.block _ (lt_of_block R50.out)).trans R50.out)
  have R58 := Lib.hid ((hb.block _ (lt_of_block R51.out)).trans R51.out)
  have R59 := Lib.hid ((hb.block _ (lt_of_block R54.out)).trans R54.out)
  have X60 := Lib.hid (TabB.below X52.out hb)
  have B61 := Lib.hid (B53.out.trans (hb.mono B53.out.size))
  clear hb R49 R50 R51 R54 X52 B53
  unfold pairV Nm.zero
  obtain ⟨⟨c0, c1, c2⟩, f0, f1, f2⟩ := row3 R59.out
  obtain ⟨hr, hb⟩ := set3 (v0 := .bool false) (v1 := .string ⟨#[]⟩) (v2 := .int .i64 0) R59.out (Nat.le_refl _) (Below.refl u42.heap.size u55)
  obtain ⟨u62, hwv⟩ : ∃ V, V = ((u55.setCell ⟨u42.heap.size, 0, none⟩ (.bool false)).setCell ⟨u42.heap.size, 1, none⟩ (.string ⟨#[]⟩)).setCell ⟨u42.heap.size, 2, none⟩ (.int .i64 0) := ⟨_, rfl⟩
  rw [← hwv] at hr hb
  have RJ := Lib.hid hr
  have RD := Lib.hid ((hb.block _ LD.out).trans R56.out)
  have RF := Lib.hid ((hb.block _ LF.out).trans R57.out)
  have RH := Lib.hid ((hb.block _ LH.out).trans R58.out)
  have BJ := Lib.hid (B61.out.trans (hb.mono LS.out))
  have HYW := Lib.hid hwv
  clear hr hb hwv
  go_upto_region 14 with fail
  rw [← HYW.out]
  clear HYW c0 c1 c2 f0 f1 f2
  obtain ⟨⟨c63, c64, c65⟩, _⟩ := row3 RD.out
  obtain ⟨⟨c66, c67, c68⟩, _⟩ := row3 RF.out
  obtain ⟨⟨c69, c70, c71⟩, _⟩ := row3 RH.out
  obtain ⟨⟨c72, c73, c74⟩, _⟩ := row3 RJ.out
  go_wp2_with fail
  go_ret
  exact ⟨rfl, BJ.out⟩
set_option maxRecDepth 100000 in
set_option maxHeartbeats 4000000 in
theorem points_pz (w : World) (a b : Int) (a0 b0 : Nat) (ha : bits .and .i64 a 65535 = ((a0 : Nat) : Int)) (hb : bits .and .i64 b 65535 = ((b0 : Nat) : Int)) (a1 : a0 < 65536) (b1 : b0 < 65536) (B C : ByteArray) (n : Bool) (d : ByteArray) (e : Int) (qa : digB a0 = ⟨#[48]⟩) (qb : digB b0 = B) (qc : digB B.size = C) (sb : B.size ≤ 5) (sc : C.size ≤ 5) (p1 : parseP ((((⟨#[]⟩ : ByteArray) ++ ⟨#[48]⟩) ++ ⟨#[46]⟩) ++ B) = (⟨n, d, e⟩, 0)) (p2 : parseP (((((⟨#[]⟩ : ByteArray) ++ ⟨#[48]⟩) ++ ⟨#[46]⟩) ++ B) ++ ⟨#[48, 48, 48, 101, 48]⟩) = (⟨n, d, e⟩, 0)) (hn : Bool) (hd : ByteArray) (he hc : Int) (p3 : parseP (((((⟨#[]⟩ : ByteArray) ++ ⟨#[48]⟩) ++ B) ++ ⟨#[69, 45]⟩) ++ C) = (⟨hn, hd, he⟩, hc)) (p4 : parseP (((⟨#[]⟩ : ByteArray) ++ ⟨#[48]⟩) ++ ⟨#[48]⟩) = (Nm.zero, 2)) (ht : TabB w) :
    Calls Tryd.prog 9 #[.int .i64 a, .int .i64 b, .bool false] w fun e w' => e = .returned (.bool true) ∧ Below w.heap.size w w' := by
  have HP1 := Lib.hid (fun v => Parse_pair v ((((⟨#[]⟩ : ByteArray) ++ ⟨#[48]⟩) ++ ⟨#[46]⟩) ++ B) (by simp only [ByteArray.size_append]; show _ ≤ 1000000000; have : ∀ x : ByteArray, x.size = x.data.size := fun _ => rfl; have e1 : (⟨#[45]⟩ : ByteArray).size = 1 := rfl; have e2 : (⟨#[]⟩ : ByteArray).size = 0 := rfl; have e3 : (⟨#[46]⟩ : ByteArray).size = 1 := rfl; have e4 : (⟨#[48]⟩ : ByteArray).size = 1 := rfl; have e5 : (⟨#[69, 45]⟩ : ByteArray).size = 2 := rfl; have e6 : (⟨#[48, 48, 48, 101, 48]⟩ : ByteArray).size = 5 := rfl; omega))
  rw [p1] at HP1
  have HP2 := Lib.hid (fun v => Parse_pair v (((((⟨#[]⟩ : ByteArray) ++ ⟨#[48]⟩) ++ ⟨#[46]⟩) ++ B) ++ ⟨#[48, 48, 48, 101, 48]⟩) (by simp only [ByteArray.size_append]; show _ ≤ 1000000000; have : ∀ x : ByteArray, x.size = x.data.size := fun _ => rfl; have e1 : (⟨#[45]⟩ : ByteArray).size = 1 := rfl; have e2 : (⟨#[]⟩ : ByteArray).size = 0 := rfl; have e3 : (⟨#[46]⟩ : ByteArray).size = 1 := rfl; have e4 : (⟨#[48]⟩ : ByteArray).size = 1 := rfl; have e5 : (⟨#[69, 45]⟩ : ByteArray).size = 2 := rfl; have e6 : (⟨#[48, 48, 48, 101, 48]⟩ : ByteArray).size = 5 := rfl; omega))
  rw [p2] at HP2
  have HP3 := Lib.hid (fun v => Parse_pair v (((((⟨#[]⟩ : ByteArray) ++ ⟨#[48]⟩) ++ B) ++ ⟨#[69, 45]⟩) ++ C) (by simp only [ByteArray.size_append]; show _ ≤ 1000000000; have : ∀ x : ByteArray, x.size = x.data.size := fun _ => rfl; have e1 : (⟨#[45]⟩ : ByteArray).size = 1 := rfl; have e2 : (⟨#[]⟩ : ByteArray).size = 0 := rfl; have e3 : (⟨#[46]⟩ : ByteArray).size = 1 := rfl; have e4 : (⟨#[48]⟩ : ByteArray).size = 1 := rfl; have e5 : (⟨#[69, 45]⟩ : ByteArray).size = 2 := rfl; have e6 : (⟨#[48, 48, 48, 101, 48]⟩ : ByteArray).size = 5 := rfl; omega))
  rw [p3] at HP3
  have HP4 := Lib.hid (fun v => Parse_pair v (((⟨#[]⟩ : ByteArray) ++ ⟨#[48]⟩) ++ ⟨#[48]⟩) (by simp only [ByteArray.size_append]; show _ ≤ 1000000000; have : ∀ x : ByteArray, x.size = x.data.size := fun _ => rfl; have e1 : (⟨#[45]⟩ : ByteArray).size = 1 := rfl; have e2 : (⟨#[]⟩ : ByteArray).size = 0 := rfl; have e3 : (⟨#[46]⟩ : ByteArray).size = 1 := rfl; have e4 : (⟨#[48]⟩ : ByteArray).size = 1 := rfl; have e5 : (⟨#[69, 45]⟩ : ByteArray).size = 2 := rfl; have e6 : (⟨#[48, 48, 48, 101, 48]⟩ : ByteArray).size = 5 := rfl; omega))
  rw [p4] at HP4
  have HP5 := Lib.hid (fun v => Parse_pair v ⟨#[48, 48]⟩ (by decide))
  rw [parse_00] at HP5
  have HDa := Lib.hid (fun v => digits_fn a0 (by omega) v)
  rw [qa] at HDa
  have HDb := Lib.hid (fun v => digits_fn b0 (by omega) v)
  rw [qb] at HDb
  have HDc := Lib.hid (fun v => digits_fn B.size (by omega) v)
  rw [qc] at HDc
  have z1 : ¬ 9223372036854775807 < 0 + 1 := by omega
  have z2 : ¬ 9223372036854775807 < 1 := by omega
  have z3 : ¬ 9223372036854775807 < 0 + 1 + 1 := by omega
  have z4 : ¬ 9223372036854775807 < 1 + 1 := by omega
  have z5 : ¬ 9223372036854775807 < 0 + 1 := by omega
  have z6 : ¬ 9223372036854775807 < 1 := by omega
  have z7 : ¬ 9223372036854775807 < 0 + 1 + 1 := by omega
  have z8 : ¬ 9223372036854775807 < 1 + 1 := by omega
  have z9 : ¬ 9223372036854775807 < 0 + 1 + 1 + B.size := by omega
  have z10 : ¬ 9223372036854775807 < 1 + 1 + B.size := by omega
  have z11 : ¬ 9223372036854775807 < 0 + 1 + 1 + B.size + 5 := by omega
  have z12 : ¬ 9223372036854775807 < 1 + 1 + B.size + 5 := by omega
  have z13 : ¬ 9223372036854775807 < 0 + 1 + B.size := by omega
  have z14 : ¬ 9223372036854775807 < 1 + B.size := by omega
  have z15 : ¬ 9223372036854775807 < 0 + 1 + B.size + 2 := by omega
  have z16 : ¬ 9223372036854775807 < 1 + B.size + 2 := by omega
  have z17 : ¬ 9223372036854775807 < 0 + 1 + B.size + 2 + C.size := by omega
  have z18 : ¬ 9223372036854775807 < 1 + B.size + 2 + C.size := by omega
  have HT := Lib.hid ht
  have HB := Lib.hid (Below.refl w.heap.size w)
  clear ht p1 p2 p3 p4 qa qb qc a1 b1 sb sc
  go_enter Tryd.func9, Tryd.ntmps9
  go_wp2_with fail
  with_reducible refine (awake_any _ HT.out).mono ?_
  rintro e u1 ⟨rfl, hb⟩
  have X2 := Lib.hid (TabB.below HT.out hb)
  have B3 := Lib.hid (HB.out.trans (hb.mono HB.out.size))
  clear hb HT HB
  go_wp2_with fail
  with_reducible refine (HDa.out _).mono ?_
  rintro e u4 ⟨rfl, hb⟩
  have X5 := Lib.hid (TabB.below X2.out hb)
  have B6 := Lib.hid (B3.out.trans (hb.mono B3.out.size))
  clear hb X2 B3
  go_wp2_with fail
  with_reducible refine (HDb.out _).mono ?_
  rintro e u7 ⟨rfl, hb⟩
  have X8 := Lib.hid (TabB.below X5.out hb)
  have B9 := Lib.hid (B6.out.trans (hb.mono B6.out.size))
  clear hb X5 B6
  go_wp2_with fail
  with_reducible refine (HP1.out _).mono ?_
  rintro e u10 ⟨rfl, hb⟩
  have X11 := Lib.hid (TabB.below X8.out hb)
  have B12 := Lib.hid (B9.out.trans (hb.mono B9.out.size))
  clear hb X8 B9
  unfold pairV
  obtain ⟨u13, hwv, hr, hb⟩ := boxed3 u10 (.bool n) (.string d) (.int .i64 e)
  have X14 := Lib.hid (TabB.below X11.out hb)
  have B15 := Lib.hid (B12.out.trans (hb.mono B12.out.size))
  have R16 := Lib.hid hr
  have HYW := Lib.hid hwv
  clear hb hr hwv X11 B12
  go_upto_region 8 with fail
  rw [← HYW.out]
  clear HYW
  go_wp2_with fail
  with_reducible refine (HP2.out _).mono ?_
  rintro e u17 ⟨rfl, hb⟩
  have R18 := Lib.hid ((hb.block _ (lt_of_block R16.out)).trans R16.out)
  have X19 := Lib.hid (TabB.below X14.out hb)
  have B20 := Lib.hid (B15.out.trans (hb.mono B15.out.size))
  clear hb R16 X14 B15
  unfold pairV
  obtain ⟨u21, hwv, hr, hb⟩ := boxed3 u17 (.bool n) (.string d) (.int .i64 e)
  have R22 := Lib.hid ((hb.block _ (lt_of_block R18.out)).trans R18.out)
  have X23 := Lib.hid (TabB.below X19.out hb)
  have B24 := Lib.hid (B20.out.trans (hb.mono B20.out.size))
  have R25 := Lib.hid hr
  have HYW := Lib.hid hwv
  clear hb hr hwv R18 X19 B20
  go_upto_region 9 with fail
  rw [← HYW.out]
  clear HYW
  go_wp2_with fail
  with_reducible refine (HDc.out _).mono ?_
  rintro e u26 ⟨rfl, hb⟩
  have R27 := Lib.hid ((hb.block _ (lt_of_block R22.out)).trans R22.out)
  have R28 := Lib.hid ((hb.block _ (lt_of_block R25.out)).trans R25.out)
  have X29 := Lib.hid (TabB.below X23.out hb)
  have B30 := Lib.hid (B24.out.trans (hb.mono B24.out.size))
  clear hb R22 R25 X23 B24
  go_wp2_with fail
  with_reducible refine (HP3.out _).mono ?_
  rintro e u31 ⟨rfl, hb⟩
  have R32 := Lib.hid ((hb.block _ (lt_of_block R27.out)).trans R27.out)
  have R33 := Lib.hid ((hb.block _ (lt_of_block R28.out)).trans R28.out)
  have X34 := Lib.hid (TabB.below X29.out hb)
  have B35 := Lib.hid (B30.out.trans (hb.mono B30.out.size))
  clear hb R27 R28 X29 B30
  unfold pairV
  obtain ⟨u36, hwv, hr, hb⟩ := boxed3 u31 (.bool hn) (.string hd) (.int .i64 he)
  have R37 := Lib.hid ((hb.block _ (lt_of_block R32.out)).trans R32.out)
  have R38 := Lib.hid ((hb.block _ (lt_of_block R33.out)).trans R33.out)
  have X39 := Lib.hid (TabB.below X34.out hb)
  have B40 := Lib.hid (B35.out.trans (hb.mono B35.out.size))
  have R41 := Lib.hid hr
  have HYW := Lib.hid hwv
  clear hb hr hwv R32 R33 X34 B35
  go_upto_region 10 with fail
  rw [← HYW.out]
  clear HYW
  go_wp2_with fail
  with_reducible refine (HP4.out _).mono ?_
  rintro e u42 ⟨rfl, hb⟩
  have R43 := Lib.hid ((hb.block _ (lt_of_block R37.out)).trans R37.out)
  have R44 := Lib.hid ((hb.block _ (lt_of_block R38.out)).trans R38.out)
  have R45 := Lib.hid ((hb.block _ (lt_of_block R41.out)).trans R41.out)
  have X46 := Lib.hid (TabB.below X39.out hb)
  have B47 := Lib.hid (B40.out.trans (hb.mono B40.out.size))
  clear hb R37 R38 R41 X39 B40
  unfold pairV Nm.zero
  have LD := Lib.hid (lt_of_block R43.out)
  have LF := Lib.hid (lt_of_block R44.out)
  have LH := Lib.hid (lt_of_block R45.out)
  have LS := Lib.hid B47.out.size
  obtain ⟨u48, hwv, hr, hb⟩ := boxed3 u42 (.bool false) (.string ⟨#[]⟩) (.int .i64 0)
  have R49 := Lib.hid ((hb.block _ (lt_of_block R43.out)).trans R43.out)
  have R50 := Lib.hid ((hb.block _ (lt_of_block R44.out)).trans R44.out)
  have R51 := Lib.hid ((hb.block _ (lt_of_block R45.out)).trans R45.out)
  have X52 := Lib.hid (TabB.below X46.out hb)
  have B53 := Lib.hid (B47.out.trans (hb.mono B47.out.size))
  have R54 := Lib.hid hr
  have HYW := Lib.hid hwv
  clear hb hr hwv R43 R44 R45 X46 B47
  go_upto_region 11 with fail
  rw [← HYW.out]
  clear HYW
  go_wp2_with fail
  with_reducible refine (HP5.out _).mono ?_
  rintro e u55 ⟨rfl, hb⟩
  have R56 := Lib.hid ((hb.block _ (lt_of_block R49.out)).trans R49.out)
  have R57 := Lib.hid ((hb.block _ (lt_of_block R50.out)).trans R50.out)
  have R58 := Lib.hid ((hb.block _ (lt_of_block R51.out)).trans R51.out)
  have R59 := Lib.hid ((hb.block _ (lt_of_block R54.out)).trans R54.out)
  have X60 := Lib.hid (TabB.below X52.out hb)
  have B61 := Lib.hid (B53.out.trans (hb.mono B53.out.size))
  clear hb R49 R50 R51 R54 X52 B53
  unfold pairV Nm.zero
  obtain ⟨⟨c0, c1, c2⟩, f0, f1, f2⟩ := row3 R59.out
  obtain ⟨hr, hb⟩ := set3 (v0 := .bool false) (v1 := .string ⟨#[]⟩) (v2 := .int .i64 0) R59.out (Nat.le_refl _) (Below.refl u42.heap.size u55)
  obtain ⟨u62, hwv⟩ : ∃ V, V = ((u55.setCell ⟨u42.heap.size, 0, none⟩ (.bool false)).setCell ⟨u42.heap.size, 1, none⟩ (.string ⟨#[]⟩)).setCell ⟨u42.heap.size, 2, none⟩ (.int .i64 0) := ⟨_, rfl⟩
  rw [← hwv] at hr hb
  have RJ := Lib.hid hr
  have RD := Lib.hid ((hb.block _ LD.out).trans R56.out)
  have RF := Lib.hid ((hb.block _ LF.out).trans R57.out)
  have RH := Lib.hid ((hb.block _ LH.out).trans R58.out)
  have BJ := Lib.hid (B61.out.trans (hb.mono LS.out))
  have HYW := Lib.hid hwv
  clear hr hb hwv
  go_upto_region 14 with fail
  rw [← HYW.out]
  clear HYW c0 c1 c2 f0 f1 f2
  obtain ⟨⟨c63, c64, c65⟩, _⟩ := row3 RD.out
  obtain ⟨⟨c66, c67, c68⟩, _⟩ := row3 RF.out
  obtain ⟨⟨c69, c70, c71⟩, _⟩ := row3 RH.out
  obtain ⟨⟨c72, c73, c74⟩, _⟩ := row3 RJ.out
  go_wp2_with fail
  go_ret
  exact ⟨rfl, BJ.out⟩
end Go.Proofs.YtpnhgggdjlglnaaDoor.dk
/- DecPoints answers true for every two whole numbers and every sign. -/
namespace Go.Proofs.YtpnhgggdjlglnaaDoor.dk
open Go.PlainAid Go.ChangeShapes Go.WideShapes Go.ChangeAt Go.RowKit

theorem andP65535 (n : Int) : bits .and .i64 n 65535 = n % 65536 := by
  have h127 : (BitVec.ofInt 64 65535).toNat = 2 ^ 16 - 1 := by decide
  have key : (BitVec.ofInt 64 n &&& BitVec.ofInt 64 65535).toNat = (n % ((2 ^ 64 : Nat) : Int)).toNat % 2 ^ 16 := by
    rw [BitVec.toNat_and, BitVec.toNat_ofInt, h127, Nat.and_two_pow_sub_one_eq_mod]
  show IntKind.i64.wrap ((BitVec.ofInt 64 n &&& BitVec.ofInt 64 65535).toNat : Nat) = n % 65536
  rw [key, IntKind.wrap_i64]
  omega
theorem ba_ext2 {a b : ByteArray} (h : a.toList = b.toList) : a = b := by
  rw [ByteArray.toList_eq, ByteArray.toList_eq] at h
  obtain ⟨⟨a⟩⟩ := a
  obtain ⟨⟨b⟩⟩ := b
  have : a = b := h
  rw [this]
theorem digB_zero : digB 0 = ⟨#[48]⟩ := digB_one (by decide)
theorem digB_not {a : Nat} (h : a ≠ 0) : ((digB a).toList == [48]) = false := by
  rw [beq_eq_false_iff_ne]
  intro e
  have e2 : digB a = ⟨#[48]⟩ := ba_ext2 (by rw [e, ByteArray.toList_eq])
  have h1 := (dec_facts a).2.2.2.2 (by omega)
  rw [← digB_text, e2] at h1
  exact h1 rfl
theorem points_any (a b : Int) (neg : Bool) (w : World) (ht : TabB w) :
    Calls Tryd.prog 9 #[.int .i64 a, .int .i64 b, .bool neg] w fun e w' => e = .returned (.bool true) ∧ Below w.heap.size w w' := by
  obtain ⟨a0, ha0⟩ : ∃ a0 : Nat, (a0 : Int) = a % 65536 := ⟨(a % 65536).toNat, by omega⟩
  obtain ⟨b0, hb0⟩ : ∃ b0 : Nat, (b0 : Int) = b % 65536 := ⟨(b % 65536).toNat, by omega⟩
  have ha : bits .and .i64 a 65535 = ((a0 : Nat) : Int) := by rw [andP65535, ha0]
  have hb : bits .and .i64 b 65535 = ((b0 : Nat) : Int) := by rw [andP65535, hb0]
  have a1 : a0 < 65536 := by omega
  have b1 : b0 < 65536 := by omega
  obtain ⟨D, hD, p1, p2, p3, p4⟩ := points_facts neg a0 b0 a1 b1
  have za := digB_size 4 a0 (by show a0 < 100000; omega)
  have zb := digB_size 4 b0 (by show b0 < 100000; omega)
  have zc := digB_size 0 (digB b0).size (by show _ < 10; omega)
  obtain ⟨n, d, e⟩ := D
  by_cases h0 : a0 = 0
  · subst h0
    rw [digB_zero] at p1 p2 p4
    obtain ⟨⟨⟨hn, hd, he⟩, hc⟩, h3⟩ : ∃ q, parseP ((((sgB neg ++ ⟨#[48]⟩) ++ digB b0) ++ ⟨#[69, 45]⟩) ++ digB (digB b0).size) = q := ⟨_, rfl⟩
    cases neg with
    | true => exact points_mz w a b 0 b0 ha hb a1 b1 _ _ n d e digB_zero rfl rfl zb (by omega) p1 p2 hn hd he hc h3 p4 ht
    | false => exact points_pz w a b 0 b0 ha hb a1 b1 _ _ n d e digB_zero rfl rfl zb (by omega) p1 p2 hn hd he hc h3 p4 ht
  · have p3 := p3 h0
    cases neg with
    | true => exact points_mn w a b a0 b0 ha hb a1 b1 _ _ _ n d e rfl rfl rfl zb (by omega) za (digB_not h0) p1 p2 p3 p4 ht
    | false => exact points_pn w a b a0 b0 ha hb a1 b1 _ _ _ n d e rfl rfl rfl zb (by omega) za (digB_not h0) p1 p2 p3 p4 ht
end Go.Proofs.YtpnhgggdjlglnaaDoor.dk
