/- The walk of DecRing. -/
import Derived.Test.YtpnhgggdjlglnaaDoorL6
import Derived.Deep.DeepCutAuto
import Derived.Deep.CutBlock
namespace Go.Proofs.YtpnhgggdjlglnaaDoor.dk
open Go.PlainAid Go.ChangeShapes Go.WideShapes Go.ChangeAt Go.RowKit

set_option maxRecDepth 100000 in
set_option maxHeartbeats 4000000 in
theorem ring_no1 (w : World) (n1 n2 n3 : Bool) (d1 d2 d3 : ByteArray) (e1 e2 e3 : Int) (h1 : dsane n1 (unstr d1) e1 = false) (ht : TabB w) :
    Calls Tryd.prog 5 #[.agg #[.bool n1, .string d1, .int .i64 e1], .agg #[.bool n2, .string d2, .int .i64 e2], .agg #[.bool n3, .string d3, .int .i64 e3]] w fun e w' => e = .returned (.bool true) ∧ Below w.heap.size w w' := by
  have HS1 := Lib.hid (fun v => Sane_all v n1 d1 e1)
  have HS2 := Lib.hid (fun v => Sane_all v n2 d2 e2)
  have HS3 := Lib.hid (fun v => Sane_all v n3 d3 e3)
  rw [h1] at HS1
  clear h1
  obtain ⟨wa, hwa, r1, r2, r3, hB⟩ := rows3_at w n1 n2 n3 d1 d2 d3 e1 e2 e3
  have HW := Lib.hid hwa
  have HB := Lib.hid hB
  have HRa := Lib.hid r1
  have HRb := Lib.hid r2
  have HRc := Lib.hid r3
  have HT := Lib.hid (TabB.below ht hB)
  clear hwa hB r1 r2 r3 ht
  go_enter Tryd.func5, Tryd.ntmps5
  go_upto_region 1 with fail
  rw [← HW.out]
  clear HW
  go_wp2_with fail
  with_reducible refine (awake_any _ HT.out).mono ?_
  rintro e u1 ⟨rfl, hb⟩
  have R2 := Lib.hid ((hb.block _ (lt_of_block HRa.out)).trans HRa.out)
  have R3 := Lib.hid ((hb.block _ (lt_of_block HRb.out)).trans HRb.out)
  have R4 := Lib.hid ((hb.block _ (lt_of_block HRc.out)).trans HRc.out)
  have X5 := Lib.hid (TabB.below HT.out hb)
  have B6 := Lib.hid (HB.out.trans (hb.mono HB.out.size))
  clear hb HRa HRb HRc HT HB
  obtain ⟨⟨c7, c8, c9⟩, _⟩ := row3 R2.out
  go_wp2_with fail
  clear c7 c8 c9
  with_reducible refine (HS1.out _).mono ?_
  rintro e u10 ⟨rfl, hb⟩
  have R11 := Lib.hid ((hb.block _ (lt_of_block R2.out)).trans R2.out)
  have R12 := Lib.hid ((hb.block _ (lt_of_block R3.out)).trans R3.out)
  have R13 := Lib.hid ((hb.block _ (lt_of_block R4.out)).trans R4.out)
  have X14 := Lib.hid (TabB.below X5.out hb)
  have B15 := Lib.hid (B6.out.trans (hb.mono B6.out.size))
  clear hb R2 R3 R4 X5 B6
  go_wp2_with fail
  go_ret
  exact ⟨rfl, B15.out⟩
set_option maxRecDepth 100000 in
set_option maxHeartbeats 4000000 in
theorem ring_no2 (w : World) (n1 n2 n3 : Bool) (d1 d2 d3 : ByteArray) (e1 e2 e3 : Int) (h1 : dsane n1 (unstr d1) e1 = true) (h2 : dsane n2 (unstr d2) e2 = false) (ht : TabB w) :
    Calls Tryd.prog 5 #[.agg #[.bool n1, .string d1, .int .i64 e1], .agg #[.bool n2, .string d2, .int .i64 e2], .agg #[.bool n3, .string d3, .int .i64 e3]] w fun e w' => e = .returned (.bool true) ∧ Below w.heap.size w w' := by
  have HS1 := Lib.hid (fun v => Sane_all v n1 d1 e1)
  have HS2 := Lib.hid (fun v => Sane_all v n2 d2 e2)
  have HS3 := Lib.hid (fun v => Sane_all v n3 d3 e3)
  rw [h1] at HS1
  rw [h2] at HS2
  clear h1 h2
  obtain ⟨wa, hwa, r1, r2, r3, hB⟩ := rows3_at w n1 n2 n3 d1 d2 d3 e1 e2 e3
  have HW := Lib.hid hwa
  have HB := Lib.hid hB
  have HRa := Lib.hid r1
  have HRb := Lib.hid r2
  have HRc := Lib.hid r3
  have HT := Lib.hid (TabB.below ht hB)
  clear hwa hB r1 r2 r3 ht
  go_enter Tryd.func5, Tryd.ntmps5
  go_upto_region 1 with fail
  rw [← HW.out]
  clear HW
  go_wp2_with fail
  with_reducible refine (awake_any _ HT.out).mono ?_
  rintro e u1 ⟨rfl, hb⟩
  have R2 := Lib.hid ((hb.block _ (lt_of_block HRa.out)).trans HRa.out)
  have R3 := Lib.hid ((hb.block _ (lt_of_block HRb.out)).trans HRb.out)
  have R4 := Lib.hid ((hb.block _ (lt_of_block HRc.out)).trans HRc.out)
  have X5 := Lib.hid (TabB.below HT.out hb)
  have B6 := Lib.hid (HB.out.trans (hb.mono HB.out.size))
  clear hb HRa HRb HRc HT HB
  obtain ⟨⟨c7, c8, c9⟩, _⟩ := row3 R2.out
  go_wp2_with fail
  clear c7 c8 c9
  with_reducible refine (HS1.out _).mono ?_
  rintro e u10 ⟨rfl, hb⟩
  have R11 := Lib.hid ((hb.block _ (lt_of_block R2.out)).trans R2.out)
  have R12 := Lib.hid ((hb.block _ (lt_of_block R3.out)).trans R3.out)
  have R13 := Lib.hid ((hb.block _ (lt_of_block R4.out)).trans R4.out)
  have X14 := Lib.hid (TabB.below X5.out hb)
  have B15 := Lib.hid (B6.out.trans (hb.mono B6.out.size))
  clear hb R2 R3 R4 X5 B6
  obtain ⟨⟨c16, c17, c18⟩, _⟩ := row3 R12.out
  go_wp2_with fail
  clear c16 c17 c18
  with_reducible refine (HS2.out _).mono ?_
  rintro e u19 ⟨rfl, hb⟩
  have R20 := Lib.hid ((hb.block _ (lt_of_block R11.out)).trans R11.out)
  have R21 := Lib.hid ((hb.block _ (lt_of_block R12.out)).trans R12.out)
  have R22 := Lib.hid ((hb.block _ (lt_of_block R13.out)).trans R13.out)
  have X23 := Lib.hid (TabB.below X14.out hb)
  have B24 := Lib.hid (B15.out.trans (hb.mono B15.out.size))
  clear hb R11 R12 R13 X14 B15
  go_wp2_with fail
  go_ret
  exact ⟨rfl, B24.out⟩
set_option maxRecDepth 100000 in
set_option maxHeartbeats 4000000 in
theorem ring_no3 (w : World) (n1 n2 n3 : Bool) (d1 d2 d3 : ByteArray) (e1 e2 e3 : Int) (h1 : dsane n1 (unstr d1) e1 = true) (h2 : dsane n2 (unstr d2) e2 = true) (h3 : dsane n3 (unstr d3) e3 = false) (ht : TabB w) :
    Calls Tryd.prog 5 #[.agg #[.bool n1, .string d1, .int .i64 e1], .agg #[.bool n2, .string d2, .int .i64 e2], .agg #[.bool n3, .string d3, .int .i64 e3]] w fun e w' => e = .returned (.bool true) ∧ Below w.heap.size w w' := by
  have HS1 := Lib.hid (fun v => Sane_all v n1 d1 e1)
  have HS2 := Lib.hid (fun v => Sane_all v n2 d2 e2)
  have HS3 := Lib.hid (fun v => Sane_all v n3 d3 e3)
  rw [h1] at HS1
  rw [h2] at HS2
  rw [h3] at HS3
  clear h1 h2 h3
  obtain ⟨wa, hwa, r1, r2, r3, hB⟩ := rows3_at w n1 n2 n3 d1 d2 d3 e1 e2 e3
  have HW := Lib.hid hwa
  have HB := Lib.hid hB
  have HRa := Lib.hid r1
  have HRb := Lib.hid r2
  have HRc := Lib.hid r3
  have HT := Lib.hid (TabB.below ht hB)
  clear hwa hB r1 r2 r3 ht
  go_enter Tryd.func5, Tryd.ntmps5
  go_upto_region 1 with fail
  rw [← HW.out]
  clear HW
  go_wp2_with fail
  with_reducible refine (awake_any _ HT.out).mono ?_
  rintro e u1 ⟨rfl, hb⟩
  have R2 := Lib.hid ((hb.block _ (lt_of_block HRa.out)).trans HRa.out)
  have R3 := Lib.hid ((hb.block _ (lt_of_block HRb.out)).trans HRb.out)
  have R4 := Lib.hid ((hb.block _ (lt_of_block HRc.out)).trans HRc.out)
  have X5 := Lib.hid (TabB.below HT.out hb)
  have B6 := Lib.hid (HB.out.trans (hb.mono HB.out.size))
  clear hb HRa HRb HRc HT HB
  obtain ⟨⟨c7, c8, c9⟩, _⟩ := row3 R2.out
  go_wp2_with fail
  clear c7 c8 c9
  with_reducible refine (HS1.out _).mono ?_
  rintro e u10 ⟨rfl, hb⟩
  have R11 := Lib.hid ((hb.block _ (lt_of_block R2.out)).trans R2.out)
  have R12 := Lib.hid ((hb.block _ (lt_of_block R3.out)).trans R3.out)
  have R13 := Lib.hid ((hb.block _ (lt_of_block R4.out)).trans R4.out)
  have X14 := Lib.hid (TabB.below X5.out hb)
  have B15 := Lib.hid (B6.out.trans (hb.mono B6.out.size))
  clear hb R2 R3 R4 X5 B6
  obtain ⟨⟨c16, c17, c18⟩, _⟩ := row3 R12.out
  go_wp2_with fail
  clear c16 c17 c18
  with_reducible refine (HS2.out _).mono ?_
  rintro e u19 ⟨rfl, hb⟩
  have R20 := Lib.hid ((hb.block _ (lt_of_block R11.out)).trans R11.out)
  have R21 := Lib.hid ((hb.block _ (lt_of_block R12.out)).trans R12.out)
  have R22 := Lib.hid ((hb.block _ (lt_of_block R13.out)).trans R13.out)
  have X23 := Lib.hid (TabB.below X14.out hb)
  have B24 := Lib.hid (B15.out.trans (hb.mono B15.out.size))
  clear hb R11 R12 R13 X14 B15
  obtain ⟨⟨c25, c26, c27⟩, _⟩ := row3 R22.out
  go_wp2_with fail
  clear c25 c26 c27
  with_reducible refine (HS3.out _).mono ?_
  rintro e u28 ⟨rfl, hb⟩
  have R29 := Lib.hid ((hb.block _ (lt_of_block R20.out)).trans R20.out)
  have R30 := Lib.hid ((hb.block _ (lt_of_block R21.out)).trans R21.out)
  have R31 := Lib.hid ((hb.block _ (lt_of_block R22.out)).trans R22.out)
  have X32 := Lib.hid (TabB.below X23.out hb)
  have B33 := Lib.hid (B24.out.trans (hb.mono B24.out.size))
  clear hb R20 R21 R22 X23 B24
  go_wp2_with fail
  go_ret
  exact ⟨rfl, B33.out⟩
set_option maxRecDepth 100000 in
set_option maxHeartbeats 4000000 in
theorem ring_ok (w : World) (n1 n2 n3 : Bool) (d1 d2 d3 : ByteArray) (e1 e2 e3 : Int) (h1 : dsane n1 (unstr d1) e1 = true) (h2 : dsane n2 (unstr d2) e2 = true) (h3 : dsane n3 (unstr d3) e3 = true) (xn pn un vn tn sn m2 : Bool) (xd pd ud vd td sd : ByteArray) (xe pe ue ve te se gc ic jc kc lc : Int) (a1 : addP ⟨n1, d1, e1⟩ ⟨n2, d2, e2⟩ = (⟨xn, xd, xe⟩, 0)) (a2 : addP ⟨n2, d2, e2⟩ ⟨n1, d1, e1⟩ = (⟨xn, xd, xe⟩, 0)) (a3 : mulP ⟨n1, d1, e1⟩ ⟨n2, d2, e2⟩ = (⟨pn, pd, pe⟩, gc)) (a4 : mulP ⟨n2, d2, e2⟩ ⟨n1, d1, e1⟩ = (⟨pn, pd, pe⟩, gc)) (q2 : ngd n2 d2 e2 = m2) (a5 : addP ⟨xn, xd, xe⟩ ⟨m2, d2, e2⟩ = (⟨n1, d1, e1⟩, 0)) (a6 : mulP ⟨n1, d1, e1⟩ ⟨n3, d3, e3⟩ = (⟨un, ud, ue⟩, ic)) (a7 : mulP ⟨n2, d2, e2⟩ ⟨n3, d3, e3⟩ = (⟨vn, vd, ve⟩, jc)) (a8 : mulP ⟨xn, xd, xe⟩ ⟨n3, d3, e3⟩ = (⟨tn, td, te⟩, kc)) (a9 : addP ⟨un, ud, ue⟩ ⟨vn, vd, ve⟩ = (⟨sn, sd, se⟩, lc)) (sx : xd.size ≤ 1000000) (su : ud.size ≤ 1000000) (sv : vd.size ≤ 1000000) (hi : ic = 0 ∨ ic = 4) (hj : jc = 0 ∨ jc = 4) (hk : kc = 0 ∨ kc = 4) (hl : lc = 0 ∨ lc = 4) (hs : ic = 0 → jc = 0 → kc = 0 → lc = 0 → sn = tn ∧ sd = td ∧ se = te) (ht : TabB w) :
    Calls Tryd.prog 5 #[.agg #[.bool n1, .string d1, .int .i64 e1], .agg #[.bool n2, .string d2, .int .i64 e2], .agg #[.bool n3, .string d3, .int .i64 e3]] w fun e w' => e = .returned (.bool true) ∧ Below w.heap.size w w' := by
  have HS1 := Lib.hid (fun v => Sane_all v n1 d1 e1)
  have HS2 := Lib.hid (fun v => Sane_all v n2 d2 e2)
  have HS3 := Lib.hid (fun v => Sane_all v n3 d3 e3)
  obtain ⟨z11, z12, z13⟩ := dsane_any h1
  obtain ⟨z21, z22, z23⟩ := dsane_any h2
  obtain ⟨z31, z32, z33⟩ := dsane_any h3
  have HA1 := Lib.hid (fun v => Add_pair v n1 d1 e1 n2 d2 e2 (by omega) (by omega))
  rw [a1] at HA1
  have HA2 := Lib.hid (fun v => Add_pair v n2 d2 e2 n1 d1 e1 (by omega) (by omega))
  rw [a2] at HA2
  have HA3 := Lib.hid (fun v => Mul_pair v n1 d1 e1 n2 d2 e2 (by omega) (by omega))
  rw [a3] at HA3
  have HA4 := Lib.hid (fun v => Mul_pair v n2 d2 e2 n1 d1 e1 (by omega) (by omega))
  rw [a4] at HA4
  have HA5 := Lib.hid (fun v => Add_pair v xn xd xe m2 d2 e2 (by omega) (by omega))
  rw [a5] at HA5
  have HN := Lib.hid (fun v => Neg_any v n2 d2 e2 (by omega))
  rw [q2] at HN
  have HA6 := Lib.hid (fun v => Mul_pair v n1 d1 e1 n3 d3 e3 (by omega) (by omega))
  rw [a6] at HA6
  have HA7 := Lib.hid (fun v => Mul_pair v n2 d2 e2 n3 d3 e3 (by omega) (by omega))
  rw [a7] at HA7
  have HA8 := Lib.hid (fun v => Mul_pair v xn xd xe n3 d3 e3 (by omega) (by omega))
  rw [a8] at HA8
  have HA9 := Lib.hid (fun v => Add_pair v un ud ue vn vd ve (by omega) (by omega))
  rw [a9] at HA9
  rw [h1] at HS1
  rw [h2] at HS2
  rw [h3] at HS3
  have HIc := Lib.hid hi
  have HJc := Lib.hid hj
  have HKc := Lib.hid hk
  have HLc := Lib.hid hl
  have HSs := Lib.hid hs
  clear a1 a2 a3 a4 a5 q2 hi hj hk hl hs a6 a7 a8 a9 h1 h2 h3 z11 z12 z13 z21 z22 z23 z31 z32 z33 sx su sv
  obtain ⟨wa, hwa, r1, r2, r3, hB⟩ := rows3_at w n1 n2 n3 d1 d2 d3 e1 e2 e3
  have HW := Lib.hid hwa
  have HB := Lib.hid hB
  have HRa := Lib.hid r1
  have HRb := Lib.hid r2
  have HRc := Lib.hid r3
  have HT := Lib.hid (TabB.below ht hB)
  clear hwa hB r1 r2 r3 ht
  go_enter Tryd.func5, Tryd.ntmps5
  go_upto_region 1 with fail
  rw [← HW.out]
  clear HW
  go_wp2_with fail
  with_reducible refine (awake_any _ HT.out).mono ?_
  rintro e u1 ⟨rfl, hb⟩
  have R2 := Lib.hid ((hb.block _ (lt_of_block HRa.out)).trans HRa.out)
  have R3 := Lib.hid ((hb.block _ (lt_of_block HRb.out)).trans HRb.out)
  have R4 := Lib.hid ((hb.block _ (lt_of_block HRc.out)).trans HRc.out)
  have X5 := Lib.hid (TabB.below HT.out hb)
  have B6 := Lib.hid (HB.out.trans (hb.mono HB.out.size))
  clear hb HRa HRb HRc HT HB
  obtain ⟨⟨c7, c8, c9⟩, _⟩ := row3 R2.out
  go_wp2_with fail
  clear c7 c8 c9
  with_reducible refine (HS1.out _).mono ?_
  rintro e u10 ⟨rfl, hb⟩
  have R11 := Lib.hid ((hb.block _ (lt_of_block R2.out)).trans R2.out)
  have R12 := Lib.hid ((hb.block _ (lt_of_block R3.out)).trans R3.out)
  have R13 := Lib.hid ((hb.block _ (lt_of_block R4.out)).trans R4.out)
  have X14 := Lib.hid (TabB.below X5.out hb)
  have B15 := Lib.hid (B6.out.trans (hb.mono B6.out.size))
  clear hb R2 R3 R4 X5 B6
  obtain ⟨⟨c16, c17, c18⟩, _⟩ := row3 R12.out
  go_wp2_with fail
  clear c16 c17 c18
  with_reducible refine (HS2.out _).mono ?_
  rintro e u19 ⟨rfl, hb⟩
  have R20 := Lib.hid ((hb.block _ (lt_of_block R11.out)).trans R11.out)
  have R21 := Lib.hid ((hb.block _ (lt_of_block R12.out)).trans R12.out)
  have R22 := Lib.hid ((hb.block _ (lt_of_block R13.out)).trans R13.out)
  have X23 := Lib.hid (TabB.below X14.out hb)
  have B24 := Lib.hid (B15.out.trans (hb.mono B15.out.size))
  clear hb R11 R12 R13 X14 B15
  obtain ⟨⟨c25, c26, c27⟩, _⟩ := row3 R22.out
  go_wp2_with fail
  clear c25 c26 c27
  with_reducible refine (HS3.out _).mono ?_
  rintro e u28 ⟨rfl, hb⟩
  have R29 := Lib.hid ((hb.block _ (lt_of_block R20.out)).trans R20.out)
  have R30 := Lib.hid ((hb.block _ (lt_of_block R21.out)).trans R21.out)
  have R31 := Lib.hid ((hb.block _ (lt_of_block R22.out)).trans R22.out)
  have X32 := Lib.hid (TabB.below X23.out hb)
  have B33 := Lib.hid (B24.out.trans (hb.mono B24.out.size))
  clear hb R20 R21 R22 X23 B24
  obtain ⟨⟨c34, c35, c36⟩, _⟩ := row3 R29.out
  obtain ⟨⟨c37, c38, c39⟩, _⟩ := row3 R30.out
  go_wp2_with fail
  clear c34 c35 c36 c37 c38 c39
  with_reducible refine (HA1.out _).mono ?_
  rintro e u40 ⟨rfl, hb⟩
  have R41 := Lib.hid ((hb.block _ (lt_of_block R29.out)).trans R29.out)
  have R42 := Lib.hid ((hb.block _ (lt_of_block R30.out)).trans R30.out)
  have R43 := Lib.hid ((hb.block _ (lt_of_block R31.out)).trans R31.out)
  have X44 := Lib.hid (TabB.below X32.out hb)
  have B45 := Lib.hid (B33.out.trans (hb.mono B33.out.size))
  clear hb R29 R30 R31 X32 B33
  unfold pairV
  obtain ⟨u46, hwv, hr, hb⟩ := boxed3 u40 (.bool xn) (.string xd) (.int .i64 xe)
  have R47 := Lib.hid ((hb.block _ (lt_of_block R41.out)).trans R41.out)
  have R48 := Lib.hid ((hb.block _ (lt_of_block R42.out)).trans R42.out)
  have R49 := Lib.hid ((hb.block _ (lt_of_block R43.out)).trans R43.out)
  have X50 := Lib.hid (TabB.below X44.out hb)
  have B51 := Lib.hid (B45.out.trans (hb.mono B45.out.size))
  have R52 := Lib.hid hr
  have HYW := Lib.hid hwv
  clear hb hr hwv R41 R42 R43 X44 B45
  go_upto_region 5 with fail
  rw [← HYW.out]
  clear HYW
  obtain ⟨⟨c53, c54, c55⟩, _⟩ := row3 R48.out
  obtain ⟨⟨c56, c57, c58⟩, _⟩ := row3 R47.out
  go_wp2_with fail
  clear c53 c54 c55 c56 c57 c58
  with_reducible refine (HA2.out _).mono ?_
  rintro e u59 ⟨rfl, hb⟩
  have R60 := Lib.hid ((hb.block _ (lt_of_block R47.out)).trans R47.out)
  have R61 := Lib.hid ((hb.block _ (lt_of_block R48.out)).trans R48.out)
  have R62 := Lib.hid ((hb.block _ (lt_of_block R49.out)).trans R49.out)
  have R63 := Lib.hid ((hb.block _ (lt_of_block R52.out)).trans R52.out)
  have X64 := Lib.hid (TabB.below X50.out hb)
  have B65 := Lib.hid (B51.out.trans (hb.mono B51.out.size))
  clear hb R47 R48 R49 R52 X50 B51
  unfold pairV
  obtain ⟨u66, hwv, hr, hb⟩ := boxed3 u59 (.bool xn) (.string xd) (.int .i64 xe)
  have R67 := Lib.hid ((hb.block _ (lt_of_block R60.out)).trans R60.out)
  have R68 := Lib.hid ((hb.block _ (lt_of_block R61.out)).trans R61.out)
  have R69 := Lib.hid ((hb.block _ (lt_of_block R62.out)).trans R62.out)
  have R70 := Lib.hid ((hb.block _ (lt_of_block R63.out)).trans R63.out)
  have X71 := Lib.hid (TabB.below X64.out hb)
  have B72 := Lib.hid (B65.out.trans (hb.mono B65.out.size))
  have R73 := Lib.hid hr
  have HYW := Lib.hid hwv
  clear hb hr hwv R60 R61 R62 R63 X64 B65
  go_upto_region 6 with fail
  rw [← HYW.out]
  clear HYW
  obtain ⟨⟨c74, c75, c76⟩, _⟩ := row3 R67.out
  obtain ⟨⟨c77, c78, c79⟩, _⟩ := row3 R68.out
  go_wp2_with fail
  clear c74 c75 c76 c77 c78 c79
  with_reducible refine (HA3.out _).mono ?_
  rintro e u80 ⟨rfl, hb⟩
  have R81 := Lib.hid ((hb.block _ (lt_of_block R67.out)).trans R67.out)
  have R82 := Lib.hid ((hb.block _ (lt_of_block R68.out)).trans R68.out)
  have R83 := Lib.hid ((hb.block _ (lt_of_block R69.out)).trans R69.out)
  have R84 := Lib.hid ((hb.block _ (lt_of_block R70.out)).trans R70.out)
  have R85 := Lib.hid ((hb.block _ (lt_of_block R73.out)).trans R73.out)
  have X86 := Lib.hid (TabB.below X71.out hb)
  have B87 := Lib.hid (B72.out.trans (hb.mono B72.out.size))
  clear hb R67 R68 R69 R70 R73 X71 B72
  unfold pairV
  obtain ⟨u88, hwv, hr, hb⟩ := boxed3 u80 (.bool pn) (.string pd) (.int .i64 pe)
  have R89 := Lib.hid ((hb.block _ (lt_of_block R81.out)).trans R81.out)
  have R90 := Lib.hid ((hb.block _ (lt_of_block R82.out)).trans R82.out)
  have R91 := Lib.hid ((hb.block _ (lt_of_block R83.out)).trans R83.out)
  have R92 := Lib.hid ((hb.block _ (lt_of_block R84.out)).trans R84.out)
  have R93 := Lib.hid ((hb.block _ (lt_of_block R85.out)).trans R85.out)
  have X94 := Lib.hid (TabB.below X86.out hb)
  have B95 := Lib.hid (B87.out.trans (hb.mono B87.out.size))
  have R96 := Lib.hid hr
  have HYW := Lib.hid hwv
  clear hb hr hwv R81 R82 R83 R84 R85 X86 B87
  go_upto_region 7 with fail
  rw [← HYW.out]
  clear HYW
  obtain ⟨⟨c97, c98, c99⟩, _⟩ := row3 R90.out
  obtain ⟨⟨c100, c101, c102⟩, _⟩ := row3 R89.out
  go_wp2_with fail
  clear c97 c98 c99 c100 c101 c102
  with_reducible refine (HA4.out _).mono ?_
  rintro e u103 ⟨rfl, hb⟩
  have R104 := Lib.hid ((hb.block _ (lt_of_block R89.out)).trans R89.out)
  have R105 := Lib.hid ((hb.block _ (lt_of_block R90.out)).trans R90.out)
  have R106 := Lib.hid ((hb.block _ (lt_of_block R91.out)).trans R91.out)
  have R107 := Lib.hid ((hb.block _ (lt_of_block R92.out)).trans R92.out)
  have R108 := Lib.hid ((hb.block _ (lt_of_block R93.out)).trans R93.out)
  have R109 := Lib.hid ((hb.block _ (lt_of_block R96.out)).trans R96.out)
  have X110 := Lib.hid (TabB.below X94.out hb)
  have B111 := Lib.hid (B95.out.trans (hb.mono B95.out.size))
  clear hb R89 R90 R91 R92 R93 R96 X94 B95
  unfold pairV
  obtain ⟨u112, hwv, hr, hb⟩ := boxed3 u103 (.bool pn) (.string pd) (.int .i64 pe)
  have R113 := Lib.hid ((hb.block _ (lt_of_block R104.out)).trans R104.out)
  have R114 := Lib.hid ((hb.block _ (lt_of_block R105.out)).trans R105.out)
  have R115 := Lib.hid ((hb.block _ (lt_of_block R106.out)).trans R106.out)
  have R116 := Lib.hid ((hb.block _ (lt_of_block R107.out)).trans R107.out)
  have R117 := Lib.hid ((hb.block _ (lt_of_block R108.out)).trans R108.out)
  have R118 := Lib.hid ((hb.block _ (lt_of_block R109.out)).trans R109.out)
  have X119 := Lib.hid (TabB.below X110.out hb)
  have B120 := Lib.hid (B111.out.trans (hb.mono B111.out.size))
  have R121 := Lib.hid hr
  have HYW := Lib.hid hwv
  clear hb hr hwv R104 R105 R106 R107 R108 R109 X110 B111
  go_upto_region 8 with fail
  rw [← HYW.out]
  clear HYW
  obtain ⟨⟨c122, c123, c124⟩, _⟩ := row3 R116.out
  obtain ⟨⟨c125, c126, c127⟩, _⟩ := row3 R117.out
  obtain ⟨⟨c128, c129, c130⟩, _⟩ := row3 R118.out
  obtain ⟨⟨c131, c132, c133⟩, _⟩ := row3 R121.out
  go_upto_region 11 with fail
  clear c122 c123 c124 c125 c126 c127 c128 c129 c130 c131 c132 c133
  have hbd : Below u112.heap.size u112 u112.drew := (Below.refl _ _).drew
  have R134 := Lib.hid ((hbd.block _ (lt_of_block R113.out)).trans R113.out)
  have R135 := Lib.hid ((hbd.block _ (lt_of_block R114.out)).trans R114.out)
  have R136 := Lib.hid ((hbd.block _ (lt_of_block R115.out)).trans R115.out)
  have R137 := Lib.hid ((hbd.block _ (lt_of_block R116.out)).trans R116.out)
  have R138 := Lib.hid ((hbd.block _ (lt_of_block R117.out)).trans R117.out)
  have R139 := Lib.hid ((hbd.block _ (lt_of_block R118.out)).trans R118.out)
  have R140 := Lib.hid ((hbd.block _ (lt_of_block R121.out)).trans R121.out)
  have X141 := Lib.hid (TabB.below X119.out hbd)
  have B142 := Lib.hid (B120.out.trans (hbd.mono B120.out.size))
  clear hbd R113 R114 R115 R116 R117 R118 R121 X119 B120
  have hT0 : (fun W : World => Below u112.drew.heap.size u112.drew W) u112.drew := Below.refl _ _
  refine wp_region_held_drew (S := (fun W : World => Below u112.drew.heap.size u112.drew W)) (by kernel_rfl) hT0 (fun hHeld => ?_)
  clear hHeld
  generalize u112.drew = wd143 at B142 R134 R135 R136 R137 R138 R139 R140 X141 hT0 ⊢
  refine wpAnyH_take (i := 0) (oi := { dst := some 86, op := Op.load 23 (Operand.tmp 8), type := 23, pos := "law.go:79", after := #[], guard := none }) (v := ?_) rfl (by kernel_rfl) (by kernel_rfl) (by kernel_rfl) (fun _ _ _ h => h) (Or.inl ⟨by rfl, ?_⟩) (by assumption) ?_
  rotate_left
  · intro w hSw
    try dsimp only at hSw
    obtain ⟨⟨c0, c1, c2⟩, _⟩ := row3 ((hSw.block _ (lt_of_block R137.out)).trans R137.out)
    go_simp
    try with_reducible rfl
  try simp only [Act.put, List.setIfInBounds_toArray, List.set_cons_zero, List.set_cons_succ]
  refine wpAnyH_take (i := 1) (oi := { dst := some 87, op := Op.load 23 (Operand.tmp 4), type := 23, pos := "law.go:79", after := #[], guard := none }) (v := ?_) rfl (by kernel_rfl) (by kernel_rfl) (by kernel_rfl) (fun _ _ _ h => h) (Or.inl ⟨by rfl, ?_⟩) (by assumption) ?_
  rotate_left
  · intro w hSw
    try dsimp only at hSw
    obtain ⟨⟨c0, c1, c2⟩, _⟩ := row3 ((hSw.block _ (lt_of_block R135.out)).trans R135.out)
    go_simp
    try with_reducible rfl
  try simp only [Act.put, List.setIfInBounds_toArray, List.set_cons_zero, List.set_cons_succ]
  refine wpAnyH_ready (rs := [2, 7]) (by kernel_rfl) (by simp) ?_
  refine AllReadyH.cons (o := { dst := some 88, op := Op.call { callee := Callee.value (Operand.func 20), args := #[Operand.tmp 87], argTypes := #[23] }, type := 23, pos := "law.go:79", after := #[{ on := 1, ground := Ground.data }], guard := none }) rfl (fun K hK => ?_) (AllReadyH.cons (o := { dst := some 16, op := Op.alloc 23, type := 0, pos := "law.go:79", after := #[], guard := none }) rfl (fun K hK => ?_) AllReadyH.nil)
  · go_simp
    with_reducible refine (HN.out _).mono ?_
    rintro e q144 ⟨rfl, hb⟩
    have hT1 : (fun W : World => Below wd143.heap.size wd143 W) q144 := hT0.trans (hb.mono hT0.size)
    try unfold pairV
    refine hK.out _ _ hT1 (fun _ => ?_)
    clear hK K hb
    try simp only [Act.put, List.setIfInBounds_toArray, List.set_cons_zero, List.set_cons_succ]
    refine wpAnyH_ready (rs := [3, 7]) (by kernel_rfl) (by simp) ?_
    refine AllReadyH.cons (o := { dst := some 89, op := Op.call { callee := Callee.value (Operand.func 11), args := #[Operand.tmp 86, Operand.tmp 88], argTypes := #[23, 23] }, type := 26, pos := "law.go:79", after := #[{ on := 0, ground := Ground.data }, { on := 2, ground := Ground.data }, { on := 2, ground := Ground.chain }], guard := none }) rfl (fun K hK => ?_) (AllReadyH.cons (o := { dst := some 16, op := Op.alloc 23, type := 0, pos := "law.go:79", after := #[], guard := none }) rfl (fun K hK => ?_) AllReadyH.nil)
    · go_simp
      with_reducible refine (HA5.out _).mono ?_
      rintro e q145 ⟨rfl, hb⟩
      have hT2 : (fun W : World => Below wd143.heap.size wd143 W) q145 := hT1.trans (hb.mono hT1.size)
      try unfold pairV
      refine hK.out _ _ hT2 (fun _ => ?_)
      clear hK K hb
      refine wpAnyH_take (i := 4) (oi := { dst := some 85, op := Op.move (Operand.tmp 89), type := 26, pos := "law.go:79", after := #[{ on := 3, ground := Ground.data }], guard := none }) (v := ?_) rfl (by kernel_rfl) (by kernel_rfl) (by kernel_rfl) (fun _ _ _ h => h) (Or.inl ⟨by rfl, ?_⟩) (by assumption) ?_
      rotate_left
      · intro w hSw
        try dsimp only at hSw
        go_simp
        try with_reducible rfl
      try simp only [Act.put, List.setIfInBounds_toArray, List.set_cons_zero, List.set_cons_succ]
      refine wpAnyH_take (i := 5) (oi := { dst := some 90, op := Op.extract (Operand.tmp 85) 0, type := 23, pos := "law.go:79", after := #[{ on := 4, ground := Ground.data }], guard := none }) (v := ?_) rfl (by kernel_rfl) (by kernel_rfl) (by kernel_rfl) (fun _ _ _ h => h) (Or.inl ⟨by rfl, ?_⟩) (by assumption) ?_
      rotate_left
      · intro w hSw
        try dsimp only at hSw
        go_simp
        try with_reducible rfl
      try simp only [Act.put, List.setIfInBounds_toArray, List.set_cons_zero, List.set_cons_succ]
      refine wpAnyH_take (i := 6) (oi := { dst := some 91, op := Op.extract (Operand.tmp 85) 1, type := 25, pos := "law.go:79", after := #[{ on := 4, ground := Ground.data }, { on := 8, ground := Ground.gcOnly Departure.lateStores }], guard := none }) (v := ?_) rfl (by kernel_rfl) (by kernel_rfl) (by kernel_rfl) (fun _ _ _ h => h) (Or.inl ⟨by rfl, ?_⟩) (by assumption) ?_
      rotate_left
      · intro w hSw
        try dsimp only at hSw
        go_simp
        try with_reducible rfl
      try simp only [Act.put, List.setIfInBounds_toArray, List.set_cons_zero, List.set_cons_succ]
      refine wpAnyH_ready (rs := [7]) (by kernel_rfl) (by simp) ?_
      refine AllReadyH.cons (o := { dst := some 16, op := Op.alloc 23, type := 0, pos := "law.go:79", after := #[], guard := none }) rfl (fun K hK => ?_) AllReadyH.nil
      go_simp
      have hT3 : (fun W : World => Below wd143.heap.size wd143 W) (q145.alloc (.cells #[.bool false, .string ⟨#[]⟩, .int .i64 0] 23)) := hT2.alloc hT2.size _
      have HZ3 := Lib.hid (heap_alloc_new q145 (.cells #[.bool false, .string ⟨#[]⟩, .int .i64 0] 23))
      have HGe := Lib.hid hT2.size
      generalize q145.alloc (.cells #[.bool false, .string ⟨#[]⟩, .int .i64 0] 23) = q146 at hT3 HZ3 ⊢
      refine hK.out _ _ hT3 (fun _ => ?_)
      clear hK K
      try simp only [Act.put, List.setIfInBounds_toArray, List.set_cons_zero, List.set_cons_succ]
      refine wpAnyH_ready (rs := [8]) (by kernel_rfl) (by simp) ?_
      refine AllReadyH.cons (o := { dst := none, op := Op.store 23 (Operand.tmp 16) (Operand.tmp 90), type := 0, pos := "law.go:79", after := #[{ on := 7, ground := Ground.data }, { on := 5, ground := Ground.data }, { on := 3, ground := Ground.chain }, { on := 0, ground := Ground.phase }, { on := 1, ground := Ground.phase }, { on := 2, ground := Ground.phase }, { on := 3, ground := Ground.phase }, { on := 4, ground := Ground.phase }, { on := 5, ground := Ground.phase }, { on := 6, ground := Ground.textOnly Departure.lateStores }, { on := 7, ground := Ground.phase }], guard := none }) rfl (fun K hK => ?_) AllReadyH.nil
      obtain ⟨_, f0, f1, f2⟩ := row3 HZ3.out
      have hS := set3 (v0 := (.bool n1)) (v1 := (.string d1)) (v2 := (.int .i64 e1)) HZ3.out HGe.out hT3
      have HS1 := Lib.hid hS.1
      have hT9 : (fun W : World => Below wd143.heap.size wd143 W) _ := hS.2
      clear hS
      go_simp
      refine hK.out _ _ hT9 (fun _ => ?_)
      clear hK K f0 f1 f2 HZ3
      refine wpAnyH_take (i := 9) (oi := { dst := some 17, op := Op.assign (Operand.tmp 91), type := 25, pos := "law.go:79", after := #[{ on := 6, ground := Ground.data }, { on := 8, ground := Ground.chain }, { on := 0, ground := Ground.phase }, { on := 1, ground := Ground.phase }, { on := 2, ground := Ground.phase }, { on := 3, ground := Ground.phase }, { on := 4, ground := Ground.phase }, { on := 5, ground := Ground.phase }, { on := 6, ground := Ground.phase }, { on := 7, ground := Ground.phase }, { on := 8, ground := Ground.phase }], guard := none }) (v := ?_) rfl (by kernel_rfl) (by kernel_rfl) (by kernel_rfl) (fun _ _ _ h => h) (Or.inl ⟨by rfl, ?_⟩) (by assumption) ?_
      rotate_left
      · intro w hSw
        try dsimp only at hSw
        go_simp
        try with_reducible rfl
      refine wpAnyH_done (by kernel_rfl) ?_ _
      generalize ((q146.setCell ⟨q145.heap.size, 0, none⟩ (.bool n1)).setCell ⟨q145.heap.size, 1, none⟩ (.string d1)).setCell ⟨q145.heap.size, 2, none⟩ (.int .i64 e1) = q147 at hT9 HS1 ⊢
      have R148 := Lib.hid ((hT9.block _ (lt_of_block R134.out)).trans R134.out)
      have R149 := Lib.hid ((hT9.block _ (lt_of_block R135.out)).trans R135.out)
      have R150 := Lib.hid ((hT9.block _ (lt_of_block R136.out)).trans R136.out)
      have R151 := Lib.hid ((hT9.block _ (lt_of_block R137.out)).trans R137.out)
      have R152 := Lib.hid ((hT9.block _ (lt_of_block R138.out)).trans R138.out)
      have R153 := Lib.hid ((hT9.block _ (lt_of_block R139.out)).trans R139.out)
      have R154 := Lib.hid ((hT9.block _ (lt_of_block R140.out)).trans R140.out)
      have X155 := Lib.hid (TabB.below X141.out hT9)
      have B156 := Lib.hid (B142.out.trans (hT9.mono B142.out.size))
      clear hT9 hT0 hT1 hT2 hT3 R134 R135 R136 R137 R138 R139 R140 X141 B142
      obtain ⟨⟨c157, c158, c159⟩, _⟩ := row3 HS1.out
      obtain ⟨⟨c160, c161, c162⟩, _⟩ := row3 R148.out
      go_upto_region 14 with fail
      clear c157 c158 c159 c160 c161 c162
      obtain ⟨⟨c163, c164, c165⟩, _⟩ := row3 R148.out
      obtain ⟨⟨c166, c167, c168⟩, _⟩ := row3 R150.out
      go_wp2_with fail
      clear c163 c164 c165 c166 c167 c168
      with_reducible refine (HA6.out _).mono ?_
      rintro e u169 ⟨rfl, hb⟩
      have R170 := Lib.hid ((hb.block _ (lt_of_block R148.out)).trans R148.out)
      have R171 := Lib.hid ((hb.block _ (lt_of_block R149.out)).trans R149.out)
      have R172 := Lib.hid ((hb.block _ (lt_of_block R150.out)).trans R150.out)
      have R173 := Lib.hid ((hb.block _ (lt_of_block R151.out)).trans R151.out)
      have R174 := Lib.hid ((hb.block _ (lt_of_block R152.out)).trans R152.out)
      have R175 := Lib.hid ((hb.block _ (lt_of_block R153.out)).trans R153.out)
      have R176 := Lib.hid ((hb.block _ (lt_of_block R154.out)).trans R154.out)
      have R177 := Lib.hid ((hb.block _ (lt_of_block HS1.out)).trans HS1.out)
      have X178 := Lib.hid (TabB.below X155.out hb)
      have B179 := Lib.hid (B156.out.trans (hb.mono B156.out.size))
      clear hb R148 R149 R150 R151 R152 R153 R154 HS1 X155 B156
      unfold pairV
      obtain ⟨u180, hwv, hr, hb⟩ := boxed3 u169 (.bool un) (.string ud) (.int .i64 ue)
      have R181 := Lib.hid ((hb.block _ (lt_of_block R170.out)).trans R170.out)
      have R182 := Lib.hid ((hb.block _ (lt_of_block R171.out)).trans R171.out)
      have R183 := Lib.hid ((hb.block _ (lt_of_block R172.out)).trans R172.out)
      have R184 := Lib.hid ((hb.block _ (lt_of_block R173.out)).trans R173.out)
      have R185 := Lib.hid ((hb.block _ (lt_of_block R174.out)).trans R174.out)
      have R186 := Lib.hid ((hb.block _ (lt_of_block R175.out)).trans R175.out)
      have R187 := Lib.hid ((hb.block _ (lt_of_block R176.out)).trans R176.out)
      have R188 := Lib.hid ((hb.block _ (lt_of_block R177.out)).trans R177.out)
      have X189 := Lib.hid (TabB.below X178.out hb)
      have B190 := Lib.hid (B179.out.trans (hb.mono B179.out.size))
      have R191 := Lib.hid hr
      have HYW := Lib.hid hwv
      clear hb hr hwv R170 R171 R172 R173 R174 R175 R176 R177 X178 B179
      go_upto_region 15 with fail
      rw [← HYW.out]
      clear HYW
      obtain ⟨⟨c192, c193, c194⟩, _⟩ := row3 R182.out
      obtain ⟨⟨c195, c196, c197⟩, _⟩ := row3 R183.out
      go_wp2_with fail
      clear c192 c193 c194 c195 c196 c197
      with_reducible refine (HA7.out _).mono ?_
      rintro e u198 ⟨rfl, hb⟩
      have R199 := Lib.hid ((hb.block _ (lt_of_block R181.out)).trans R181.out)
      have R200 := Lib.hid ((hb.block _ (lt_of_block R182.out)).trans R182.out)
      have R201 := Lib.hid ((hb.block _ (lt_of_block R183.out)).trans R183.out)
      have R202 := Lib.hid ((hb.block _ (lt_of_block R184.out)).trans R184.out)
      have R203 := Lib.hid ((hb.block _ (lt_of_block R185.out)).trans R185.out)
      have R204 := Lib.hid ((hb.block _ (lt_of_block R186.out)).trans R186.out)
      have R205 := Lib.hid ((hb.block _ (lt_of_block R187.out)).trans R187.out)
      have R206 := Lib.hid ((hb.block _ (lt_of_block R188.out)).trans R188.out)
      have R207 := Lib.hid ((hb.block _ (lt_of_block R191.out)).trans R191.out)
      have X208 := Lib.hid (TabB.below X189.out hb)
      have B209 := Lib.hid (B190.out.trans (hb.mono B190.out.size))
      clear hb R181 R182 R183 R184 R185 R186 R187 R188 R191 X189 B190
      unfold pairV
      obtain ⟨u210, hwv, hr, hb⟩ := boxed3 u198 (.bool vn) (.string vd) (.int .i64 ve)
      have R211 := Lib.hid ((hb.block _ (lt_of_block R199.out)).trans R199.out)
      have R212 := Lib.hid ((hb.block _ (lt_of_block R200.out)).trans R200.out)
      have R213 := Lib.hid ((hb.block _ (lt_of_block R201.out)).trans R201.out)
      have R214 := Lib.hid ((hb.block _ (lt_of_block R202.out)).trans R202.out)
      have R215 := Lib.hid ((hb.block _ (lt_of_block R203.out)).trans R203.out)
      have R216 := Lib.hid ((hb.block _ (lt_of_block R204.out)).trans R204.out)
      have R217 := Lib.hid ((hb.block _ (lt_of_block R205.out)).trans R205.out)
      have R218 := Lib.hid ((hb.block _ (lt_of_block R206.out)).trans R206.out)
      have R219 := Lib.hid ((hb.block _ (lt_of_block R207.out)).trans R207.out)
      have X220 := Lib.hid (TabB.below X208.out hb)
      have B221 := Lib.hid (B209.out.trans (hb.mono B209.out.size))
      have R222 := Lib.hid hr
      have HYW := Lib.hid hwv
      clear hb hr hwv R199 R200 R201 R202 R203 R204 R205 R206 R207 X208 B209
      go_upto_region 16 with fail
      rw [← HYW.out]
      clear HYW
      obtain ⟨⟨c223, c224, c225⟩, _⟩ := row3 R214.out
      obtain ⟨⟨c226, c227, c228⟩, _⟩ := row3 R213.out
      go_wp2_with fail
      clear c223 c224 c225 c226 c227 c228
      with_reducible refine (HA8.out _).mono ?_
      rintro e u229 ⟨rfl, hb⟩
      have R230 := Lib.hid ((hb.block _ (lt_of_block R211.out)).trans R211.out)
      have R231 := Lib.hid ((hb.block _ (lt_of_block R212.out)).trans R212.out)
      have R232 := Lib.hid ((hb.block _ (lt_of_block R213.out)).trans R213.out)
      have R233 := Lib.hid ((hb.block _ (lt_of_block R214.out)).trans R214.out)
      have R234 := Lib.hid ((hb.block _ (lt_of_block R215.out)).trans R215.out)
      have R235 := Lib.hid ((hb.block _ (lt_of_block R216.out)).trans R216.out)
      have R236 := Lib.hid ((hb.block _ (lt_of_block R217.out)).trans R217.out)
      have R237 := Lib.hid ((hb.block _ (lt_of_block R218.out)).trans R218.out)
      have R238 := Lib.hid ((hb.block _ (lt_of_block R219.out)).trans R219.out)
      have R239 := Lib.hid ((hb.block _ (lt_of_block R222.out)).trans R222.out)
      have X240 := Lib.hid (TabB.below X220.out hb)
      have B241 := Lib.hid (B221.out.trans (hb.mono B221.out.size))
      clear hb R211 R212 R213 R214 R215 R216 R217 R218 R219 R222 X220 B221
      unfold pairV
      obtain ⟨u242, hwv, hr, hb⟩ := boxed3 u229 (.bool tn) (.string td) (.int .i64 te)
      have R243 := Lib.hid ((hb.block _ (lt_of_block R230.out)).trans R230.out)
      have R244 := Lib.hid ((hb.block _ (lt_of_block R231.out)).trans R231.out)
      have R245 := Lib.hid ((hb.block _ (lt_of_block R232.out)).trans R232.out)
      have R246 := Lib.hid ((hb.block _ (lt_of_block R233.out)).trans R233.out)
      have R247 := Lib.hid ((hb.block _ (lt_of_block R234.out)).trans R234.out)
      have R248 := Lib.hid ((hb.block _ (lt_of_block R235.out)).trans R235.out)
      have R249 := Lib.hid ((hb.block _ (lt_of_block R236.out)).trans R236.out)
      have R250 := Lib.hid ((hb.block _ (lt_of_block R237.out)).trans R237.out)
      have R251 := Lib.hid ((hb.block _ (lt_of_block R238.out)).trans R238.out)
      have R252 := Lib.hid ((hb.block _ (lt_of_block R239.out)).trans R239.out)
      have X253 := Lib.hid (TabB.below X240.out hb)
      have B254 := Lib.hid (B241.out.trans (hb.mono B241.out.size))
      have R255 := Lib.hid hr
      have HYW := Lib.hid hwv
      clear hb hr hwv R230 R231 R232 R233 R234 R235 R236 R237 R238 R239 X240 B241
      go_upto_region 17 with fail
      rw [← HYW.out]
      clear HYW
      obtain ⟨⟨c256, c257, c258⟩, _⟩ := row3 R251.out
      obtain ⟨⟨c259, c260, c261⟩, _⟩ := row3 R252.out
      go_wp2_with fail
      clear c256 c257 c258 c259 c260 c261
      with_reducible refine (HA9.out _).mono ?_
      rintro e u262 ⟨rfl, hb⟩
      have R263 := Lib.hid ((hb.block _ (lt_of_block R243.out)).trans R243.out)
      have R264 := Lib.hid ((hb.block _ (lt_of_block R244.out)).trans R244.out)
      have R265 := Lib.hid ((hb.block _ (lt_of_block R245.out)).trans R245.out)
      have R266 := Lib.hid ((hb.block _ (lt_of_block R246.out)).trans R246.out)
      have R267 := Lib.hid ((hb.block _ (lt_of_block R247.out)).trans R247.out)
      have R268 := Lib.hid ((hb.block _ (lt_of_block R248.out)).trans R248.out)
      have R269 := Lib.hid ((hb.block _ (lt_of_block R249.out)).trans R249.out)
      have R270 := Lib.hid ((hb.block _ (lt_of_block R250.out)).trans R250.out)
      have R271 := Lib.hid ((hb.block _ (lt_of_block R251.out)).trans R251.out)
      have R272 := Lib.hid ((hb.block _ (lt_of_block R252.out)).trans R252.out)
      have R273 := Lib.hid ((hb.block _ (lt_of_block R255.out)).trans R255.out)
      have X274 := Lib.hid (TabB.below X253.out hb)
      have B275 := Lib.hid (B254.out.trans (hb.mono B254.out.size))
      clear hb R243 R244 R245 R246 R247 R248 R249 R250 R251 R252 R255 X253 B254
      unfold pairV
      obtain ⟨u276, hwv, hr, hb⟩ := boxed3 u262 (.bool sn) (.string sd) (.int .i64 se)
      have R277 := Lib.hid ((hb.block _ (lt_of_block R263.out)).trans R263.out)
      have R278 := Lib.hid ((hb.block _ (lt_of_block R264.out)).trans R264.out)
      have R279 := Lib.hid ((hb.block _ (lt_of_block R265.out)).trans R265.out)
      have R280 := Lib.hid ((hb.block _ (lt_of_block R266.out)).trans R266.out)
      have R281 := Lib.hid ((hb.block _ (lt_of_block R267.out)).trans R267.out)
      have R282 := Lib.hid ((hb.block _ (lt_of_block R268.out)).trans R268.out)
      have R283 := Lib.hid ((hb.block _ (lt_of_block R269.out)).trans R269.out)
      have R284 := Lib.hid ((hb.block _ (lt_of_block R270.out)).trans R270.out)
      have R285 := Lib.hid ((hb.block _ (lt_of_block R271.out)).trans R271.out)
      have R286 := Lib.hid ((hb.block _ (lt_of_block R272.out)).trans R272.out)
      have R287 := Lib.hid ((hb.block _ (lt_of_block R273.out)).trans R273.out)
      have X288 := Lib.hid (TabB.below X274.out hb)
      have B289 := Lib.hid (B275.out.trans (hb.mono B275.out.size))
      have R290 := Lib.hid hr
      have HYW := Lib.hid hwv
      clear hb hr hwv R263 R264 R265 R266 R267 R268 R269 R270 R271 R272 R273 X274 B275
      go_upto_region 18 with fail
      rw [← HYW.out]
      clear HYW
      have hs := HSs.out
      rcases HIc.out with rfl | rfl
      rotate_left
      · go_wp2_with fail
        go_ret
        exact ⟨rfl, B289.out⟩
      rcases HJc.out with rfl | rfl
      rotate_left
      · go_wp2_with fail
        go_ret
        exact ⟨rfl, B289.out⟩
      rcases HKc.out with rfl | rfl
      rotate_left
      · go_wp2_with fail
        go_ret
        exact ⟨rfl, B289.out⟩
      rcases HLc.out with rfl | rfl
      rotate_left
      · go_wp2_with fail
        go_ret
        exact ⟨rfl, B289.out⟩
      obtain ⟨rfl, rfl, rfl⟩ := hs rfl rfl rfl rfl
      obtain ⟨⟨c291, c292, c293⟩, _⟩ := row3 R290.out
      obtain ⟨⟨c294, c295, c296⟩, _⟩ := row3 R287.out
      go_wp2_with fail
      go_ret
      exact ⟨rfl, B289.out⟩
    · go_simp
      have hT2 : (fun W : World => Below wd143.heap.size wd143 W) (q144.alloc (.cells #[.bool false, .string ⟨#[]⟩, .int .i64 0] 23)) := hT1.alloc hT1.size _
      have HZ2 := Lib.hid (heap_alloc_new q144 (.cells #[.bool false, .string ⟨#[]⟩, .int .i64 0] 23))
      have HGe := Lib.hid hT1.size
      generalize q144.alloc (.cells #[.bool false, .string ⟨#[]⟩, .int .i64 0] 23) = q145 at hT2 HZ2 ⊢
      refine hK.out _ _ hT2 (fun _ => ?_)
      clear hK K
      try simp only [Act.put, List.setIfInBounds_toArray, List.set_cons_zero, List.set_cons_succ]
      refine wpAnyH_ready (rs := [3]) (by kernel_rfl) (by simp) ?_
      refine AllReadyH.cons (o := { dst := some 89, op := Op.call { callee := Callee.value (Operand.func 11), args := #[Operand.tmp 86, Operand.tmp 88], argTypes := #[23, 23] }, type := 26, pos := "law.go:79", after := #[{ on := 0, ground := Ground.data }, { on := 2, ground := Ground.data }, { on := 2, ground := Ground.chain }], guard := none }) rfl (fun K hK => ?_) AllReadyH.nil
      go_simp
      with_reducible refine (HA5.out _).mono ?_
      rintro e q146 ⟨rfl, hb⟩
      have hT3 : (fun W : World => Below wd143.heap.size wd143 W) q146 := hT2.trans (hb.mono hT2.size)
      have HZ3 := Lib.hid ((hb.block _ (lt_of_block HZ2.out)).trans HZ2.out)
      clear HZ2
      try unfold pairV
      refine hK.out _ _ hT3 (fun _ => ?_)
      clear hK K hb
      refine wpAnyH_take (i := 4) (oi := { dst := some 85, op := Op.move (Operand.tmp 89), type := 26, pos := "law.go:79", after := #[{ on := 3, ground := Ground.data }], guard := none }) (v := ?_) rfl (by kernel_rfl) (by kernel_rfl) (by kernel_rfl) (fun _ _ _ h => h) (Or.inl ⟨by rfl, ?_⟩) (by assumption) ?_
      rotate_left
      · intro w hSw
        try dsimp only at hSw
        go_simp
        try with_reducible rfl
      try simp only [Act.put, List.setIfInBounds_toArray, List.set_cons_zero, List.set_cons_succ]
      refine wpAnyH_take (i := 5) (oi := { dst := some 90, op := Op.extract (Operand.tmp 85) 0, type := 23, pos := "law.go:79", after := #[{ on := 4, ground := Ground.data }], guard := none }) (v := ?_) rfl (by kernel_rfl) (by kernel_rfl) (by kernel_rfl) (fun _ _ _ h => h) (Or.inl ⟨by rfl, ?_⟩) (by assumption) ?_
      rotate_left
      · intro w hSw
        try dsimp only at hSw
        go_simp
        try with_reducible rfl
      try simp only [Act.put, List.setIfInBounds_toArray, List.set_cons_zero, List.set_cons_succ]
      refine wpAnyH_take (i := 6) (oi := { dst := some 91, op := Op.extract (Operand.tmp 85) 1, type := 25, pos := "law.go:79", after := #[{ on := 4, ground := Ground.data }, { on := 8, ground := Ground.gcOnly Departure.lateStores }], guard := none }) (v := ?_) rfl (by kernel_rfl) (by kernel_rfl) (by kernel_rfl) (fun _ _ _ h => h) (Or.inl ⟨by rfl, ?_⟩) (by assumption) ?_
      rotate_left
      · intro w hSw
        try dsimp only at hSw
        go_simp
        try with_reducible rfl
      try simp only [Act.put, List.setIfInBounds_toArray, List.set_cons_zero, List.set_cons_succ]
      refine wpAnyH_ready (rs := [8]) (by kernel_rfl) (by simp) ?_
      refine AllReadyH.cons (o := { dst := none, op := Op.store 23 (Operand.tmp 16) (Operand.tmp 90), type := 0, pos := "law.go:79", after := #[{ on := 7, ground := Ground.data }, { on := 5, ground := Ground.data }, { on := 3, ground := Ground.chain }, { on := 0, ground := Ground.phase }, { on := 1, ground := Ground.phase }, { on := 2, ground := Ground.phase }, { on := 3, ground := Ground.phase }, { on := 4, ground := Ground.phase }, { on := 5, ground := Ground.phase }, { on := 6, ground := Ground.textOnly Departure.lateStores }, { on := 7, ground := Ground.phase }], guard := none }) rfl (fun K hK => ?_) AllReadyH.nil
      obtain ⟨_, f0, f1, f2⟩ := row3 HZ3.out
      have hS := set3 (v0 := (.bool n1)) (v1 := (.string d1)) (v2 := (.int .i64 e1)) HZ3.out HGe.out hT3
      have HS1 := Lib.hid hS.1
      have hT9 : (fun W : World => Below wd143.heap.size wd143 W) _ := hS.2
      clear hS
      go_simp
      refine hK.out _ _ hT9 (fun _ => ?_)
      clear hK K f0 f1 f2 HZ3
      refine wpAnyH_take (i := 9) (oi := { dst := some 17, op := Op.assign (Operand.tmp 91), type := 25, pos := "law.go:79", after := #[{ on := 6, ground := Ground.data }, { on := 8, ground := Ground.chain }, { on := 0, ground := Ground.phase }, { on := 1, ground := Ground.phase }, { on := 2, ground := Ground.phase }, { on := 3, ground := Ground.phase }, { on := 4, ground := Ground.phase }, { on := 5, ground := Ground.phase }, { on := 6, ground := Ground.phase }, { on := 7, ground := Ground.phase }, { on := 8, ground := Ground.phase }], guard := none }) (v := ?_) rfl (by kernel_rfl) (by kernel_rfl) (by kernel_rfl) (fun _ _ _ h => h) (Or.inl ⟨by rfl, ?_⟩) (by assumption) ?_
      rotate_left
      · intro w hSw
        try dsimp only at hSw
        go_simp
        try with_reducible rfl
      refine wpAnyH_done (by kernel_rfl) ?_ _
      generalize ((q146.setCell ⟨q144.heap.size, 0, none⟩ (.bool n1)).setCell ⟨q144.heap.size, 1, none⟩ (.string d1)).setCell ⟨q144.heap.size, 2, none⟩ (.int .i64 e1) = q147 at hT9 HS1 ⊢
      have R148 := Lib.hid ((hT9.block _ (lt_of_block R134.out)).trans R134.out)
      have R149 := Lib.hid ((hT9.block _ (lt_of_block R135.out)).trans R135.out)
      have R150 := Lib.hid ((hT9.block _ (lt_of_block R136.out)).trans R136.out)
      have R151 := Lib.hid ((hT9.block _ (lt_of_block R137.out)).trans R137.out)
      have R152 := Lib.hid ((hT9.block _ (lt_of_block R138.out)).trans R138.out)
      have R153 := Lib.hid ((hT9.block _ (lt_of_block R139.out)).trans R139.out)
      have R154 := Lib.hid ((hT9.block _ (lt_of_block R140.out)).trans R140.out)
      have X155 := Lib.hid (TabB.below X141.out hT9)
      have B156 := Lib.hid (B142.out.trans (hT9.mono B142.out.size))
      clear hT9 hT0 hT1 hT2 hT3 R134 R135 R136 R137 R138 R139 R140 X141 B142
      obtain ⟨⟨c157, c158, c159⟩, _⟩ := row3 HS1.out
      obtain ⟨⟨c160, c161, c162⟩, _⟩ := row3 R148.out
      go_upto_region 14 with fail
      clear c157 c158 c159 c160 c161 c162
      obtain ⟨⟨c163, c164, c165⟩, _⟩ := row3 R148.out
      obtain ⟨⟨c166, c167, c168⟩, _⟩ := row3 R150.out
      go_wp2_with fail
      clear c163 c164 c165 c166 c167 c168
      with_reducible refine (HA6.out _).mono ?_
      rintro e u169 ⟨rfl, hb⟩
      have R170 := Lib.hid ((hb.block _ (lt_of_block R148.out)).trans R148.out)
      have R171 := Lib.hid ((hb.block _ (lt_of_block R149.out)).trans R149.out)
      have R172 := Lib.hid ((hb.block _ (lt_of_block R150.out)).trans R150.out)
      have R173 := Lib.hid ((hb.block _ (lt_of_block R151.out)).trans R151.out)
      have R174 := Lib.hid ((hb.block _ (lt_of_block R152.out)).trans R152.out)
      have R175 := Lib.hid ((hb.block _ (lt_of_block R153.out)).trans R153.out)
      have R176 := Lib.hid ((hb.block _ (lt_of_block R154.out)).trans R154.out)
      have R177 := Lib.hid ((hb.block _ (lt_of_block HS1.out)).trans HS1.out)
      have X178 := Lib.hid (TabB.below X155.out hb)
      have B179 := Lib.hid (B156.out.trans (hb.mono B156.out.size))
      clear hb R148 R149 R150 R151 R152 R153 R154 HS1 X155 B156
      unfold pairV
      obtain ⟨u180, hwv, hr, hb⟩ := boxed3 u169 (.bool un) (.string ud) (.int .i64 ue)
      have R181 := Lib.hid ((hb.block _ (lt_of_block R170.out)).trans R170.out)
      have R182 := Lib.hid ((hb.block _ (lt_of_block R171.out)).trans R171.out)
      have R183 := Lib.hid ((hb.block _ (lt_of_block R172.out)).trans R172.out)
      have R184 := Lib.hid ((hb.block _ (lt_of_block R173.out)).trans R173.out)
      have R185 := Lib.hid ((hb.block _ (lt_of_block R174.out)).trans R174.out)
      have R186 := Lib.hid ((hb.block _ (lt_of_block R175.out)).trans R175.out)
      have R187 := Lib.hid ((hb.block _ (lt_of_block R176.out)).trans R176.out)
      have R188 := Lib.hid ((hb.block _ (lt_of_block R177.out)).trans R177.out)
      have X189 := Lib.hid (TabB.below X178.out hb)
      have B190 := Lib.hid (B179.out.trans (hb.mono B179.out.size))
      have R191 := Lib.hid hr
      have HYW := Lib.hid hwv
      clear hb hr hwv R170 R171 R172 R173 R174 R175 R176 R177 X178 B179
      go_upto_region 15 with fail
      rw [← HYW.out]
      clear HYW
      obtain ⟨⟨c192, c193, c194⟩, _⟩ := row3 R182.out
      obtain ⟨⟨c195, c196, c197⟩, _⟩ := row3 R183.out
      go_wp2_with fail
      clear c192 c193 c194 c195 c196 c197
      with_reducible refine (HA7.out _).mono ?_
      rintro e u198 ⟨rfl, hb⟩
      have R199 := Lib.hid ((hb.block _ (lt_of_block R181.out)).trans R181.out)
      have R200 := Lib.hid ((hb.block _ (lt_of_block R182.out)).trans R182.out)
      have R201 := Lib.hid ((hb.block _ (lt_of_block R183.out)).trans R183.out)
      have R202 := Lib.hid ((hb.block _ (lt_of_block R184.out)).trans R184.out)
      have R203 := Lib.hid ((hb.block _ (lt_of_block R185.out)).trans R185.out)
      have R204 := Lib.hid ((hb.block _ (lt_of_block R186.out)).trans R186.out)
      have R205 := Lib.hid ((hb.block _ (lt_of_block R187.out)).trans R187.out)
      have R206 := Lib.hid ((hb.block _ (lt_of_block R188.out)).trans R188.out)
      have R207 := Lib.hid ((hb.block _ (lt_of_block R191.out)).trans R191.out)
      have X208 := Lib.hid (TabB.below X189.out hb)
      have B209 := Lib.hid (B190.out.trans (hb.mono B190.out.size))
      clear hb R181 R182 R183 R184 R185 R186 R187 R188 R191 X189 B190
      unfold pairV
      obtain ⟨u210, hwv, hr, hb⟩ := boxed3 u198 (.bool vn) (.string vd) (.int .i64 ve)
      have R211 := Lib.hid ((hb.block _ (lt_of_block R199.out)).trans R199.out)
      have R212 := Lib.hid ((hb.block _ (lt_of_block R200.out)).trans R200.out)
      have R213 := Lib.hid ((hb.block _ (lt_of_block R201.out)).trans R201.out)
      have R214 := Lib.hid ((hb.block _ (lt_of_block R202.out)).trans R202.out)
      have R215 := Lib.hid ((hb.block _ (lt_of_block R203.out)).trans R203.out)
      have R216 := Lib.hid ((hb.block _ (lt_of_block R204.out)).trans R204.out)
      have R217 := Lib.hid ((hb.block _ (lt_of_block R205.out)).trans R205.out)
      have R218 := Lib.hid ((hb.block _ (lt_of_block R206.out)).trans R206.out)
      have R219 := Lib.hid ((hb.block _ (lt_of_block R207.out)).trans R207.out)
      have X220 := Lib.hid (TabB.below X208.out hb)
      have B221 := Lib.hid (B209.out.trans (hb.mono B209.out.size))
      have R222 := Lib.hid hr
      have HYW := Lib.hid hwv
      clear hb hr hwv R199 R200 R201 R202 R203 R204 R205 R206 R207 X208 B209
      go_upto_region 16 with fail
      rw [← HYW.out]
      clear HYW
      obtain ⟨⟨c223, c224, c225⟩, _⟩ := row3 R214.out
      obtain ⟨⟨c226, c227, c228⟩, _⟩ := row3 R213.out
      go_wp2_with fail
      clear c223 c224 c225 c226 c227 c228
      with_reducible refine (HA8.out _).mono ?_
      rintro e u229 ⟨rfl, hb⟩
      have R230 := Lib.hid ((hb.block _ (lt_of_block R211.out)).trans R211.out)
      have R231 := Lib.hid ((hb.block _ (lt_of_block R212.out)).trans R212.out)
      have R232 := Lib.hid ((hb.block _ (lt_of_block R213.out)).trans R213.out)
      have R233 := Lib.hid ((hb.block _ (lt_of_block R214.out)).trans R214.out)
      have R234 := Lib.hid ((hb.block _ (lt_of_block R215.out)).trans R215.out)
      have R235 := Lib.hid ((hb.block _ (lt_of_block R216.out)).trans R216.out)
      have R236 := Lib.hid ((hb.block _ (lt_of_block R217.out)).trans R217.out)
      have R237 := Lib.hid ((hb.block _ (lt_of_block R218.out)).trans R218.out)
      have R238 := Lib.hid ((hb.block _ (lt_of_block R219.out)).trans R219.out)
      have R239 := Lib.hid ((hb.block _ (lt_of_block R222.out)).trans R222.out)
      have X240 := Lib.hid (TabB.below X220.out hb)
      have B241 := Lib.hid (B221.out.trans (hb.mono B221.out.size))
      clear hb R211 R212 R213 R214 R215 R216 R217 R218 R219 R222 X220 B221
      unfold pairV
      obtain ⟨u242, hwv, hr, hb⟩ := boxed3 u229 (.bool tn) (.string td) (.int .i64 te)
      have R243 := Lib.hid ((hb.block _ (lt_of_block R230.out)).trans R230.out)
      have R244 := Lib.hid ((hb.block _ (lt_of_block R231.out)).trans R231.out)
      have R245 := Lib.hid ((hb.block _ (lt_of_block R232.out)).trans R232.out)
      have R246 := Lib.hid ((hb.block _ (lt_of_block R233.out)).trans R233.out)
      have R247 := Lib.hid ((hb.block _ (lt_of_block R234.out)).trans R234.out)
      have R248 := Lib.hid ((hb.block _ (lt_of_block R235.out)).trans R235.out)
      have R249 := Lib.hid ((hb.block _ (lt_of_block R236.out)).trans R236.out)
      have R250 := Lib.hid ((hb.block _ (lt_of_block R237.out)).trans R237.out)
      have R251 := Lib.hid ((hb.block _ (lt_of_block R238.out)).trans R238.out)
      have R252 := Lib.hid ((hb.block _ (lt_of_block R239.out)).trans R239.out)
      have X253 := Lib.hid (TabB.below X240.out hb)
      have B254 := Lib.hid (B241.out.trans (hb.mono B241.out.size))
      have R255 := Lib.hid hr
      have HYW := Lib.hid hwv
      clear hb hr hwv R230 R231 R232 R233 R234 R235 R236 R237 R238 R239 X240 B241
      go_upto_region 17 with fail
      rw [← HYW.out]
      clear HYW
      obtain ⟨⟨c256, c257, c258⟩, _⟩ := row3 R251.out
      obtain ⟨⟨c259, c260, c261⟩, _⟩ := row3 R252.out
      go_wp2_with fail
      clear c256 c257 c258 c259 c260 c261
      with_reducible refine (HA9.out _).mono ?_
      rintro e u262 ⟨rfl, hb⟩
      have R263 := Lib.hid ((hb.block _ (lt_of_block R243.out)).trans R243.out)
      have R264 := Lib.hid ((hb.block _ (lt_of_block R244.out)).trans R244.out)
      have R265 := Lib.hid ((hb.block _ (lt_of_block R245.out)).trans R245.out)
      have R266 := Lib.hid ((hb.block _ (lt_of_block R246.out)).trans R246.out)
      have R267 := Lib.hid ((hb.block _ (lt_of_block R247.out)).trans R247.out)
      have R268 := Lib.hid ((hb.block _ (lt_of_block R248.out)).trans R248.out)
      have R269 := Lib.hid ((hb.block _ (lt_of_block R249.out)).trans R249.out)
      have R270 := Lib.hid ((hb.block _ (lt_of_block R250.out)).trans R250.out)
      have R271 := Lib.hid ((hb.block _ (lt_of_block R251.out)).trans R251.out)
      have R272 := Lib.hid ((hb.block _ (lt_of_block R252.out)).trans R252.out)
      have R273 := Lib.hid ((hb.block _ (lt_of_block R255.out)).trans R255.out)
      have X274 := Lib.hid (TabB.below X253.out hb)
      have B275 := Lib.hid (B254.out.trans (hb.mono B254.out.size))
      clear hb R243 R244 R245 R246 R247 R248 R249 R250 R251 R252 R255 X253 B254
      unfold pairV
      obtain ⟨u276, hwv, hr, hb⟩ := boxed3 u262 (.bool sn) (.string sd) (.int .i64 se)
      have R277 := Lib.hid ((hb.block _ (lt_of_block R263.out)).trans R263.out)
      have R278 := Lib.hid ((hb.block _ (lt_of_block R264.out)).trans R264.out)
      have R279 := Lib.hid ((hb.block _ (lt_of_block R265.out)).trans R265.out)
      have R280 := Lib.hid ((hb.block _ (lt_of_block R266.out)).trans R266.out)
      have R281 := Lib.hid ((hb.block _ (lt_of_block R267.out)).trans R267.out)
      have R282 := Lib.hid ((hb.block _ (lt_of_block R268.out)).trans R268.out)
      have R283 := Lib.hid ((hb.block _ (lt_of_block R269.out)).trans R269.out)
      have R284 := Lib.hid ((hb.block _ (lt_of_block R270.out)).trans R270.out)
      have R285 := Lib.hid ((hb.block _ (lt_of_block R271.out)).trans R271.out)
      have R286 := Lib.hid ((hb.block _ (lt_of_block R272.out)).trans R272.out)
      have R287 := Lib.hid ((hb.block _ (lt_of_block R273.out)).trans R273.out)
      have X288 := Lib.hid (TabB.below X274.out hb)
      have B289 := Lib.hid (B275.out.trans (hb.mono B275.out.size))
      have R290 := Lib.hid hr
      have HYW := Lib.hid hwv
      clear hb hr hwv R263 R264 R265 R266 R267 R268 R269 R270 R271 R272 R273 X274 B275
      go_upto_region 18 with fail
      rw [← HYW.out]
      clear HYW
      have hs := HSs.out
      rcases HIc.out with rfl | rfl
      rotate_left
      · go_wp2_with fail
        go_ret
        exact ⟨rfl, B289.out⟩
      rcases HJc.out with rfl | rfl
      rotate_left
      · go_wp2_with fail
        go_ret
        exact ⟨rfl, B289.out⟩
      rcases HKc.out with rfl | rfl
      rotate_left
      · go_wp2_with fail
        go_ret
        exact ⟨rfl, B289.out⟩
      rcases HLc.out with rfl | rfl
      rotate_left
      · go_wp2_with fail
        go_ret
        exact ⟨rfl, B289.out⟩
      obtain ⟨rfl, rfl, rfl⟩ := hs rfl rfl rfl rfl
      obtain ⟨⟨c291, c292, c293⟩, _⟩ := row3 R290.out
      obtain ⟨⟨c294, c295, c296⟩, _⟩ := row3 R287.out
      go_wp2_with fail
      go_ret
      exact ⟨rfl, B289.out⟩
  · go_simp
    have hT1 : (fun W : World => Below wd143.heap.size wd143 W) (wd143.alloc (.cells #[.bool false, .string ⟨#[]⟩, .int .i64 0] 23)) := hT0.alloc hT0.size _
    have HZ1 := Lib.hid (heap_alloc_new wd143 (.cells #[.bool false, .string ⟨#[]⟩, .int .i64 0] 23))
    have HGe := Lib.hid hT0.size
    generalize wd143.alloc (.cells #[.bool false, .string ⟨#[]⟩, .int .i64 0] 23) = q144 at hT1 HZ1 ⊢
    refine hK.out _ _ hT1 (fun _ => ?_)
    clear hK K
    try simp only [Act.put, List.setIfInBounds_toArray, List.set_cons_zero, List.set_cons_succ]
    refine wpAnyH_ready (rs := [2]) (by kernel_rfl) (by simp) ?_
    refine AllReadyH.cons (o := { dst := some 88, op := Op.call { callee := Callee.value (Operand.func 20), args := #[Operand.tmp 87], argTypes := #[23] }, type := 23, pos := "law.go:79", after := #[{ on := 1, ground := Ground.data }], guard := none }) rfl (fun K hK => ?_) AllReadyH.nil
    go_simp
    with_reducible refine (HN.out _).mono ?_
    rintro e q145 ⟨rfl, hb⟩
    have hT2 : (fun W : World => Below wd143.heap.size wd143 W) q145 := hT1.trans (hb.mono hT1.size)
    have HZ2 := Lib.hid ((hb.block _ (lt_of_block HZ1.out)).trans HZ1.out)
    clear HZ1
    try unfold pairV
    refine hK.out _ _ hT2 (fun _ => ?_)
    clear hK K hb
    try simp only [Act.put, List.setIfInBounds_toArray, List.set_cons_zero, List.set_cons_succ]
    refine wpAnyH_ready (rs := [3]) (by kernel_rfl) (by simp) ?_
    refine AllReadyH.cons (o := { dst := some 89, op := Op.call { callee := Callee.value (Operand.func 11), args := #[Operand.tmp 86, Operand.tmp 88], argTypes := #[23, 23] }, type := 26, pos := "law.go:79", after := #[{ on := 0, ground := Ground.data }, { on := 2, ground := Ground.data }, { on := 2, ground := Ground.chain }], guard := none }) rfl (fun K hK => ?_) AllReadyH.nil
    go_simp
    with_reducible refine (HA5.out _).mono ?_
    rintro e q146 ⟨rfl, hb⟩
    have hT3 : (fun W : World => Below wd143.heap.size wd143 W) q146 := hT2.trans (hb.mono hT2.size)
    have HZ3 := Lib.hid ((hb.block _ (lt_of_block HZ2.out)).trans HZ2.out)
    clear HZ2
    try unfold pairV
    refine hK.out _ _ hT3 (fun _ => ?_)
    clear hK K hb
    refine wpAnyH_take (i := 4) (oi := { dst := some 85, op := Op.move (Operand.tmp 89), type := 26, pos := "law.go:79", after := #[{ on := 3, ground := Ground.data }], guard := none }) (v := ?_) rfl (by kernel_rfl) (by kernel_rfl) (by kernel_rfl) (fun _ _ _ h => h) (Or.inl ⟨by rfl, ?_⟩) (by assumption) ?_
    rotate_left
    · intro w hSw
      try dsimp only at hSw
      go_simp
      try with_reducible rfl
    try simp only [Act.put, List.setIfInBounds_toArray, List.set_cons_zero, List.set_cons_succ]
    refine wpAnyH_take (i := 5) (oi := { dst := some 90, op := Op.extract (Operand.tmp 85) 0, type := 23, pos := "law.go:79", after := #[{ on := 4, ground := Ground.data }], guard := none }) (v := ?_) rfl (by kernel_rfl) (by kernel_rfl) (by kernel_rfl) (fun _ _ _ h => h) (Or.inl ⟨by rfl, ?_⟩) (by assumption) ?_
    rotate_left
    · intro w hSw
      try dsimp only at hSw
      go_simp
      try with_reducible rfl
    try simp only [Act.put, List.setIfInBounds_toArray, List.set_cons_zero, List.set_cons_succ]
    refine wpAnyH_take (i := 6) (oi := { dst := some 91, op := Op.extract (Operand.tmp 85) 1, type := 25, pos := "law.go:79", after := #[{ on := 4, ground := Ground.data }, { on := 8, ground := Ground.gcOnly Departure.lateStores }], guard := none }) (v := ?_) rfl (by kernel_rfl) (by kernel_rfl) (by kernel_rfl) (fun _ _ _ h => h) (Or.inl ⟨by rfl, ?_⟩) (by assumption) ?_
    rotate_left
    · intro w hSw
      try dsimp only at hSw
      go_simp
      try with_reducible rfl
    try simp only [Act.put, List.setIfInBounds_toArray, List.set_cons_zero, List.set_cons_succ]
    refine wpAnyH_ready (rs := [8]) (by kernel_rfl) (by simp) ?_
    refine AllReadyH.cons (o := { dst := none, op := Op.store 23 (Operand.tmp 16) (Operand.tmp 90), type := 0, pos := "law.go:79", after := #[{ on := 7, ground := Ground.data }, { on := 5, ground := Ground.data }, { on := 3, ground := Ground.chain }, { on := 0, ground := Ground.phase }, { on := 1, ground := Ground.phase }, { on := 2, ground := Ground.phase }, { on := 3, ground := Ground.phase }, { on := 4, ground := Ground.phase }, { on := 5, ground := Ground.phase }, { on := 6, ground := Ground.textOnly Departure.lateStores }, { on := 7, ground := Ground.phase }], guard := none }) rfl (fun K hK => ?_) AllReadyH.nil
    obtain ⟨_, f0, f1, f2⟩ := row3 HZ3.out
    have hS := set3 (v0 := (.bool n1)) (v1 := (.string d1)) (v2 := (.int .i64 e1)) HZ3.out HGe.out hT3
    have HS1 := Lib.hid hS.1
    have hT9 : (fun W : World => Below wd143.heap.size wd143 W) _ := hS.2
    clear hS
    go_simp
    refine hK.out _ _ hT9 (fun _ => ?_)
    clear hK K f0 f1 f2 HZ3
    refine wpAnyH_take (i := 9) (oi := { dst := some 17, op := Op.assign (Operand.tmp 91), type := 25, pos := "law.go:79", after := #[{ on := 6, ground := Ground.data }, { on := 8, ground := Ground.chain }, { on := 0, ground := Ground.phase }, { on := 1, ground := Ground.phase }, { on := 2, ground := Ground.phase }, { on := 3, ground := Ground.phase }, { on := 4, ground := Ground.phase }, { on := 5, ground := Ground.phase }, { on := 6, ground := Ground.phase }, { on := 7, ground := Ground.phase }, { on := 8, ground := Ground.phase }], guard := none }) (v := ?_) rfl (by kernel_rfl) (by kernel_rfl) (by kernel_rfl) (fun _ _ _ h => h) (Or.inl ⟨by rfl, ?_⟩) (by assumption) ?_
    rotate_left
    · intro w hSw
      try dsimp only at hSw
      go_simp
      try with_reducible rfl
    refine wpAnyH_done (by kernel_rfl) ?_ _
    generalize ((q146.setCell ⟨wd143.heap.size, 0, none⟩ (.bool n1)).setCell ⟨wd143.heap.size, 1, none⟩ (.string d1)).setCell ⟨wd143.heap.size, 2, none⟩ (.int .i64 e1) = q147 at hT9 HS1 ⊢
    have R148 := Lib.hid ((hT9.block _ (lt_of_block R134.out)).trans R134.out)
    have R149 := Lib.hid ((hT9.block _ (lt_of_block R135.out)).trans R135.out)
    have R150 := Lib.hid ((hT9.block _ (lt_of_block R136.out)).trans R136.out)
    have R151 := Lib.hid ((hT9.block _ (lt_of_block R137.out)).trans R137.out)
    have R152 := Lib.hid ((hT9.block _ (lt_of_block R138.out)).trans R138.out)
    have R153 := Lib.hid ((hT9.block _ (lt_of_block R139.out)).trans R139.out)
    have R154 := Lib.hid ((hT9.block _ (lt_of_block R140.out)).trans R140.out)
    have X155 := Lib.hid (TabB.below X141.out hT9)
    have B156 := Lib.hid (B142.out.trans (hT9.mono B142.out.size))
    clear hT9 hT0 hT1 hT2 hT3 R134 R135 R136 R137 R138 R139 R140 X141 B142
    obtain ⟨⟨c157, c158, c159⟩, _⟩ := row3 HS1.out
    obtain ⟨⟨c160, c161, c162⟩, _⟩ := row3 R148.out
    go_upto_region 14 with fail
    clear c157 c158 c159 c160 c161 c162
    obtain ⟨⟨c163, c164, c165⟩, _⟩ := row3 R148.out
    obtain ⟨⟨c166, c167, c168⟩, _⟩ := row3 R150.out
    go_wp2_with fail
    clear c163 c164 c165 c166 c167 c168
    with_reducible refine (HA6.out _).mono ?_
    rintro e u169 ⟨rfl, hb⟩
    have R170 := Lib.hid ((hb.block _ (lt_of_block R148.out)).trans R148.out)
    have R171 := Lib.hid ((hb.block _ (lt_of_block R149.out)).trans R149.out)
    have R172 := Lib.hid ((hb.block _ (lt_of_block R150.out)).trans R150.out)
    have R173 := Lib.hid ((hb.block _ (lt_of_block R151.out)).trans R151.out)
    have R174 := Lib.hid ((hb.block _ (lt_of_block R152.out)).trans R152.out)
    have R175 := Lib.hid ((hb.block _ (lt_of_block R153.out)).trans R153.out)
    have R176 := Lib.hid ((hb.block _ (lt_of_block R154.out)).trans R154.out)
    have R177 := Lib.hid ((hb.block _ (lt_of_block HS1.out)).trans HS1.out)
    have X178 := Lib.hid (TabB.below X155.out hb)
    have B179 := Lib.hid (B156.out.trans (hb.mono B156.out.size))
    clear hb R148 R149 R150 R151 R152 R153 R154 HS1 X155 B156
    unfold pairV
    obtain ⟨u180, hwv, hr, hb⟩ := boxed3 u169 (.bool un) (.string ud) (.int .i64 ue)
    have R181 := Lib.hid ((hb.block _ (lt_of_block R170.out)).trans R170.out)
    have R182 := Lib.hid ((hb.block _ (lt_of_block R171.out)).trans R171.out)
    have R183 := Lib.hid ((hb.block _ (lt_of_block R172.out)).trans R172.out)
    have R184 := Lib.hid ((hb.block _ (lt_of_block R173.out)).trans R173.out)
    have R185 := Lib.hid ((hb.block _ (lt_of_block R174.out)).trans R174.out)
    have R186 := Lib.hid ((hb.block _ (lt_of_block R175.out)).trans R175.out)
    have R187 := Lib.hid ((hb.block _ (lt_of_block R176.out)).trans R176.out)
    have R188 := Lib.hid ((hb.block _ (lt_of_block R177.out)).trans R177.out)
    have X189 := Lib.hid (TabB.below X178.out hb)
    have B190 := Lib.hid (B179.out.trans (hb.mono B179.out.size))
    have R191 := Lib.hid hr
    have HYW := Lib.hid hwv
    clear hb hr hwv R170 R171 R172 R173 R174 R175 R176 R177 X178 B179
    go_upto_region 15 with fail
    rw [← HYW.out]
    clear HYW
    obtain ⟨⟨c192, c193, c194⟩, _⟩ := row3 R182.out
    obtain ⟨⟨c195, c196, c197⟩, _⟩ := row3 R183.out
    go_wp2_with fail
    clear c192 c193 c194 c195 c196 c197
    with_reducible refine (HA7.out _).mono ?_
    rintro e u198 ⟨rfl, hb⟩
    have R199 := Lib.hid ((hb.block _ (lt_of_block R181.out)).trans R181.out)
    have R200 := Lib.hid ((hb.block _ (lt_of_block R182.out)).trans R182.out)
    have R201 := Lib.hid ((hb.block _ (lt_of_block R183.out)).trans R183.out)
    have R202 := Lib.hid ((hb.block _ (lt_of_block R184.out)).trans R184.out)
    have R203 := Lib.hid ((hb.block _ (lt_of_block R185.out)).trans R185.out)
    have R204 := Lib.hid ((hb.block _ (lt_of_block R186.out)).trans R186.out)
    have R205 := Lib.hid ((hb.block _ (lt_of_block R187.out)).trans R187.out)
    have R206 := Lib.hid ((hb.block _ (lt_of_block R188.out)).trans R188.out)
    have R207 := Lib.hid ((hb.block _ (lt_of_block R191.out)).trans R191.out)
    have X208 := Lib.hid (TabB.below X189.out hb)
    have B209 := Lib.hid (B190.out.trans (hb.mono B190.out.size))
    clear hb R181 R182 R183 R184 R185 R186 R187 R188 R191 X189 B190
    unfold pairV
    obtain ⟨u210, hwv, hr, hb⟩ := boxed3 u198 (.bool vn) (.string vd) (.int .i64 ve)
    have R211 := Lib.hid ((hb.block _ (lt_of_block R199.out)).trans R199.out)
    have R212 := Lib.hid ((hb.block _ (lt_of_block R200.out)).trans R200.out)
    have R213 := Lib.hid ((hb.block _ (lt_of_block R201.out)).trans R201.out)
    have R214 := Lib.hid ((hb.block _ (lt_of_block R202.out)).trans R202.out)
    have R215 := Lib.hid ((hb.block _ (lt_of_block R203.out)).trans R203.out)
    have R216 := Lib.hid ((hb.block _ (lt_of_block R204.out)).trans R204.out)
    have R217 := Lib.hid ((hb.block _ (lt_of_block R205.out)).trans R205.out)
    have R218 := Lib.hid ((hb.block _ (lt_of_block R206.out)).trans R206.out)
    have R219 := Lib.hid ((hb.block _ (lt_of_block R207.out)).trans R207.out)
    have X220 := Lib.hid (TabB.below X208.out hb)
    have B221 := Lib.hid (B209.out.trans (hb.mono B209.out.size))
    have R222 := Lib.hid hr
    have HYW := Lib.hid hwv
    clear hb hr hwv R199 R200 R201 R202 R203 R204 R205 R206 R207 X208 B209
    go_upto_region 16 with fail
    rw [← HYW.out]
    clear HYW
    obtain ⟨⟨c223, c224, c225⟩, _⟩ := row3 R214.out
    obtain ⟨⟨c226, c227, c228⟩, _⟩ := row3 R213.out
    go_wp2_with fail
    clear c223 c224 c225 c226 c227 c228
    with_reducible refine (HA8.out _).mono ?_
    rintro e u229 ⟨rfl, hb⟩
    have R230 := Lib.hid ((hb.block _ (lt_of_block R211.out)).trans R211.out)
    have R231 := Lib.hid ((hb.block _ (lt_of_block R212.out)).trans R212.out)
    have R232 := Lib.hid ((hb.block _ (lt_of_block R213.out)).trans R213.out)
    have R233 := Lib.hid ((hb.block _ (lt_of_block R214.out)).trans R214.out)
    have R234 := Lib.hid ((hb.block _ (lt_of_block R215.out)).trans R215.out)
    have R235 := Lib.hid ((hb.block _ (lt_of_block R216.out)).trans R216.out)
    have R236 := Lib.hid ((hb.block _ (lt_of_block R217.out)).trans R217.out)
    have R237 := Lib.hid ((hb.block _ (lt_of_block R218.out)).trans R218.out)
    have R238 := Lib.hid ((hb.block _ (lt_of_block R219.out)).trans R219.out)
    have R239 := Lib.hid ((hb.block _ (lt_of_block R222.out)).trans R222.out)
    have X240 := Lib.hid (TabB.below X220.out hb)
    have B241 := Lib.hid (B221.out.trans (hb.mono B221.out.size))
    clear hb R211 R212 R213 R214 R215 R216 R217 R218 R219 R222 X220 B221
    unfold pairV
    obtain ⟨u242, hwv, hr, hb⟩ := boxed3 u229 (.bool tn) (.string td) (.int .i64 te)
    have R243 := Lib.hid ((hb.block _ (lt_of_block R230.out)).trans R230.out)
    have R244 := Lib.hid ((hb.block _ (lt_of_block R231.out)).trans R231.out)
    have R245 := Lib.hid ((hb.block _ (lt_of_block R232.out)).trans R232.out)
    have R246 := Lib.hid ((hb.block _ (lt_of_block R233.out)).trans R233.out)
    have R247 := Lib.hid ((hb.block _ (lt_of_block R234.out)).trans R234.out)
    have R248 := Lib.hid ((hb.block _ (lt_of_block R235.out)).trans R235.out)
    have R249 := Lib.hid ((hb.block _ (lt_of_block R236.out)).trans R236.out)
    have R250 := Lib.hid ((hb.block _ (lt_of_block R237.out)).trans R237.out)
    have R251 := Lib.hid ((hb.block _ (lt_of_block R238.out)).trans R238.out)
    have R252 := Lib.hid ((hb.block _ (lt_of_block R239.out)).trans R239.out)
    have X253 := Lib.hid (TabB.below X240.out hb)
    have B254 := Lib.hid (B241.out.trans (hb.mono B241.out.size))
    have R255 := Lib.hid hr
    have HYW := Lib.hid hwv
    clear hb hr hwv R230 R231 R232 R233 R234 R235 R236 R237 R238 R239 X240 B241
    go_upto_region 17 with fail
    rw [← HYW.out]
    clear HYW
    obtain ⟨⟨c256, c257, c258⟩, _⟩ := row3 R251.out
    obtain ⟨⟨c259, c260, c261⟩, _⟩ := row3 R252.out
    go_wp2_with fail
    clear c256 c257 c258 c259 c260 c261
    with_reducible refine (HA9.out _).mono ?_
    rintro e u262 ⟨rfl, hb⟩
    have R263 := Lib.hid ((hb.block _ (lt_of_block R243.out)).trans R243.out)
    have R264 := Lib.hid ((hb.block _ (lt_of_block R244.out)).trans R244.out)
    have R265 := Lib.hid ((hb.block _ (lt_of_block R245.out)).trans R245.out)
    have R266 := Lib.hid ((hb.block _ (lt_of_block R246.out)).trans R246.out)
    have R267 := Lib.hid ((hb.block _ (lt_of_block R247.out)).trans R247.out)
    have R268 := Lib.hid ((hb.block _ (lt_of_block R248.out)).trans R248.out)
    have R269 := Lib.hid ((hb.block _ (lt_of_block R249.out)).trans R249.out)
    have R270 := Lib.hid ((hb.block _ (lt_of_block R250.out)).trans R250.out)
    have R271 := Lib.hid ((hb.block _ (lt_of_block R251.out)).trans R251.out)
    have R272 := Lib.hid ((hb.block _ (lt_of_block R252.out)).trans R252.out)
    have R273 := Lib.hid ((hb.block _ (lt_of_block R255.out)).trans R255.out)
    have X274 := Lib.hid (TabB.below X253.out hb)
    have B275 := Lib.hid (B254.out.trans (hb.mono B254.out.size))
    clear hb R243 R244 R245 R246 R247 R248 R249 R250 R251 R252 R255 X253 B254
    unfold pairV
    obtain ⟨u276, hwv, hr, hb⟩ := boxed3 u262 (.bool sn) (.string sd) (.int .i64 se)
    have R277 := Lib.hid ((hb.block _ (lt_of_block R263.out)).trans R263.out)
    have R278 := Lib.hid ((hb.block _ (lt_of_block R264.out)).trans R264.out)
    have R279 := Lib.hid ((hb.block _ (lt_of_block R265.out)).trans R265.out)
    have R280 := Lib.hid ((hb.block _ (lt_of_block R266.out)).trans R266.out)
    have R281 := Lib.hid ((hb.block _ (lt_of_block R267.out)).trans R267.out)
    have R282 := Lib.hid ((hb.block _ (lt_of_block R268.out)).trans R268.out)
    have R283 := Lib.hid ((hb.block _ (lt_of_block R269.out)).trans R269.out)
    have R284 := Lib.hid ((hb.block _ (lt_of_block R270.out)).trans R270.out)
    have R285 := Lib.hid ((hb.block _ (lt_of_block R271.out)).trans R271.out)
    have R286 := Lib.hid ((hb.block _ (lt_of_block R272.out)).trans R272.out)
    have R287 := Lib.hid ((hb.block _ (lt_of_block R273.out)).trans R273.out)
    have X288 := Lib.hid (TabB.below X274.out hb)
    have B289 := Lib.hid (B275.out.trans (hb.mono B275.out.size))
    have R290 := Lib.hid hr
    have HYW := Lib.hid hwv
    clear hb hr hwv R263 R264 R265 R266 R267 R268 R269 R270 R271 R272 R273 X274 B275
    go_upto_region 18 with fail
    rw [← HYW.out]
    clear HYW
    have hs := HSs.out
    rcases HIc.out with rfl | rfl
    rotate_left
    · go_wp2_with fail
      go_ret
      exact ⟨rfl, B289.out⟩
    rcases HJc.out with rfl | rfl
    rotate_left
    · go_wp2_with fail
      go_ret
      exact ⟨rfl, B289.out⟩
    rcases HKc.out with rfl | rfl
    rotate_left
    · go_wp2_with fail
      go_ret
      exact ⟨rfl, B289.out⟩
    rcases HLc.out with rfl | rfl
    rotate_left
    · go_wp2_with fail
      go_ret
      exact ⟨rfl, B289.out⟩
    obtain ⟨rfl, rfl, rfl⟩ := hs rfl rfl rfl rfl
    obtain ⟨⟨c291, c292, c293⟩, _⟩ := row3 R290.out
    obtain ⟨⟨c294, c295, c296⟩, _⟩ := row3 R287.out
    go_wp2_with fail
    go_ret
    exact ⟨rfl, B289.out⟩
set_option maxRecDepth 100000 in
set_option maxHeartbeats 4000000 in
theorem ring_far (w : World) (n1 n2 n3 : Bool) (d1 d2 d3 : ByteArray) (e1 e2 e3 : Int) (h1 : dsane n1 (unstr d1) e1 = true) (h2 : dsane n2 (unstr d2) e2 = true) (h3 : dsane n3 (unstr d3) e3 = true) (xn pn un vn tn sn : Bool) (xd pd ud vd td sd : ByteArray) (xe pe ue ve te se gc ic jc kc lc : Int) (a1 : addP ⟨n1, d1, e1⟩ ⟨n2, d2, e2⟩ = (⟨xn, xd, xe⟩, 4)) (a2 : addP ⟨n2, d2, e2⟩ ⟨n1, d1, e1⟩ = (⟨xn, xd, xe⟩, 4)) (a3 : mulP ⟨n1, d1, e1⟩ ⟨n2, d2, e2⟩ = (⟨pn, pd, pe⟩, gc)) (a4 : mulP ⟨n2, d2, e2⟩ ⟨n1, d1, e1⟩ = (⟨pn, pd, pe⟩, gc)) (a6 : mulP ⟨n1, d1, e1⟩ ⟨n3, d3, e3⟩ = (⟨un, ud, ue⟩, ic)) (a7 : mulP ⟨n2, d2, e2⟩ ⟨n3, d3, e3⟩ = (⟨vn, vd, ve⟩, jc)) (a8 : mulP ⟨xn, xd, xe⟩ ⟨n3, d3, e3⟩ = (⟨tn, td, te⟩, kc)) (a9 : addP ⟨un, ud, ue⟩ ⟨vn, vd, ve⟩ = (⟨sn, sd, se⟩, lc)) (sx : xd.size ≤ 1000000) (su : ud.size ≤ 1000000) (sv : vd.size ≤ 1000000) (ht : TabB w) :
    Calls Tryd.prog 5 #[.agg #[.bool n1, .string d1, .int .i64 e1], .agg #[.bool n2, .string d2, .int .i64 e2], .agg #[.bool n3, .string d3, .int .i64 e3]] w fun e w' => e = .returned (.bool true) ∧ Below w.heap.size w w' := by
  have HS1 := Lib.hid (fun v => Sane_all v n1 d1 e1)
  have HS2 := Lib.hid (fun v => Sane_all v n2 d2 e2)
  have HS3 := Lib.hid (fun v => Sane_all v n3 d3 e3)
  obtain ⟨z11, z12, z13⟩ := dsane_any h1
  obtain ⟨z21, z22, z23⟩ := dsane_any h2
  obtain ⟨z31, z32, z33⟩ := dsane_any h3
  have HA1 := Lib.hid (fun v => Add_pair v n1 d1 e1 n2 d2 e2 (by omega) (by omega))
  rw [a1] at HA1
  have HA2 := Lib.hid (fun v => Add_pair v n2 d2 e2 n1 d1 e1 (by omega) (by omega))
  rw [a2] at HA2
  have HA3 := Lib.hid (fun v => Mul_pair v n1 d1 e1 n2 d2 e2 (by omega) (by omega))
  rw [a3] at HA3
  have HA4 := Lib.hid (fun v => Mul_pair v n2 d2 e2 n1 d1 e1 (by omega) (by omega))
  rw [a4] at HA4
  have HA6 := Lib.hid (fun v => Mul_pair v n1 d1 e1 n3 d3 e3 (by omega) (by omega))
  rw [a6] at HA6
  have HA7 := Lib.hid (fun v => Mul_pair v n2 d2 e2 n3 d3 e3 (by omega) (by omega))
  rw [a7] at HA7
  have HA8 := Lib.hid (fun v => Mul_pair v xn xd xe n3 d3 e3 (by omega) (by omega))
  rw [a8] at HA8
  have HA9 := Lib.hid (fun v => Add_pair v un ud ue vn vd ve (by omega) (by omega))
  rw [a9] at HA9
  rw [h1] at HS1
  rw [h2] at HS2
  rw [h3] at HS3
  clear a1 a2 a3 a4 a6 a7 a8 a9 h1 h2 h3 z11 z12 z13 z21 z22 z23 z31 z32 z33 sx su sv
  obtain ⟨wa, hwa, r1, r2, r3, hB⟩ := rows3_at w n1 n2 n3 d1 d2 d3 e1 e2 e3
  have HW := Lib.hid hwa
  have HB := Lib.hid hB
  have HRa := Lib.hid r1
  have HRb := Lib.hid r2
  have HRc := Lib.hid r3
  have HT := Lib.hid (TabB.below ht hB)
  clear hwa hB r1 r2 r3 ht
  go_enter Tryd.func5, Tryd.ntmps5
  go_upto_region 1 with fail
  rw [← HW.out]
  clear HW
  go_wp2_with fail
  with_reducible refine (awake_any _ HT.out).mono ?_
  rintro e u1 ⟨rfl, hb⟩
  have R2 := Lib.hid ((hb.block _ (lt_of_block HRa.out)).trans HRa.out)
  have R3 := Lib.hid ((hb.block _ (lt_of_block HRb.out)).trans HRb.out)
  have R4 := Lib.hid ((hb.block _ (lt_of_block HRc.out)).trans HRc.out)
  have X5 := Lib.hid (TabB.below HT.out hb)
  have B6 := Lib.hid (HB.out.trans (hb.mono HB.out.size))
  clear hb HRa HRb HRc HT HB
  obtain ⟨⟨c7, c8, c9⟩, _⟩ := row3 R2.out
  go_wp2_with fail
  clear c7 c8 c9
  with_reducible refine (HS1.out _).mono ?_
  rintro e u10 ⟨rfl, hb⟩
  have R11 := Lib.hid ((hb.block _ (lt_of_block R2.out)).trans R2.out)
  have R12 := Lib.hid ((hb.block _ (lt_of_block R3.out)).trans R3.out)
  have R13 := Lib.hid ((hb.block _ (lt_of_block R4.out)).trans R4.out)
  have X14 := Lib.hid (TabB.below X5.out hb)
  have B15 := Lib.hid (B6.out.trans (hb.mono B6.out.size))
  clear hb R2 R3 R4 X5 B6
  obtain ⟨⟨c16, c17, c18⟩, _⟩ := row3 R12.out
  go_wp2_with fail
  clear c16 c17 c18
  with_reducible refine (HS2.out _).mono ?_
  rintro e u19 ⟨rfl, hb⟩
  have R20 := Lib.hid ((hb.block _ (lt_of_block R11.out)).trans R11.out)
  have R21 := Lib.hid ((hb.block _ (lt_of_block R12.out)).trans R12.out)
  have R22 := Lib.hid ((hb.block _ (lt_of_block R13.out)).trans R13.out)
  have X23 := Lib.hid (TabB.below X14.out hb)
  have B24 := Lib.hid (B15.out.trans (hb.mono B15.out.size))
  clear hb R11 R12 R13 X14 B15
  obtain ⟨⟨c25, c26, c27⟩, _⟩ := row3 R22.out
  go_wp2_with fail
  clear c25 c26 c27
  with_reducible refine (HS3.out _).mono ?_
  rintro e u28 ⟨rfl, hb⟩
  have R29 := Lib.hid ((hb.block _ (lt_of_block R20.out)).trans R20.out)
  have R30 := Lib.hid ((hb.block _ (lt_of_block R21.out)).trans R21.out)
  have R31 := Lib.hid ((hb.block _ (lt_of_block R22.out)).trans R22.out)
  have X32 := Lib.hid (TabB.below X23.out hb)
  have B33 := Lib.hid (B24.out.trans (hb.mono B24.out.size))
  clear hb R20 R21 R22 X23 B24
  obtain ⟨⟨c34, c35, c36⟩, _⟩ := row3 R29.out
  obtain ⟨⟨c37, c38, c39⟩, _⟩ := row3 R30.out
  go_wp2_with fail
  clear c34 c35 c36 c37 c38 c39
  with_reducible refine (HA1.out _).mono ?_
  rintro e u40 ⟨rfl, hb⟩
  have R41 := Lib.hid ((hb.block _ (lt_of_block R29.out)).trans R29.out)
  have R42 := Lib.hid ((hb.block _ (lt_of_block R30.out)).trans R30.out)
  have R43 := Lib.hid ((hb.block _ (lt_of_block R31.out)).trans R31.out)
  have X44 := Lib.hid (TabB.below X32.out hb)
  have B45 := Lib.hid (B33.out.trans (hb.mono B33.out.size))
  clear hb R29 R30 R31 X32 B33
  unfold pairV
  obtain ⟨u46, hwv, hr, hb⟩ := boxed3 u40 (.bool xn) (.string xd) (.int .i64 xe)
  have R47 := Lib.hid ((hb.block _ (lt_of_block R41.out)).trans R41.out)
  have R48 := Lib.hid ((hb.block _ (lt_of_block R42.out)).trans R42.out)
  have R49 := Lib.hid ((hb.block _ (lt_of_block R43.out)).trans R43.out)
  have X50 := Lib.hid (TabB.below X44.out hb)
  have B51 := Lib.hid (B45.out.trans (hb.mono B45.out.size))
  have R52 := Lib.hid hr
  have HYW := Lib.hid hwv
  clear hb hr hwv R41 R42 R43 X44 B45
  go_upto_region 5 with fail
  rw [← HYW.out]
  clear HYW
  obtain ⟨⟨c53, c54, c55⟩, _⟩ := row3 R48.out
  obtain ⟨⟨c56, c57, c58⟩, _⟩ := row3 R47.out
  go_wp2_with fail
  clear c53 c54 c55 c56 c57 c58
  with_reducible refine (HA2.out _).mono ?_
  rintro e u59 ⟨rfl, hb⟩
  have R60 := Lib.hid ((hb.block _ (lt_of_block R47.out)).trans R47.out)
  have R61 := Lib.hid ((hb.block _ (lt_of_block R48.out)).trans R48.out)
  have R62 := Lib.hid ((hb.block _ (lt_of_block R49.out)).trans R49.out)
  have R63 := Lib.hid ((hb.block _ (lt_of_block R52.out)).trans R52.out)
  have X64 := Lib.hid (TabB.below X50.out hb)
  have B65 := Lib.hid (B51.out.trans (hb.mono B51.out.size))
  clear hb R47 R48 R49 R52 X50 B51
  unfold pairV
  obtain ⟨u66, hwv, hr, hb⟩ := boxed3 u59 (.bool xn) (.string xd) (.int .i64 xe)
  have R67 := Lib.hid ((hb.block _ (lt_of_block R60.out)).trans R60.out)
  have R68 := Lib.hid ((hb.block _ (lt_of_block R61.out)).trans R61.out)
  have R69 := Lib.hid ((hb.block _ (lt_of_block R62.out)).trans R62.out)
  have R70 := Lib.hid ((hb.block _ (lt_of_block R63.out)).trans R63.out)
  have X71 := Lib.hid (TabB.below X64.out hb)
  have B72 := Lib.hid (B65.out.trans (hb.mono B65.out.size))
  have R73 := Lib.hid hr
  have HYW := Lib.hid hwv
  clear hb hr hwv R60 R61 R62 R63 X64 B65
  go_upto_region 6 with fail
  rw [← HYW.out]
  clear HYW
  obtain ⟨⟨c74, c75, c76⟩, _⟩ := row3 R67.out
  obtain ⟨⟨c77, c78, c79⟩, _⟩ := row3 R68.out
  go_wp2_with fail
  clear c74 c75 c76 c77 c78 c79
  with_reducible refine (HA3.out _).mono ?_
  rintro e u80 ⟨rfl, hb⟩
  have R81 := Lib.hid ((hb.block _ (lt_of_block R67.out)).trans R67.out)
  have R82 := Lib.hid ((hb.block _ (lt_of_block R68.out)).trans R68.out)
  have R83 := Lib.hid ((hb.block _ (lt_of_block R69.out)).trans R69.out)
  have R84 := Lib.hid ((hb.block _ (lt_of_block R70.out)).trans R70.out)
  have R85 := Lib.hid ((hb.block _ (lt_of_block R73.out)).trans R73.out)
  have X86 := Lib.hid (TabB.below X71.out hb)
  have B87 := Lib.hid (B72.out.trans (hb.mono B72.out.size))
  clear hb R67 R68 R69 R70 R73 X71 B72
  unfold pairV
  obtain ⟨u88, hwv, hr, hb⟩ := boxed3 u80 (.bool pn) (.string pd) (.int .i64 pe)
  have R89 := Lib.hid ((hb.block _ (lt_of_block R81.out)).trans R81.out)
  have R90 := Lib.hid ((hb.block _ (lt_of_block R82.out)).trans R82.out)
  have R91 := Lib.hid ((hb.block _ (lt_of_block R83.out)).trans R83.out)
  have R92 := Lib.hid ((hb.block _ (lt_of_block R84.out)).trans R84.out)
  have R93 := Lib.hid ((hb.block _ (lt_of_block R85.out)).trans R85.out)
  have X94 := Lib.hid (TabB.below X86.out hb)
  have B95 := Lib.hid (B87.out.trans (hb.mono B87.out.size))
  have R96 := Lib.hid hr
  have HYW := Lib.hid hwv
  clear hb hr hwv R81 R82 R83 R84 R85 X86 B87
  go_upto_region 7 with fail
  rw [← HYW.out]
  clear HYW
  obtain ⟨⟨c97, c98, c99⟩, _⟩ := row3 R90.out
  obtain ⟨⟨c100, c101, c102⟩, _⟩ := row3 R89.out
  go_wp2_with fail
  clear c97 c98 c99 c100 c101 c102
  with_reducible refine (HA4.out _).mono ?_
  rintro e u103 ⟨rfl, hb⟩
  have R104 := Lib.hid ((hb.block _ (lt_of_block R89.out)).trans R89.out)
  have R105 := Lib.hid ((hb.block _ (lt_of_block R90.out)).trans R90.out)
  have R106 := Lib.hid ((hb.block _ (lt_of_block R91.out)).trans R91.out)
  have R107 := Lib.hid ((hb.block _ (lt_of_block R92.out)).trans R92.out)
  have R108 := Lib.hid ((hb.block _ (lt_of_block R93.out)).trans R93.out)
  have R109 := Lib.hid ((hb.block _ (lt_of_block R96.out)).trans R96.out)
  have X110 := Lib.hid (TabB.below X94.out hb)
  have B111 := Lib.hid (B95.out.trans (hb.mono B95.out.size))
  clear hb R89 R90 R91 R92 R93 R96 X94 B95
  unfold pairV
  obtain ⟨u112, hwv, hr, hb⟩ := boxed3 u103 (.bool pn) (.string pd) (.int .i64 pe)
  have R113 := Lib.hid ((hb.block _ (lt_of_block R104.out)).trans R104.out)
  have R114 := Lib.hid ((hb.block _ (lt_of_block R105.out)).trans R105.out)
  have R115 := Lib.hid ((hb.block _ (lt_of_block R106.out)).trans R106.out)
  have R116 := Lib.hid ((hb.block _ (lt_of_block R107.out)).trans R107.out)
  have R117 := Lib.hid ((hb.block _ (lt_of_block R108.out)).trans R108.out)
  have R118 := Lib.hid ((hb.block _ (lt_of_block R109.out)).trans R109.out)
  have X119 := Lib.hid (TabB.below X110.out hb)
  have B120 := Lib.hid (B111.out.trans (hb.mono B111.out.size))
  have R121 := Lib.hid hr
  have HYW := Lib.hid hwv
  clear hb hr hwv R104 R105 R106 R107 R108 R109 X110 B111
  go_upto_region 8 with fail
  rw [← HYW.out]
  clear HYW
  obtain ⟨⟨c122, c123, c124⟩, _⟩ := row3 R116.out
  obtain ⟨⟨c125, c126, c127⟩, _⟩ := row3 R117.out
  obtain ⟨⟨c128, c129, c130⟩, _⟩ := row3 R118.out
  obtain ⟨⟨c131, c132, c133⟩, _⟩ := row3 R121.out
  go_upto_region 14 with fail
  clear c122 c123 c124 c125 c126 c127 c128 c129 c130 c131 c132 c133
  obtain ⟨⟨c134, c135, c136⟩, _⟩ := row3 R113.out
  obtain ⟨⟨c137, c138, c139⟩, _⟩ := row3 R115.out
  go_wp2_with fail
  clear c134 c135 c136 c137 c138 c139
  with_reducible refine (HA6.out _).mono ?_
  rintro e u140 ⟨rfl, hb⟩
  have R141 := Lib.hid ((hb.block _ (lt_of_block R113.out)).trans R113.out)
  have R142 := Lib.hid ((hb.block _ (lt_of_block R114.out)).trans R114.out)
  have R143 := Lib.hid ((hb.block _ (lt_of_block R115.out)).trans R115.out)
  have R144 := Lib.hid ((hb.block _ (lt_of_block R116.out)).trans R116.out)
  have R145 := Lib.hid ((hb.block _ (lt_of_block R117.out)).trans R117.out)
  have R146 := Lib.hid ((hb.block _ (lt_of_block R118.out)).trans R118.out)
  have R147 := Lib.hid ((hb.block _ (lt_of_block R121.out)).trans R121.out)
  have X148 := Lib.hid (TabB.below X119.out hb)
  have B149 := Lib.hid (B120.out.trans (hb.mono B120.out.size))
  clear hb R113 R114 R115 R116 R117 R118 R121 X119 B120
  unfold pairV
  obtain ⟨u150, hwv, hr, hb⟩ := boxed3 u140 (.bool un) (.string ud) (.int .i64 ue)
  have R151 := Lib.hid ((hb.block _ (lt_of_block R141.out)).trans R141.out)
  have R152 := Lib.hid ((hb.block _ (lt_of_block R142.out)).trans R142.out)
  have R153 := Lib.hid ((hb.block _ (lt_of_block R143.out)).trans R143.out)
  have R154 := Lib.hid ((hb.block _ (lt_of_block R144.out)).trans R144.out)
  have R155 := Lib.hid ((hb.block _ (lt_of_block R145.out)).trans R145.out)
  have R156 := Lib.hid ((hb.block _ (lt_of_block R146.out)).trans R146.out)
  have R157 := Lib.hid ((hb.block _ (lt_of_block R147.out)).trans R147.out)
  have X158 := Lib.hid (TabB.below X148.out hb)
  have B159 := Lib.hid (B149.out.trans (hb.mono B149.out.size))
  have R160 := Lib.hid hr
  have HYW := Lib.hid hwv
  clear hb hr hwv R141 R142 R143 R144 R145 R146 R147 X148 B149
  go_upto_region 15 with fail
  rw [← HYW.out]
  clear HYW
  obtain ⟨⟨c161, c162, c163⟩, _⟩ := row3 R152.out
  obtain ⟨⟨c164, c165, c166⟩, _⟩ := row3 R153.out
  go_wp2_with fail
  clear c161 c162 c163 c164 c165 c166
  with_reducible refine (HA7.out _).mono ?_
  rintro e u167 ⟨rfl, hb⟩
  have R168 := Lib.hid ((hb.block _ (lt_of_block R151.out)).trans R151.out)
  have R169 := Lib.hid ((hb.block _ (lt_of_block R152.out)).trans R152.out)
  have R170 := Lib.hid ((hb.block _ (lt_of_block R153.out)).trans R153.out)
  have R171 := Lib.hid ((hb.block _ (lt_of_block R154.out)).trans R154.out)
  have R172 := Lib.hid ((hb.block _ (lt_of_block R155.out)).trans R155.out)
  have R173 := Lib.hid ((hb.block _ (lt_of_block R156.out)).trans R156.out)
  have R174 := Lib.hid ((hb.block _ (lt_of_block R157.out)).trans R157.out)
  have R175 := Lib.hid ((hb.block _ (lt_of_block R160.out)).trans R160.out)
  have X176 := Lib.hid (TabB.below X158.out hb)
  have B177 := Lib.hid (B159.out.trans (hb.mono B159.out.size))
  clear hb R151 R152 R153 R154 R155 R156 R157 R160 X158 B159
  unfold pairV
  obtain ⟨u178, hwv, hr, hb⟩ := boxed3 u167 (.bool vn) (.string vd) (.int .i64 ve)
  have R179 := Lib.hid ((hb.block _ (lt_of_block R168.out)).trans R168.out)
  have R180 := Lib.hid ((hb.block _ (lt_of_block R169.out)).trans R169.out)
  have R181 := Lib.hid ((hb.block _ (lt_of_block R170.out)).trans R170.out)
  have R182 := Lib.hid ((hb.block _ (lt_of_block R171.out)).trans R171.out)
  have R183 := Lib.hid ((hb.block _ (lt_of_block R172.out)).trans R172.out)
  have R184 := Lib.hid ((hb.block _ (lt_of_block R173.out)).trans R173.out)
  have R185 := Lib.hid ((hb.block _ (lt_of_block R174.out)).trans R174.out)
  have R186 := Lib.hid ((hb.block _ (lt_of_block R175.out)).trans R175.out)
  have X187 := Lib.hid (TabB.below X176.out hb)
  have B188 := Lib.hid (B177.out.trans (hb.mono B177.out.size))
  have R189 := Lib.hid hr
  have HYW := Lib.hid hwv
  clear hb hr hwv R168 R169 R170 R171 R172 R173 R174 R175 X176 B177
  go_upto_region 16 with fail
  rw [← HYW.out]
  clear HYW
  obtain ⟨⟨c190, c191, c192⟩, _⟩ := row3 R182.out
  obtain ⟨⟨c193, c194, c195⟩, _⟩ := row3 R181.out
  go_wp2_with fail
  clear c190 c191 c192 c193 c194 c195
  with_reducible refine (HA8.out _).mono ?_
  rintro e u196 ⟨rfl, hb⟩
  have R197 := Lib.hid ((hb.block _ (lt_of_block R179.out)).trans R179.out)
  have R198 := Lib.hid ((hb.block _ (lt_of_block R180.out)).trans R180.out)
  have R199 := Lib.hid ((hb.block _ (lt_of_block R181.out)).trans R181.out)
  have R200 := Lib.hid ((hb.block _ (lt_of_block R182.out)).trans R182.out)
  have R201 := Lib.hid ((hb.block _ (lt_of_block R183.out)).trans R183.out)
  have R202 := Lib.hid ((hb.block _ (lt_of_block R184.out)).trans R184.out)
  have R203 := Lib.hid ((hb.block _ (lt_of_block R185.out)).trans R185.out)
  have R204 := Lib.hid ((hb.block _ (lt_of_block R186.out)).trans R186.out)
  have R205 := Lib.hid ((hb.block _ (lt_of_block R189.out)).trans R189.out)
  have X206 := Lib.hid (TabB.below X187.out hb)
  have B207 := Lib.hid (B188.out.trans (hb.mono B188.out.size))
  clear hb R179 R180 R181 R182 R183 R184 R185 R186 R189 X187 B188
  unfold pairV
  obtain ⟨u208, hwv, hr, hb⟩ := boxed3 u196 (.bool tn) (.string td) (.int .i64 te)
  have R209 := Lib.hid ((hb.block _ (lt_of_block R197.out)).trans R197.out)
  have R210 := Lib.hid ((hb.block _ (lt_of_block R198.out)).trans R198.out)
  have R211 := Lib.hid ((hb.block _ (lt_of_block R199.out)).trans R199.out)
  have R212 := Lib.hid ((hb.block _ (lt_of_block R200.out)).trans R200.out)
  have R213 := Lib.hid ((hb.block _ (lt_of_block R201.out)).trans R201.out)
  have R214 := Lib.hid ((hb.block _ (lt_of_block R202.out)).trans R202.out)
  have R215 := Lib.hid ((hb.block _ (lt_of_block R203.out)).trans R203.out)
  have R216 := Lib.hid ((hb.block _ (lt_of_block R204.out)).trans R204.out)
  have R217 := Lib.hid ((hb.block _ (lt_of_block R205.out)).trans R205.out)
  have X218 := Lib.hid (TabB.below X206.out hb)
  have B219 := Lib.hid (B207.out.trans (hb.mono B207.out.size))
  have R220 := Lib.hid hr
  have HYW := Lib.hid hwv
  clear hb hr hwv R197 R198 R199 R200 R201 R202 R203 R204 R205 X206 B207
  go_upto_region 17 with fail
  rw [← HYW.out]
  clear HYW
  obtain ⟨⟨c221, c222, c223⟩, _⟩ := row3 R216.out
  obtain ⟨⟨c224, c225, c226⟩, _⟩ := row3 R217.out
  go_wp2_with fail
  clear c221 c222 c223 c224 c225 c226
  with_reducible refine (HA9.out _).mono ?_
  rintro e u227 ⟨rfl, hb⟩
  have R228 := Lib.hid ((hb.block _ (lt_of_block R209.out)).trans R209.out)
  have R229 := Lib.hid ((hb.block _ (lt_of_block R210.out)).trans R210.out)
  have R230 := Lib.hid ((hb.block _ (lt_of_block R211.out)).trans R211.out)
  have R231 := Lib.hid ((hb.block _ (lt_of_block R212.out)).trans R212.out)
  have R232 := Lib.hid ((hb.block _ (lt_of_block R213.out)).trans R213.out)
  have R233 := Lib.hid ((hb.block _ (lt_of_block R214.out)).trans R214.out)
  have R234 := Lib.hid ((hb.block _ (lt_of_block R215.out)).trans R215.out)
  have R235 := Lib.hid ((hb.block _ (lt_of_block R216.out)).trans R216.out)
  have R236 := Lib.hid ((hb.block _ (lt_of_block R217.out)).trans R217.out)
  have R237 := Lib.hid ((hb.block _ (lt_of_block R220.out)).trans R220.out)
  have X238 := Lib.hid (TabB.below X218.out hb)
  have B239 := Lib.hid (B219.out.trans (hb.mono B219.out.size))
  clear hb R209 R210 R211 R212 R213 R214 R215 R216 R217 R220 X218 B219
  unfold pairV
  obtain ⟨u240, hwv, hr, hb⟩ := boxed3 u227 (.bool sn) (.string sd) (.int .i64 se)
  have R241 := Lib.hid ((hb.block _ (lt_of_block R228.out)).trans R228.out)
  have R242 := Lib.hid ((hb.block _ (lt_of_block R229.out)).trans R229.out)
  have R243 := Lib.hid ((hb.block _ (lt_of_block R230.out)).trans R230.out)
  have R244 := Lib.hid ((hb.block _ (lt_of_block R231.out)).trans R231.out)
  have R245 := Lib.hid ((hb.block _ (lt_of_block R232.out)).trans R232.out)
  have R246 := Lib.hid ((hb.block _ (lt_of_block R233.out)).trans R233.out)
  have R247 := Lib.hid ((hb.block _ (lt_of_block R234.out)).trans R234.out)
  have R248 := Lib.hid ((hb.block _ (lt_of_block R235.out)).trans R235.out)
  have R249 := Lib.hid ((hb.block _ (lt_of_block R236.out)).trans R236.out)
  have R250 := Lib.hid ((hb.block _ (lt_of_block R237.out)).trans R237.out)
  have X251 := Lib.hid (TabB.below X238.out hb)
  have B252 := Lib.hid (B239.out.trans (hb.mono B239.out.size))
  have R253 := Lib.hid hr
  have HYW := Lib.hid hwv
  clear hb hr hwv R228 R229 R230 R231 R232 R233 R234 R235 R236 R237 X238 B239
  go_upto_region 18 with fail
  rw [← HYW.out]
  clear HYW
  go_wp2_with fail
  go_ret
  exact ⟨rfl, B252.out⟩
end Go.Proofs.YtpnhgggdjlglnaaDoor.dk
