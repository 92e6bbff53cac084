/- The walk of DecOrder. -/
import Derived.Test.YtpnhgggdjlglnaaDoorL4
import Derived.Deep.DeepCutAuto
import Derived.Deep.CutBlock
namespace Go.Proofs.YtpnhgggdjlglnaaDoor.dk
open Go.PlainAid Go.ChangeShapes Go.WideShapes Go.ChangeAt Go.RowKit

/-- Three numbers lie where a function of three keeps them. -/
theorem rows3_at (w : World) (n1 n2 n3 : Bool) (d1 d2 d3 : ByteArray) (e1 e2 e3 : Int) : ∃ wa, wa = ((w.alloc (.cells #[.bool n1, .string d1, .int .i64 e1] 23)).alloc (.cells #[.bool n2, .string d2, .int .i64 e2] 23)).alloc (.cells #[.bool n3, .string d3, .int .i64 e3] 23) ∧
    wa.heap[w.heap.size]? = some (.cells #[.bool n1, .string d1, .int .i64 e1] 23 (0, 0)) ∧ wa.heap[w.heap.size + 1]? = some (.cells #[.bool n2, .string d2, .int .i64 e2] 23 (0, 0)) ∧ wa.heap[w.heap.size + 1 + 1]? = some (.cells #[.bool n3, .string d3, .int .i64 e3] 23 (0, 0)) ∧ Below w.heap.size w wa := by
  obtain ⟨wb, hwb, r1, r2, hB⟩ := two_rows_at w n1 n2 d1 d2 e1 e2
  have hs : wb.heap.size = w.heap.size + 1 + 1 := by rw [hwb, World.size_alloc, World.size_alloc]
  rw [← hwb]
  refine ⟨_, rfl, alloc_old _ r1, alloc_old _ r2, ?_, hB.alloc hB.size _⟩
  rw [← hs]
  exact heap_alloc_new _ _
theorem ba_ext {a b : ByteArray} (h : a.toList = b.toList) : a = b := by
  rw [ByteArray.toList_eq, ByteArray.toList_eq] at h
  obtain ⟨⟨a⟩⟩ := a
  obtain ⟨⟨b⟩⟩ := b
  have : a = b := h
  rw [this]
set_option maxRecDepth 100000 in
set_option maxHeartbeats 4000000 in
theorem order_no1 (w : World) (n1 n2 n3 : Bool) (d1 d2 d3 : ByteArray) (e1 e2 e3 : Int) (h1 : dsane n1 (unstr d1) e1 = false) (ht : TabB w) :
    Calls Tryd.prog 6 #[.agg #[.bool n1, .string d1, .int .i64 e1], .agg #[.bool n2, .string d2, .int .i64 e2], .agg #[.bool n3, .string d3, .int .i64 e3]] w fun e w' => e = .returned (.bool true) ∧ Below w.heap.size w w' := by
  have HS1 := Lib.hid (fun v => Sane_all v n1 d1 e1)
  have HS2 := Lib.hid (fun v => Sane_all v n2 d2 e2)
  have HS3 := Lib.hid (fun v => Sane_all v n3 d3 e3)
  rw [h1] at HS1
  clear h1
  obtain ⟨wa, hwa, r1, r2, r3, hB⟩ := rows3_at w n1 n2 n3 d1 d2 d3 e1 e2 e3
  have HW := Lib.hid hwa
  have HB := Lib.hid hB
  have HRa := Lib.hid r1
  have HRb := Lib.hid r2
  have HRc := Lib.hid r3
  have HT := Lib.hid (TabB.below ht hB)
  clear hwa hB r1 r2 r3 ht
  go_enter Tryd.func6, Tryd.ntmps6
  go_upto_region 1 with fail
  rw [← HW.out]
  clear HW
  go_wp2_with fail
  with_reducible refine (awake_any _ HT.out).mono ?_
  rintro e u1 ⟨rfl, hb⟩
  have R2 := Lib.hid ((hb.block _ (lt_of_block HRa.out)).trans HRa.out)
  have R3 := Lib.hid ((hb.block _ (lt_of_block HRb.out)).trans HRb.out)
  have R4 := Lib.hid ((hb.block _ (lt_of_block HRc.out)).trans HRc.out)
  have X5 := Lib.hid (TabB.below HT.out hb)
  have B6 := Lib.hid (HB.out.trans (hb.mono HB.out.size))
  clear hb HRa HRb HRc HT HB
  obtain ⟨⟨c7, c8, c9⟩, _⟩ := row3 R2.out
  go_wp2_with fail
  clear c7 c8 c9
  with_reducible refine (HS1.out _).mono ?_
  rintro e u10 ⟨rfl, hb⟩
  have R11 := Lib.hid ((hb.block _ (lt_of_block R2.out)).trans R2.out)
  have R12 := Lib.hid ((hb.block _ (lt_of_block R3.out)).trans R3.out)
  have R13 := Lib.hid ((hb.block _ (lt_of_block R4.out)).trans R4.out)
  have X14 := Lib.hid (TabB.below X5.out hb)
  have B15 := Lib.hid (B6.out.trans (hb.mono B6.out.size))
  clear hb R2 R3 R4 X5 B6
  go_wp2_with fail
  go_ret
  exact ⟨rfl, B15.out⟩
set_option maxRecDepth 100000 in
set_option maxHeartbeats 4000000 in
theorem order_no2 (w : World) (n1 n2 n3 : Bool) (d1 d2 d3 : ByteArray) (e1 e2 e3 : Int) (h1 : dsane n1 (unstr d1) e1 = true) (h2 : dsane n2 (unstr d2) e2 = false) (ht : TabB w) :
    Calls Tryd.prog 6 #[.agg #[.bool n1, .string d1, .int .i64 e1], .agg #[.bool n2, .string d2, .int .i64 e2], .agg #[.bool n3, .string d3, .int .i64 e3]] w fun e w' => e = .returned (.bool true) ∧ Below w.heap.size w w' := by
  have HS1 := Lib.hid (fun v => Sane_all v n1 d1 e1)
  have HS2 := Lib.hid (fun v => Sane_all v n2 d2 e2)
  have HS3 := Lib.hid (fun v => Sane_all v n3 d3 e3)
  rw [h1] at HS1
  rw [h2] at HS2
  clear h1 h2
  obtain ⟨wa, hwa, r1, r2, r3, hB⟩ := rows3_at w n1 n2 n3 d1 d2 d3 e1 e2 e3
  have HW := Lib.hid hwa
  have HB := Lib.hid hB
  have HRa := Lib.hid r1
  have HRb := Lib.hid r2
  have HRc := Lib.hid r3
  have HT := Lib.hid (TabB.below ht hB)
  clear hwa hB r1 r2 r3 ht
  go_enter Tryd.func6, Tryd.ntmps6
  go_upto_region 1 with fail
  rw [← HW.out]
  clear HW
  go_wp2_with fail
  with_reducible refine (awake_any _ HT.out).mono ?_
  rintro e u1 ⟨rfl, hb⟩
  have R2 := Lib.hid ((hb.block _ (lt_of_block HRa.out)).trans HRa.out)
  have R3 := Lib.hid ((hb.block _ (lt_of_block HRb.out)).trans HRb.out)
  have R4 := Lib.hid ((hb.block _ (lt_of_block HRc.out)).trans HRc.out)
  have X5 := Lib.hid (TabB.below HT.out hb)
  have B6 := Lib.hid (HB.out.trans (hb.mono HB.out.size))
  clear hb HRa HRb HRc HT HB
  obtain ⟨⟨c7, c8, c9⟩, _⟩ := row3 R2.out
  go_wp2_with fail
  clear c7 c8 c9
  with_reducible refine (HS1.out _).mono ?_
  rintro e u10 ⟨rfl, hb⟩
  have R11 := Lib.hid ((hb.block _ (lt_of_block R2.out)).trans R2.out)
  have R12 := Lib.hid ((hb.block _ (lt_of_block R3.out)).trans R3.out)
  have R13 := Lib.hid ((hb.block _ (lt_of_block R4.out)).trans R4.out)
  have X14 := Lib.hid (TabB.below X5.out hb)
  have B15 := Lib.hid (B6.out.trans (hb.mono B6.out.size))
  clear hb R2 R3 R4 X5 B6
  obtain ⟨⟨c16, c17, c18⟩, _⟩ := row3 R12.out
  go_wp2_with fail
  clear c16 c17 c18
  with_reducible refine (HS2.out _).mono ?_
  rintro e u19 ⟨rfl, hb⟩
  have R20 := Lib.hid ((hb.block _ (lt_of_block R11.out)).trans R11.out)
  have R21 := Lib.hid ((hb.block _ (lt_of_block R12.out)).trans R12.out)
  have R22 := Lib.hid ((hb.block _ (lt_of_block R13.out)).trans R13.out)
  have X23 := Lib.hid (TabB.below X14.out hb)
  have B24 := Lib.hid (B15.out.trans (hb.mono B15.out.size))
  clear hb R11 R12 R13 X14 B15
  go_wp2_with fail
  go_ret
  exact ⟨rfl, B24.out⟩
set_option maxRecDepth 100000 in
set_option maxHeartbeats 4000000 in
theorem order_no3 (w : World) (n1 n2 n3 : Bool) (d1 d2 d3 : ByteArray) (e1 e2 e3 : Int) (h1 : dsane n1 (unstr d1) e1 = true) (h2 : dsane n2 (unstr d2) e2 = true) (h3 : dsane n3 (unstr d3) e3 = false) (ht : TabB w) :
    Calls Tryd.prog 6 #[.agg #[.bool n1, .string d1, .int .i64 e1], .agg #[.bool n2, .string d2, .int .i64 e2], .agg #[.bool n3, .string d3, .int .i64 e3]] w fun e w' => e = .returned (.bool true) ∧ Below w.heap.size w w' := by
  have HS1 := Lib.hid (fun v => Sane_all v n1 d1 e1)
  have HS2 := Lib.hid (fun v => Sane_all v n2 d2 e2)
  have HS3 := Lib.hid (fun v => Sane_all v n3 d3 e3)
  rw [h1] at HS1
  rw [h2] at HS2
  rw [h3] at HS3
  clear h1 h2 h3
  obtain ⟨wa, hwa, r1, r2, r3, hB⟩ := rows3_at w n1 n2 n3 d1 d2 d3 e1 e2 e3
  have HW := Lib.hid hwa
  have HB := Lib.hid hB
  have HRa := Lib.hid r1
  have HRb := Lib.hid r2
  have HRc := Lib.hid r3
  have HT := Lib.hid (TabB.below ht hB)
  clear hwa hB r1 r2 r3 ht
  go_enter Tryd.func6, Tryd.ntmps6
  go_upto_region 1 with fail
  rw [← HW.out]
  clear HW
  go_wp2_with fail
  with_reducible refine (awake_any _ HT.out).mono ?_
  rintro e u1 ⟨rfl, hb⟩
  have R2 := Lib.hid ((hb.block _ (lt_of_block HRa.out)).trans HRa.out)
  have R3 := Lib.hid ((hb.block _ (lt_of_block HRb.out)).trans HRb.out)
  have R4 := Lib.hid ((hb.block _ (lt_of_block HRc.out)).trans HRc.out)
  have X5 := Lib.hid (TabB.below HT.out hb)
  have B6 := Lib.hid (HB.out.trans (hb.mono HB.out.size))
  clear hb HRa HRb HRc HT HB
  obtain ⟨⟨c7, c8, c9⟩, _⟩ := row3 R2.out
  go_wp2_with fail
  clear c7 c8 c9
  with_reducible refine (HS1.out _).mono ?_
  rintro e u10 ⟨rfl, hb⟩
  have R11 := Lib.hid ((hb.block _ (lt_of_block R2.out)).trans R2.out)
  have R12 := Lib.hid ((hb.block _ (lt_of_block R3.out)).trans R3.out)
  have R13 := Lib.hid ((hb.block _ (lt_of_block R4.out)).trans R4.out)
  have X14 := Lib.hid (TabB.below X5.out hb)
  have B15 := Lib.hid (B6.out.trans (hb.mono B6.out.size))
  clear hb R2 R3 R4 X5 B6
  obtain ⟨⟨c16, c17, c18⟩, _⟩ := row3 R12.out
  go_wp2_with fail
  clear c16 c17 c18
  with_reducible refine (HS2.out _).mono ?_
  rintro e u19 ⟨rfl, hb⟩
  have R20 := Lib.hid ((hb.block _ (lt_of_block R11.out)).trans R11.out)
  have R21 := Lib.hid ((hb.block _ (lt_of_block R12.out)).trans R12.out)
  have R22 := Lib.hid ((hb.block _ (lt_of_block R13.out)).trans R13.out)
  have X23 := Lib.hid (TabB.below X14.out hb)
  have B24 := Lib.hid (B15.out.trans (hb.mono B15.out.size))
  clear hb R11 R12 R13 X14 B15
  obtain ⟨⟨c25, c26, c27⟩, _⟩ := row3 R22.out
  go_wp2_with fail
  clear c25 c26 c27
  with_reducible refine (HS3.out _).mono ?_
  rintro e u28 ⟨rfl, hb⟩
  have R29 := Lib.hid ((hb.block _ (lt_of_block R20.out)).trans R20.out)
  have R30 := Lib.hid ((hb.block _ (lt_of_block R21.out)).trans R21.out)
  have R31 := Lib.hid ((hb.block _ (lt_of_block R22.out)).trans R22.out)
  have X32 := Lib.hid (TabB.below X23.out hb)
  have B33 := Lib.hid (B24.out.trans (hb.mono B24.out.size))
  clear hb R20 R21 R22 X23 B24
  go_wp2_with fail
  go_ret
  exact ⟨rfl, B33.out⟩
set_option maxRecDepth 100000 in
set_option maxHeartbeats 4000000 in
theorem order_eq (w : World) (n1 n3 : Bool) (d1 d3 : ByteArray) (e1 e3 : Int) (h1 : dsane n1 (unstr d1) e1 = true) (h3 : dsane n3 (unstr d3) e3 = true) (c1 : ∀ v, Calls Tryd.prog 15 #[.agg #[.bool n1, .string d1, .int .i64 e1], .agg #[.bool n1, .string d1, .int .i64 e1]] v fun e w' => e = .returned (.int .i64 0) ∧ Below v.heap.size v w') (c2 : ∀ v, Calls Tryd.prog 15 #[.agg #[.bool n1, .string d1, .int .i64 e1], .agg #[.bool n1, .string d1, .int .i64 e1]] v fun e w' => e = .returned (.int .i64 0) ∧ Below v.heap.size v w') (m1 : Bool) (q1 : ngd n1 d1 e1 = m1) (c3 : ∀ v, Calls Tryd.prog 15 #[.agg #[.bool m1, .string d1, .int .i64 e1], .agg #[.bool m1, .string d1, .int .i64 e1]] v fun e w' => e = .returned (.int .i64 0) ∧ Below v.heap.size v w') (xn yn : Bool) (xd yd : ByteArray) (xe ye ec fc : Int) (a1 : addP ⟨n1, d1, e1⟩ ⟨n3, d3, e3⟩ = (⟨xn, xd, xe⟩, ec)) (a2 : addP ⟨n1, d1, e1⟩ ⟨n3, d3, e3⟩ = (⟨yn, yd, ye⟩, fc)) (hec : ec = 0 ∨ ec = 4) (hfc : fc = 0 ∨ fc = 4) (c6 : ec = 0 → fc = 0 → ∀ v, Calls Tryd.prog 15 #[.agg #[.bool xn, .string xd, .int .i64 xe], .agg #[.bool yn, .string yd, .int .i64 ye]] v fun e w' => e = .returned (.int .i64 0) ∧ Below v.heap.size v w') (ht : TabB w) :
    Calls Tryd.prog 6 #[.agg #[.bool n1, .string d1, .int .i64 e1], .agg #[.bool n1, .string d1, .int .i64 e1], .agg #[.bool n3, .string d3, .int .i64 e3]] w fun e w' => e = .returned (.bool true) ∧ Below w.heap.size w w' := by
  have HS1 := Lib.hid (fun v => Sane_all v n1 d1 e1)
  have HS2 := Lib.hid (fun v => Sane_all v n1 d1 e1)
  have HS3 := Lib.hid (fun v => Sane_all v n3 d3 e3)
  obtain ⟨z11, z12, z13⟩ := dsane_any h1
  obtain ⟨z31, z32, z33⟩ := dsane_any h3
  have HA1 := Lib.hid (fun v => Add_pair v n1 d1 e1 n3 d3 e3 (by omega) (by omega))
  have HA2 := Lib.hid (fun v => Add_pair v n1 d1 e1 n3 d3 e3 (by omega) (by omega))
  rw [a1] at HA1
  rw [a2] at HA2
  have HN1 := Lib.hid (fun v => Neg_any v n1 d1 e1 (by omega))
  have HN2 := Lib.hid (fun v => Neg_any v n1 d1 e1 (by omega))
  rw [q1] at HN1
  rw [q1] at HN2
  rw [h1] at HS1
  rw [h1] at HS2
  rw [h3] at HS3
  have HC1 := Lib.hid c1
  have HC2 := Lib.hid c2
  have HC3 := Lib.hid c3
  have HC6 := Lib.hid c6
  have HEc := Lib.hid hec
  have HFc := Lib.hid hfc
  clear a1 a2 q1 h1 h3 z11 z12 z13 z31 z32 z33 c6 hec hfc c1 c2 c3
  obtain ⟨wa, hwa, r1, r2, r3, hB⟩ := rows3_at w n1 n1 n3 d1 d1 d3 e1 e1 e3
  have HW := Lib.hid hwa
  have HB := Lib.hid hB
  have HRa := Lib.hid r1
  have HRb := Lib.hid r2
  have HRc := Lib.hid r3
  have HT := Lib.hid (TabB.below ht hB)
  clear hwa hB r1 r2 r3 ht
  go_enter Tryd.func6, Tryd.ntmps6
  go_upto_region 1 with fail
  rw [← HW.out]
  clear HW
  go_wp2_with fail
  with_reducible refine (awake_any _ HT.out).mono ?_
  rintro e u1 ⟨rfl, hb⟩
  have R2 := Lib.hid ((hb.block _ (lt_of_block HRa.out)).trans HRa.out)
  have R3 := Lib.hid ((hb.block _ (lt_of_block HRb.out)).trans HRb.out)
  have R4 := Lib.hid ((hb.block _ (lt_of_block HRc.out)).trans HRc.out)
  have X5 := Lib.hid (TabB.below HT.out hb)
  have B6 := Lib.hid (HB.out.trans (hb.mono HB.out.size))
  clear hb HRa HRb HRc HT HB
  obtain ⟨⟨c7, c8, c9⟩, _⟩ := row3 R2.out
  go_wp2_with fail
  clear c7 c8 c9
  with_reducible refine (HS1.out _).mono ?_
  rintro e u10 ⟨rfl, hb⟩
  have R11 := Lib.hid ((hb.block _ (lt_of_block R2.out)).trans R2.out)
  have R12 := Lib.hid ((hb.block _ (lt_of_block R3.out)).trans R3.out)
  have R13 := Lib.hid ((hb.block _ (lt_of_block R4.out)).trans R4.out)
  have X14 := Lib.hid (TabB.below X5.out hb)
  have B15 := Lib.hid (B6.out.trans (hb.mono B6.out.size))
  clear hb R2 R3 R4 X5 B6
  obtain ⟨⟨c16, c17, c18⟩, _⟩ := row3 R12.out
  go_wp2_with fail
  clear c16 c17 c18
  with_reducible refine (HS2.out _).mono ?_
  rintro e u19 ⟨rfl, hb⟩
  have R20 := Lib.hid ((hb.block _ (lt_of_block R11.out)).trans R11.out)
  have R21 := Lib.hid ((hb.block _ (lt_of_block R12.out)).trans R12.out)
  have R22 := Lib.hid ((hb.block _ (lt_of_block R13.out)).trans R13.out)
  have X23 := Lib.hid (TabB.below X14.out hb)
  have B24 := Lib.hid (B15.out.trans (hb.mono B15.out.size))
  clear hb R11 R12 R13 X14 B15
  obtain ⟨⟨c25, c26, c27⟩, _⟩ := row3 R22.out
  go_wp2_with fail
  clear c25 c26 c27
  with_reducible refine (HS3.out _).mono ?_
  rintro e u28 ⟨rfl, hb⟩
  have R29 := Lib.hid ((hb.block _ (lt_of_block R20.out)).trans R20.out)
  have R30 := Lib.hid ((hb.block _ (lt_of_block R21.out)).trans R21.out)
  have R31 := Lib.hid ((hb.block _ (lt_of_block R22.out)).trans R22.out)
  have X32 := Lib.hid (TabB.below X23.out hb)
  have B33 := Lib.hid (B24.out.trans (hb.mono B24.out.size))
  clear hb R20 R21 R22 X23 B24
  obtain ⟨⟨c34, c35, c36⟩, _⟩ := row3 R29.out
  obtain ⟨⟨c37, c38, c39⟩, _⟩ := row3 R30.out
  go_wp2_with fail
  clear c34 c35 c36 c37 c38 c39
  with_reducible refine (HC1.out _).mono ?_
  rintro e u40 ⟨rfl, hb⟩
  have R41 := Lib.hid ((hb.block _ (lt_of_block R29.out)).trans R29.out)
  have R42 := Lib.hid ((hb.block _ (lt_of_block R30.out)).trans R30.out)
  have R43 := Lib.hid ((hb.block _ (lt_of_block R31.out)).trans R31.out)
  have X44 := Lib.hid (TabB.below X32.out hb)
  have B45 := Lib.hid (B33.out.trans (hb.mono B33.out.size))
  clear hb R29 R30 R31 X32 B33
  obtain ⟨⟨c46, c47, c48⟩, _⟩ := row3 R41.out
  obtain ⟨⟨c49, c50, c51⟩, _⟩ := row3 R43.out
  go_wp2_with fail
  clear c46 c47 c48 c49 c50 c51
  with_reducible refine (HA1.out _).mono ?_
  rintro e u52 ⟨rfl, hb⟩
  have R53 := Lib.hid ((hb.block _ (lt_of_block R41.out)).trans R41.out)
  have R54 := Lib.hid ((hb.block _ (lt_of_block R42.out)).trans R42.out)
  have R55 := Lib.hid ((hb.block _ (lt_of_block R43.out)).trans R43.out)
  have X56 := Lib.hid (TabB.below X44.out hb)
  have B57 := Lib.hid (B45.out.trans (hb.mono B45.out.size))
  clear hb R41 R42 R43 X44 B45
  unfold pairV
  obtain ⟨u58, hwv, hr, hb⟩ := boxed3 u52 (.bool xn) (.string xd) (.int .i64 xe)
  have R59 := Lib.hid ((hb.block _ (lt_of_block R53.out)).trans R53.out)
  have R60 := Lib.hid ((hb.block _ (lt_of_block R54.out)).trans R54.out)
  have R61 := Lib.hid ((hb.block _ (lt_of_block R55.out)).trans R55.out)
  have X62 := Lib.hid (TabB.below X56.out hb)
  have B63 := Lib.hid (B57.out.trans (hb.mono B57.out.size))
  have R64 := Lib.hid hr
  have HYW := Lib.hid hwv
  clear hb hr hwv R53 R54 R55 X56 B57
  go_upto_region 6 with fail
  rw [← HYW.out]
  clear HYW
  obtain ⟨⟨c65, c66, c67⟩, _⟩ := row3 R60.out
  obtain ⟨⟨c68, c69, c70⟩, _⟩ := row3 R61.out
  go_wp2_with fail
  clear c65 c66 c67 c68 c69 c70
  with_reducible refine (HA2.out _).mono ?_
  rintro e u71 ⟨rfl, hb⟩
  have R72 := Lib.hid ((hb.block _ (lt_of_block R59.out)).trans R59.out)
  have R73 := Lib.hid ((hb.block _ (lt_of_block R60.out)).trans R60.out)
  have R74 := Lib.hid ((hb.block _ (lt_of_block R61.out)).trans R61.out)
  have R75 := Lib.hid ((hb.block _ (lt_of_block R64.out)).trans R64.out)
  have X76 := Lib.hid (TabB.below X62.out hb)
  have B77 := Lib.hid (B63.out.trans (hb.mono B63.out.size))
  clear hb R59 R60 R61 R64 X62 B63
  unfold pairV
  obtain ⟨u78, hwv, hr, hb⟩ := boxed3 u71 (.bool yn) (.string yd) (.int .i64 ye)
  have R79 := Lib.hid ((hb.block _ (lt_of_block R72.out)).trans R72.out)
  have R80 := Lib.hid ((hb.block _ (lt_of_block R73.out)).trans R73.out)
  have R81 := Lib.hid ((hb.block _ (lt_of_block R74.out)).trans R74.out)
  have R82 := Lib.hid ((hb.block _ (lt_of_block R75.out)).trans R75.out)
  have X83 := Lib.hid (TabB.below X76.out hb)
  have B84 := Lib.hid (B77.out.trans (hb.mono B77.out.size))
  have R85 := Lib.hid hr
  have HYW := Lib.hid hwv
  clear hb hr hwv R72 R73 R74 R75 X76 B77
  go_upto_region 7 with fail
  rw [← HYW.out]
  clear HYW
  have wz : IntKind.i64.wrap 0 = 0 := by rw [IntKind.wrap_i64]; decide
  have hbd : Below u78.heap.size u78 u78.drew := (Below.refl _ _).drew
  have R86 := Lib.hid ((hbd.block _ (lt_of_block R79.out)).trans R79.out)
  have R87 := Lib.hid ((hbd.block _ (lt_of_block R80.out)).trans R80.out)
  have R88 := Lib.hid ((hbd.block _ (lt_of_block R81.out)).trans R81.out)
  have R89 := Lib.hid ((hbd.block _ (lt_of_block R82.out)).trans R82.out)
  have R90 := Lib.hid ((hbd.block _ (lt_of_block R85.out)).trans R85.out)
  have X91 := Lib.hid (TabB.below X83.out hbd)
  have B92 := Lib.hid (B84.out.trans (hbd.mono B84.out.size))
  clear hbd R79 R80 R81 R82 R85 X83 B84
  have hT0 : (fun W : World => Below u78.drew.heap.size u78.drew W) u78.drew := Below.refl _ _
  refine wp_region_held_drew (S := (fun W : World => Below u78.drew.heap.size u78.drew W)) (by kernel_rfl) hT0 (fun hHeld => ?_)
  clear hHeld
  generalize u78.drew = wd at B92 R86 R87 R88 R89 R90 X91 hT0 ⊢
  refine wpAnyH_take (i := 0) (oi := { dst := some 43, op := Op.move (Operand.tmp 8), type := 3, pos := "law.go:103", after := #[], guard := none }) (v := ?_) rfl (by kernel_rfl) (by kernel_rfl) (by kernel_rfl) (fun _ _ _ h => h) (Or.inl ⟨by rfl, ?_⟩) (by assumption) ?_
  rotate_left
  · intro w hSw
    try dsimp only at hSw
    go_simp
    try with_reducible rfl
  try simp only [Act.put, List.setIfInBounds_toArray, List.set_cons_zero, List.set_cons_succ]
  refine wpAnyH_take (i := 1) (oi := { dst := some 44, op := Op.load 23 (Operand.tmp 4), type := 23, pos := "law.go:103", after := #[], guard := none }) (v := ?_) rfl (by kernel_rfl) (by kernel_rfl) (by kernel_rfl) (fun _ _ _ h => h) (Or.inl ⟨by rfl, ?_⟩) (by assumption) ?_
  rotate_left
  · intro w hSw
    try dsimp only at hSw
    obtain ⟨⟨c0, c1, c2⟩, _⟩ := row3 ((hSw.block _ (lt_of_block R87.out)).trans R87.out)
    go_simp
    try with_reducible rfl
  try simp only [Act.put, List.setIfInBounds_toArray, List.set_cons_zero, List.set_cons_succ]
  refine wpAnyH_take (i := 2) (oi := { dst := some 45, op := Op.load 23 (Operand.tmp 3), type := 23, pos := "law.go:103", after := #[], guard := none }) (v := ?_) rfl (by kernel_rfl) (by kernel_rfl) (by kernel_rfl) (fun _ _ _ h => h) (Or.inl ⟨by rfl, ?_⟩) (by assumption) ?_
  rotate_left
  · intro w hSw
    try dsimp only at hSw
    obtain ⟨⟨c0, c1, c2⟩, _⟩ := row3 ((hSw.block _ (lt_of_block R86.out)).trans R86.out)
    go_simp
    try with_reducible rfl
  try simp only [Act.put, List.setIfInBounds_toArray, List.set_cons_zero, List.set_cons_succ]
  refine wpAnyH_ready (rs := [3]) (by kernel_rfl) (by simp) ?_
  refine AllReadyH.cons (o := { dst := some 46, op := Op.call { callee := Callee.value (Operand.func 15), args := #[Operand.tmp 44, Operand.tmp 45], argTypes := #[23, 23] }, type := 3, pos := "law.go:103", after := #[{ on := 1, ground := Ground.data }, { on := 2, ground := Ground.data }], guard := none }) rfl (fun K hK => ?_) AllReadyH.nil
  go_simp
  with_reducible refine (HC2.out _).mono ?_
  rintro e wq1 ⟨rfl, hb⟩
  have hT1 : (fun W : World => Below wd.heap.size wd W) wq1 := hT0.trans (hb.mono hT0.size)
  refine hK.out _ _ hT1 (fun _ => ?_)
  clear hK K hb
  try simp only [Act.put, List.setIfInBounds_toArray, List.set_cons_zero, List.set_cons_succ]
  refine wpAnyH_take (i := 4) (oi := { dst := some 47, op := Op.unOp UnOp.neg 3 (Operand.tmp 46), type := 3, pos := "law.go:103", after := #[{ on := 3, ground := Ground.data }], guard := none }) (v := ?_) rfl (by kernel_rfl) (by kernel_rfl) (by kernel_rfl) (fun _ _ _ h => h) (Or.inl ⟨by rfl, ?_⟩) (by assumption) ?_
  rotate_left
  · intro w hSw
    try dsimp only at hSw
    go_simp
    try with_reducible rfl
  try simp only [Act.put, List.setIfInBounds_toArray, List.set_cons_zero, List.set_cons_succ]
  refine wpAnyH_take (i := 5) (oi := { dst := some 48, op := Op.binOp BinOp.neq 3 (Operand.tmp 43) (Operand.tmp 47) 3, type := 4, pos := "law.go:103", after := #[{ on := 0, ground := Ground.data }, { on := 4, ground := Ground.data }], guard := none }) (v := ?_) rfl (by kernel_rfl) (by kernel_rfl) (by kernel_rfl) (fun _ _ _ h => h) (Or.inl ⟨by rfl, ?_⟩) (by assumption) ?_
  rotate_left
  · intro w hSw
    try dsimp only at hSw
    go_simp
    try with_reducible rfl
  try simp only [Act.put, List.setIfInBounds_toArray, List.set_cons_zero, List.set_cons_succ]
  refine wpAnyH_take (i := 6) (oi := { dst := some 49, op := Op.move (Operand.tmp 48), type := 4, pos := "law.go:103", after := #[{ on := 5, ground := Ground.data }, { on := 3, ground := Ground.chain }], guard := none }) (v := ?_) rfl (by kernel_rfl) (by kernel_rfl) (by kernel_rfl) (fun _ _ _ h => h) (Or.inl ⟨by rfl, ?_⟩) (by assumption) ?_
  rotate_left
  · intro w hSw
    try dsimp only at hSw
    go_simp
    try with_reducible rfl
  try simp only [Act.put, List.setIfInBounds_toArray, List.set_cons_zero, List.set_cons_succ]
  refine wpAnyH_take (i := 7) (oi := { dst := some 50, op := Op.move (Operand.tmp 8), type := 3, pos := "law.go:103", after := #[{ on := 6, ground := Ground.guard }], guard := some (6, false) }) (v := ?_) rfl (by kernel_rfl) (by kernel_rfl) (by kernel_rfl) (fun _ _ _ h => h) (Or.inl ⟨by rfl, ?_⟩) (by assumption) ?_
  rotate_left
  · intro w hSw
    try dsimp only at hSw
    go_simp
    try with_reducible rfl
  try simp only [Act.put, List.setIfInBounds_toArray, List.set_cons_zero, List.set_cons_succ]
  refine wpAnyH_take (i := 8) (oi := { dst := some 51, op := Op.binOp BinOp.eql 3 (Operand.tmp 50) (Operand.const (Value.int IntKind.i64 0)) 3, type := 4, pos := "law.go:103", after := #[{ on := 7, ground := Ground.data }, { on := 6, ground := Ground.guard }], guard := some (6, false) }) (v := ?_) rfl (by kernel_rfl) (by kernel_rfl) (by kernel_rfl) (fun _ _ _ h => h) (Or.inl ⟨by rfl, ?_⟩) (by assumption) ?_
  rotate_left
  · intro w hSw
    try dsimp only at hSw
    go_simp
    try with_reducible rfl
  try simp only [Act.put, List.setIfInBounds_toArray, List.set_cons_zero, List.set_cons_succ]
  refine wpAnyH_take (i := 9) (oi := { dst := some 52, op := Op.load 23 (Operand.tmp 3), type := 23, pos := "law.go:103", after := #[{ on := 6, ground := Ground.guard }], guard := some (6, false) }) (v := ?_) rfl (by kernel_rfl) (by kernel_rfl) (by kernel_rfl) (fun _ _ _ h => h) (Or.inl ⟨by rfl, ?_⟩) (by assumption) ?_
  rotate_left
  · intro w hSw
    try dsimp only at hSw
    obtain ⟨⟨c0, c1, c2⟩, _⟩ := row3 ((hSw.block _ (lt_of_block R86.out)).trans R86.out)
    go_simp
    try with_reducible rfl
  try simp only [Act.put, List.setIfInBounds_toArray, List.set_cons_zero, List.set_cons_succ]
  refine wpAnyH_take (i := 10) (oi := { dst := some 53, op := Op.load 23 (Operand.tmp 4), type := 23, pos := "law.go:103", after := #[{ on := 6, ground := Ground.guard }], guard := some (6, false) }) (v := ?_) rfl (by kernel_rfl) (by kernel_rfl) (by kernel_rfl) (fun _ _ _ h => h) (Or.inl ⟨by rfl, ?_⟩) (by assumption) ?_
  rotate_left
  · intro w hSw
    try dsimp only at hSw
    obtain ⟨⟨c0, c1, c2⟩, _⟩ := row3 ((hSw.block _ (lt_of_block R87.out)).trans R87.out)
    go_simp
    try with_reducible rfl
  try simp only [Act.put, List.setIfInBounds_toArray, List.set_cons_zero, List.set_cons_succ]
  refine wpAnyH_take (i := 11) (oi := { dst := some 54, op := Op.binOp BinOp.eql 23 (Operand.tmp 52) (Operand.tmp 53) 23, type := 4, pos := "law.go:103", after := #[{ on := 9, ground := Ground.data }, { on := 10, ground := Ground.data }, { on := 6, ground := Ground.guard }], guard := some (6, false) }) (v := ?_) rfl (by kernel_rfl) (by kernel_rfl) (by kernel_rfl) (fun _ _ _ h => h) (Or.inl ⟨by rfl, ?_⟩) (by assumption) ?_
  rotate_left
  · intro w hSw
    try dsimp only at hSw
    go_simp
    try with_reducible rfl
  try simp only [Act.put, List.setIfInBounds_toArray, List.set_cons_zero, List.set_cons_succ]
  refine wpAnyH_take (i := 12) (oi := { dst := some 55, op := Op.binOp BinOp.neq 4 (Operand.tmp 51) (Operand.tmp 54) 4, type := 4, pos := "law.go:103", after := #[{ on := 8, ground := Ground.data }, { on := 11, ground := Ground.data }, { on := 6, ground := Ground.guard }], guard := some (6, false) }) (v := ?_) rfl (by kernel_rfl) (by kernel_rfl) (by kernel_rfl) (fun _ _ _ h => h) (Or.inl ⟨by rfl, ?_⟩) (by assumption) ?_
  rotate_left
  · intro w hSw
    try dsimp only at hSw
    go_simp
    try with_reducible rfl
  try simp only [Act.put, List.setIfInBounds_toArray, List.set_cons_zero, List.set_cons_succ]
  refine wpAnyH_take (i := 13) (oi := { dst := some 56, op := Op.pick (Operand.tmp 49) (Operand.const (Value.bool true)) (Operand.tmp 55), type := 4, pos := "law.go:103", after := #[{ on := 6, ground := Ground.data }, { on := 12, ground := Ground.data }], guard := none }) (v := ?_) rfl (by kernel_rfl) (by kernel_rfl) (by kernel_rfl) (fun _ _ _ h => h) (Or.inl ⟨by rfl, ?_⟩) (by assumption) ?_
  rotate_left
  · intro w hSw
    try dsimp only at hSw
    go_simp
    try with_reducible rfl
  try simp only [Act.put, List.setIfInBounds_toArray, List.set_cons_zero, List.set_cons_succ]
  refine wpAnyH_take (i := 14) (oi := { dst := some 57, op := Op.move (Operand.tmp 56), type := 4, pos := "law.go:103", after := #[{ on := 13, ground := Ground.data }, { on := 6, ground := Ground.chain }], guard := none }) (v := ?_) rfl (by kernel_rfl) (by kernel_rfl) (by kernel_rfl) (fun _ _ _ h => h) (Or.inl ⟨by rfl, ?_⟩) (by assumption) ?_
  rotate_left
  · intro w hSw
    try dsimp only at hSw
    go_simp
    try with_reducible rfl
  try simp only [Act.put, List.setIfInBounds_toArray, List.set_cons_zero, List.set_cons_succ]
  refine wpAnyH_take (i := 15) (oi := { dst := some 58, op := Op.load 23 (Operand.tmp 3), type := 23, pos := "law.go:103", after := #[{ on := 14, ground := Ground.guard }], guard := some (14, false) }) (v := ?_) rfl (by kernel_rfl) (by kernel_rfl) (by kernel_rfl) (fun _ _ _ h => h) (Or.inl ⟨by rfl, ?_⟩) (by assumption) ?_
  rotate_left
  · intro w hSw
    try dsimp only at hSw
    obtain ⟨⟨c0, c1, c2⟩, _⟩ := row3 ((hSw.block _ (lt_of_block R86.out)).trans R86.out)
    go_simp
    try with_reducible rfl
  try simp only [Act.put, List.setIfInBounds_toArray, List.set_cons_zero, List.set_cons_succ]
  refine wpAnyH_take (i := 17) (oi := { dst := some 60, op := Op.load 23 (Operand.tmp 4), type := 23, pos := "law.go:103", after := #[{ on := 14, ground := Ground.guard }], guard := some (14, false) }) (v := ?_) rfl (by kernel_rfl) (by kernel_rfl) (by kernel_rfl) (fun _ _ _ h => h) (Or.inl ⟨by rfl, ?_⟩) (by assumption) ?_
  rotate_left
  · intro w hSw
    try dsimp only at hSw
    obtain ⟨⟨c0, c1, c2⟩, _⟩ := row3 ((hSw.block _ (lt_of_block R87.out)).trans R87.out)
    go_simp
    try with_reducible rfl
  try simp only [Act.put, List.setIfInBounds_toArray, List.set_cons_zero, List.set_cons_succ]
  refine wpAnyH_take (i := 20) (oi := { dst := some 63, op := Op.move (Operand.tmp 8), type := 3, pos := "law.go:103", after := #[{ on := 14, ground := Ground.guard }], guard := some (14, false) }) (v := ?_) rfl (by kernel_rfl) (by kernel_rfl) (by kernel_rfl) (fun _ _ _ h => h) (Or.inl ⟨by rfl, ?_⟩) (by assumption) ?_
  rotate_left
  · intro w hSw
    try dsimp only at hSw
    go_simp
    try with_reducible rfl
  try simp only [Act.put, List.setIfInBounds_toArray, List.set_cons_zero, List.set_cons_succ]
  refine wpAnyH_take (i := 21) (oi := { dst := some 64, op := Op.unOp UnOp.neg 3 (Operand.tmp 63), type := 3, pos := "law.go:103", after := #[{ on := 20, ground := Ground.data }, { on := 14, ground := Ground.guard }], guard := some (14, false) }) (v := ?_) rfl (by kernel_rfl) (by kernel_rfl) (by kernel_rfl) (fun _ _ _ h => h) (Or.inl ⟨by rfl, ?_⟩) (by assumption) ?_
  rotate_left
  · intro w hSw
    try dsimp only at hSw
    go_simp
    try with_reducible rfl
  try simp only [Act.put, List.setIfInBounds_toArray, List.set_cons_zero, List.set_cons_succ]
  refine wpAnyH_ready (rs := [16]) (by kernel_rfl) (by simp) ?_
  refine AllReadyH.cons (o := { dst := some 59, op := Op.call { callee := Callee.value (Operand.func 20), args := #[Operand.tmp 58], argTypes := #[23] }, type := 23, pos := "law.go:103", after := #[{ on := 15, ground := Ground.data }, { on := 14, ground := Ground.chain }, { on := 14, ground := Ground.guard }], guard := some (14, false) }) rfl (fun K hK => ?_) AllReadyH.nil
  go_simp
  with_reducible refine (HN1.out _).mono ?_
  rintro e wq2 ⟨rfl, hb⟩
  have hT2 : (fun W : World => Below wd.heap.size wd W) wq2 := hT1.trans (hb.mono hT1.size)
  refine hK.out _ _ hT2 (fun _ => ?_)
  clear hK K hb
  try simp only [Act.put, List.setIfInBounds_toArray, List.set_cons_zero, List.set_cons_succ]
  refine wpAnyH_ready (rs := [18]) (by kernel_rfl) (by simp) ?_
  refine AllReadyH.cons (o := { dst := some 61, op := Op.call { callee := Callee.value (Operand.func 20), args := #[Operand.tmp 60], argTypes := #[23] }, type := 23, pos := "law.go:103", after := #[{ on := 17, ground := Ground.data }, { on := 16, ground := Ground.chain }, { on := 14, ground := Ground.guard }], guard := some (14, false) }) rfl (fun K hK => ?_) AllReadyH.nil
  go_simp
  with_reducible refine (HN2.out _).mono ?_
  rintro e wq3 ⟨rfl, hb⟩
  have hT3 : (fun W : World => Below wd.heap.size wd W) wq3 := hT2.trans (hb.mono hT2.size)
  refine hK.out _ _ hT3 (fun _ => ?_)
  clear hK K hb
  try simp only [Act.put, List.setIfInBounds_toArray, List.set_cons_zero, List.set_cons_succ]
  refine wpAnyH_ready (rs := [19]) (by kernel_rfl) (by simp) ?_
  refine AllReadyH.cons (o := { dst := some 62, op := Op.call { callee := Callee.value (Operand.func 15), args := #[Operand.tmp 59, Operand.tmp 61], argTypes := #[23, 23] }, type := 3, pos := "law.go:103", after := #[{ on := 16, ground := Ground.data }, { on := 18, ground := Ground.data }, { on := 18, ground := Ground.chain }, { on := 14, ground := Ground.guard }], guard := some (14, false) }) rfl (fun K hK => ?_) AllReadyH.nil
  go_simp
  with_reducible refine (HC3.out _).mono ?_
  rintro e wq4 ⟨rfl, hb⟩
  have hT4 : (fun W : World => Below wd.heap.size wd W) wq4 := hT3.trans (hb.mono hT3.size)
  refine hK.out _ _ hT4 (fun _ => ?_)
  clear hK K hb
  try simp only [Act.put, List.setIfInBounds_toArray, List.set_cons_zero, List.set_cons_succ]
  refine wpAnyH_take (i := 22) (oi := { dst := some 65, op := Op.binOp BinOp.neq 3 (Operand.tmp 62) (Operand.tmp 64) 3, type := 4, pos := "law.go:103", after := #[{ on := 19, ground := Ground.data }, { on := 21, ground := Ground.data }, { on := 14, ground := Ground.guard }], guard := some (14, false) }) (v := ?_) rfl (by kernel_rfl) (by kernel_rfl) (by kernel_rfl) (fun _ _ _ h => h) (Or.inl ⟨by rfl, ?_⟩) (by assumption) ?_
  rotate_left
  · intro w hSw
    try dsimp only at hSw
    go_simp
    try with_reducible rfl
  try simp only [Act.put, List.setIfInBounds_toArray, List.set_cons_zero, List.set_cons_succ]
  refine wpAnyH_take (i := 23) (oi := { dst := some 66, op := Op.pick (Operand.tmp 57) (Operand.const (Value.bool true)) (Operand.tmp 65), type := 4, pos := "law.go:103", after := #[{ on := 14, ground := Ground.data }, { on := 22, ground := Ground.data }], guard := none }) (v := ?_) rfl (by kernel_rfl) (by kernel_rfl) (by kernel_rfl) (fun _ _ _ h => h) (Or.inl ⟨by rfl, ?_⟩) (by assumption) ?_
  rotate_left
  · intro w hSw
    try dsimp only at hSw
    go_simp
    try with_reducible rfl
  try simp only [Act.put, List.setIfInBounds_toArray, List.set_cons_zero, List.set_cons_succ]
  refine wpAnyH_done (by kernel_rfl) ?_ _
  have R93 := Lib.hid ((hT4.block _ (lt_of_block R86.out)).trans R86.out)
  have R94 := Lib.hid ((hT4.block _ (lt_of_block R87.out)).trans R87.out)
  have R95 := Lib.hid ((hT4.block _ (lt_of_block R88.out)).trans R88.out)
  have R96 := Lib.hid ((hT4.block _ (lt_of_block R89.out)).trans R89.out)
  have R97 := Lib.hid ((hT4.block _ (lt_of_block R90.out)).trans R90.out)
  have X98 := Lib.hid (TabB.below X91.out hT4)
  have B99 := Lib.hid (B92.out.trans (hT4.mono B92.out.size))
  clear hT0 hT1 hT2 hT3 hT4 R86 R87 R88 R89 R90 X91 B92
  rcases HEc.out with rfl | rfl
  · rcases HFc.out with rfl | rfl
    · obtain ⟨⟨c100, c101, c102⟩, _⟩ := row3 R96.out
      obtain ⟨⟨c103, c104, c105⟩, _⟩ := row3 R97.out
      go_wp2_with fail
      clear c100 c101 c102 c103 c104 c105
      with_reducible refine (HC6.out (by trivial) (by trivial) _).mono ?_
      rintro e u106 ⟨rfl, hb⟩
      have R107 := Lib.hid ((hb.block _ (lt_of_block R93.out)).trans R93.out)
      have R108 := Lib.hid ((hb.block _ (lt_of_block R94.out)).trans R94.out)
      have R109 := Lib.hid ((hb.block _ (lt_of_block R95.out)).trans R95.out)
      have R110 := Lib.hid ((hb.block _ (lt_of_block R96.out)).trans R96.out)
      have R111 := Lib.hid ((hb.block _ (lt_of_block R97.out)).trans R97.out)
      have X112 := Lib.hid (TabB.below X98.out hb)
      have B113 := Lib.hid (B99.out.trans (hb.mono B99.out.size))
      clear hb R93 R94 R95 R96 R97 X98 B99
      go_wp2_with fail
      go_ret
      exact ⟨rfl, B113.out⟩
    · go_wp2_with fail
      go_ret
      exact ⟨rfl, B99.out⟩
  · go_wp2_with fail
    go_ret
    exact ⟨rfl, B99.out⟩
set_option maxRecDepth 100000 in
set_option maxHeartbeats 4000000 in
theorem order_gt (w : World) (n1 n2 n3 : Bool) (d1 d2 d3 : ByteArray) (e1 e2 e3 : Int) (h1 : dsane n1 (unstr d1) e1 = true) (h2 : dsane n2 (unstr d2) e2 = true) (h3 : dsane n3 (unstr d3) e3 = true) (c1 : ∀ v, Calls Tryd.prog 15 #[.agg #[.bool n1, .string d1, .int .i64 e1], .agg #[.bool n2, .string d2, .int .i64 e2]] v fun e w' => e = .returned (.int .i64 1) ∧ Below v.heap.size v w') (c2 : ∀ v, Calls Tryd.prog 15 #[.agg #[.bool n2, .string d2, .int .i64 e2], .agg #[.bool n1, .string d1, .int .i64 e1]] v fun e w' => e = .returned (.int .i64 (-1)) ∧ Below v.heap.size v w') (m1 m2 : Bool) (q1 : ngd n1 d1 e1 = m1) (q2 : ngd n2 d2 e2 = m2) (c3 : ∀ v, Calls Tryd.prog 15 #[.agg #[.bool m1, .string d1, .int .i64 e1], .agg #[.bool m2, .string d2, .int .i64 e2]] v fun e w' => e = .returned (.int .i64 (-1)) ∧ Below v.heap.size v w') (hne : ¬ (n1 = n2 ∧ d1 = d2 ∧ e1 = e2)) (xn yn : Bool) (xd yd : ByteArray) (xe ye ec fc : Int) (a1 : addP ⟨n1, d1, e1⟩ ⟨n3, d3, e3⟩ = (⟨xn, xd, xe⟩, ec)) (a2 : addP ⟨n2, d2, e2⟩ ⟨n3, d3, e3⟩ = (⟨yn, yd, ye⟩, fc)) (hec : ec = 0 ∨ ec = 4) (hfc : fc = 0 ∨ fc = 4) (c6 : ec = 0 → fc = 0 → ∀ v, Calls Tryd.prog 15 #[.agg #[.bool xn, .string xd, .int .i64 xe], .agg #[.bool yn, .string yd, .int .i64 ye]] v fun e w' => e = .returned (.int .i64 1) ∧ Below v.heap.size v w') (ht : TabB w) :
    Calls Tryd.prog 6 #[.agg #[.bool n1, .string d1, .int .i64 e1], .agg #[.bool n2, .string d2, .int .i64 e2], .agg #[.bool n3, .string d3, .int .i64 e3]] w fun e w' => e = .returned (.bool true) ∧ Below w.heap.size w w' := by
  have HS1 := Lib.hid (fun v => Sane_all v n1 d1 e1)
  have HS2 := Lib.hid (fun v => Sane_all v n2 d2 e2)
  have HS3 := Lib.hid (fun v => Sane_all v n3 d3 e3)
  obtain ⟨z11, z12, z13⟩ := dsane_any h1
  obtain ⟨z21, z22, z23⟩ := dsane_any h2
  obtain ⟨z31, z32, z33⟩ := dsane_any h3
  have HA1 := Lib.hid (fun v => Add_pair v n1 d1 e1 n3 d3 e3 (by omega) (by omega))
  have HA2 := Lib.hid (fun v => Add_pair v n2 d2 e2 n3 d3 e3 (by omega) (by omega))
  rw [a1] at HA1
  rw [a2] at HA2
  have HN1 := Lib.hid (fun v => Neg_any v n1 d1 e1 (by omega))
  have HN2 := Lib.hid (fun v => Neg_any v n2 d2 e2 (by omega))
  rw [q1] at HN1
  rw [q2] at HN2
  rw [h1] at HS1
  rw [h2] at HS2
  rw [h3] at HS3
  have HC1 := Lib.hid c1
  have HC2 := Lib.hid c2
  have HC3 := Lib.hid c3
  have HC6 := Lib.hid c6
  have HEc := Lib.hid hec
  have HFc := Lib.hid hfc
  have HNe := Lib.hid hne
  clear a1 a2 q1 q2 h2 z21 z22 z23 hne h1 h3 z11 z12 z13 z31 z32 z33 c6 hec hfc c1 c2 c3
  obtain ⟨wa, hwa, r1, r2, r3, hB⟩ := rows3_at w n1 n2 n3 d1 d2 d3 e1 e2 e3
  have HW := Lib.hid hwa
  have HB := Lib.hid hB
  have HRa := Lib.hid r1
  have HRb := Lib.hid r2
  have HRc := Lib.hid r3
  have HT := Lib.hid (TabB.below ht hB)
  clear hwa hB r1 r2 r3 ht
  go_enter Tryd.func6, Tryd.ntmps6
  go_upto_region 1 with fail
  rw [← HW.out]
  clear HW
  go_wp2_with fail
  with_reducible refine (awake_any _ HT.out).mono ?_
  rintro e u1 ⟨rfl, hb⟩
  have R2 := Lib.hid ((hb.block _ (lt_of_block HRa.out)).trans HRa.out)
  have R3 := Lib.hid ((hb.block _ (lt_of_block HRb.out)).trans HRb.out)
  have R4 := Lib.hid ((hb.block _ (lt_of_block HRc.out)).trans HRc.out)
  have X5 := Lib.hid (TabB.below HT.out hb)
  have B6 := Lib.hid (HB.out.trans (hb.mono HB.out.size))
  clear hb HRa HRb HRc HT HB
  obtain ⟨⟨c7, c8, c9⟩, _⟩ := row3 R2.out
  go_wp2_with fail
  clear c7 c8 c9
  with_reducible refine (HS1.out _).mono ?_
  rintro e u10 ⟨rfl, hb⟩
  have R11 := Lib.hid ((hb.block _ (lt_of_block R2.out)).trans R2.out)
  have R12 := Lib.hid ((hb.block _ (lt_of_block R3.out)).trans R3.out)
  have R13 := Lib.hid ((hb.block _ (lt_of_block R4.out)).trans R4.out)
  have X14 := Lib.hid (TabB.below X5.out hb)
  have B15 := Lib.hid (B6.out.trans (hb.mono B6.out.size))
  clear hb R2 R3 R4 X5 B6
  obtain ⟨⟨c16, c17, c18⟩, _⟩ := row3 R12.out
  go_wp2_with fail
  clear c16 c17 c18
  with_reducible refine (HS2.out _).mono ?_
  rintro e u19 ⟨rfl, hb⟩
  have R20 := Lib.hid ((hb.block _ (lt_of_block R11.out)).trans R11.out)
  have R21 := Lib.hid ((hb.block _ (lt_of_block R12.out)).trans R12.out)
  have R22 := Lib.hid ((hb.block _ (lt_of_block R13.out)).trans R13.out)
  have X23 := Lib.hid (TabB.below X14.out hb)
  have B24 := Lib.hid (B15.out.trans (hb.mono B15.out.size))
  clear hb R11 R12 R13 X14 B15
  obtain ⟨⟨c25, c26, c27⟩, _⟩ := row3 R22.out
  go_wp2_with fail
  clear c25 c26 c27
  with_reducible refine (HS3.out _).mono ?_
  rintro e u28 ⟨rfl, hb⟩
  have R29 := Lib.hid ((hb.block _ (lt_of_block R20.out)).trans R20.out)
  have R30 := Lib.hid ((hb.block _ (lt_of_block R21.out)).trans R21.out)
  have R31 := Lib.hid ((hb.block _ (lt_of_block R22.out)).trans R22.out)
  have X32 := Lib.hid (TabB.below X23.out hb)
  have B33 := Lib.hid (B24.out.trans (hb.mono B24.out.size))
  clear hb R20 R21 R22 X23 B24
  obtain ⟨⟨c34, c35, c36⟩, _⟩ := row3 R29.out
  obtain ⟨⟨c37, c38, c39⟩, _⟩ := row3 R30.out
  go_wp2_with fail
  clear c34 c35 c36 c37 c38 c39
  with_reducible refine (HC1.out _).mono ?_
  rintro e u40 ⟨rfl, hb⟩
  have R41 := Lib.hid ((hb.block _ (lt_of_block R29.out)).trans R29.out)
  have R42 := Lib.hid ((hb.block _ (lt_of_block R30.out)).trans R30.out)
  have R43 := Lib.hid ((hb.block _ (lt_of_block R31.out)).trans R31.out)
  have X44 := Lib.hid (TabB.below X32.out hb)
  have B45 := Lib.hid (B33.out.trans (hb.mono B33.out.size))
  clear hb R29 R30 R31 X32 B33
  obtain ⟨⟨c46, c47, c48⟩, _⟩ := row3 R41.out
  obtain ⟨⟨c49, c50, c51⟩, _⟩ := row3 R43.out
  go_wp2_with fail
  clear c46 c47 c48 c49 c50 c51
  with_reducible refine (HA1.out _).mono ?_
  rintro e u52 ⟨rfl, hb⟩
  have R53 := Lib.hid ((hb.block _ (lt_of_block R41.out)).trans R41.out)
  have R54 := Lib.hid ((hb.block _ (lt_of_block R42.out)).trans R42.out)
  have R55 := Lib.hid ((hb.block _ (lt_of_block R43.out)).trans R43.out)
  have X56 := Lib.hid (TabB.below X44.out hb)
  have B57 := Lib.hid (B45.out.trans (hb.mono B45.out.size))
  clear hb R41 R42 R43 X44 B45
  unfold pairV
  obtain ⟨u58, hwv, hr, hb⟩ := boxed3 u52 (.bool xn) (.string xd) (.int .i64 xe)
  have R59 := Lib.hid ((hb.block _ (lt_of_block R53.out)).trans R53.out)
  have R60 := Lib.hid ((hb.block _ (lt_of_block R54.out)).trans R54.out)
  have R61 := Lib.hid ((hb.block _ (lt_of_block R55.out)).trans R55.out)
  have X62 := Lib.hid (TabB.below X56.out hb)
  have B63 := Lib.hid (B57.out.trans (hb.mono B57.out.size))
  have R64 := Lib.hid hr
  have HYW := Lib.hid hwv
  clear hb hr hwv R53 R54 R55 X56 B57
  go_upto_region 6 with fail
  rw [← HYW.out]
  clear HYW
  obtain ⟨⟨c65, c66, c67⟩, _⟩ := row3 R60.out
  obtain ⟨⟨c68, c69, c70⟩, _⟩ := row3 R61.out
  go_wp2_with fail
  clear c65 c66 c67 c68 c69 c70
  with_reducible refine (HA2.out _).mono ?_
  rintro e u71 ⟨rfl, hb⟩
  have R72 := Lib.hid ((hb.block _ (lt_of_block R59.out)).trans R59.out)
  have R73 := Lib.hid ((hb.block _ (lt_of_block R60.out)).trans R60.out)
  have R74 := Lib.hid ((hb.block _ (lt_of_block R61.out)).trans R61.out)
  have R75 := Lib.hid ((hb.block _ (lt_of_block R64.out)).trans R64.out)
  have X76 := Lib.hid (TabB.below X62.out hb)
  have B77 := Lib.hid (B63.out.trans (hb.mono B63.out.size))
  clear hb R59 R60 R61 R64 X62 B63
  unfold pairV
  obtain ⟨u78, hwv, hr, hb⟩ := boxed3 u71 (.bool yn) (.string yd) (.int .i64 ye)
  have R79 := Lib.hid ((hb.block _ (lt_of_block R72.out)).trans R72.out)
  have R80 := Lib.hid ((hb.block _ (lt_of_block R73.out)).trans R73.out)
  have R81 := Lib.hid ((hb.block _ (lt_of_block R74.out)).trans R74.out)
  have R82 := Lib.hid ((hb.block _ (lt_of_block R75.out)).trans R75.out)
  have X83 := Lib.hid (TabB.below X76.out hb)
  have B84 := Lib.hid (B77.out.trans (hb.mono B77.out.size))
  have R85 := Lib.hid hr
  have HYW := Lib.hid hwv
  clear hb hr hwv R72 R73 R74 R75 X76 B77
  go_upto_region 7 with fail
  rw [← HYW.out]
  clear HYW
  have wz : IntKind.i64.wrap 1 = 1 := by rw [IntKind.wrap_i64]; decide
  have wy : IntKind.i64.wrap (-1) = (-1) := by rw [IntKind.wrap_i64]; decide
  have hbd : Below u78.heap.size u78 u78.drew := (Below.refl _ _).drew
  have R86 := Lib.hid ((hbd.block _ (lt_of_block R79.out)).trans R79.out)
  have R87 := Lib.hid ((hbd.block _ (lt_of_block R80.out)).trans R80.out)
  have R88 := Lib.hid ((hbd.block _ (lt_of_block R81.out)).trans R81.out)
  have R89 := Lib.hid ((hbd.block _ (lt_of_block R82.out)).trans R82.out)
  have R90 := Lib.hid ((hbd.block _ (lt_of_block R85.out)).trans R85.out)
  have X91 := Lib.hid (TabB.below X83.out hbd)
  have B92 := Lib.hid (B84.out.trans (hbd.mono B84.out.size))
  clear hbd R79 R80 R81 R82 R85 X83 B84
  have hT0 : (fun W : World => Below u78.drew.heap.size u78.drew W) u78.drew := Below.refl _ _
  refine wp_region_held_drew (S := (fun W : World => Below u78.drew.heap.size u78.drew W)) (by kernel_rfl) hT0 (fun hHeld => ?_)
  clear hHeld
  generalize u78.drew = wd at B92 R86 R87 R88 R89 R90 X91 hT0 ⊢
  refine wpAnyH_take (i := 0) (oi := { dst := some 43, op := Op.move (Operand.tmp 8), type := 3, pos := "law.go:103", after := #[], guard := none }) (v := ?_) rfl (by kernel_rfl) (by kernel_rfl) (by kernel_rfl) (fun _ _ _ h => h) (Or.inl ⟨by rfl, ?_⟩) (by assumption) ?_
  rotate_left
  · intro w hSw
    try dsimp only at hSw
    go_simp
    try with_reducible rfl
  try simp only [Act.put, List.setIfInBounds_toArray, List.set_cons_zero, List.set_cons_succ]
  refine wpAnyH_take (i := 1) (oi := { dst := some 44, op := Op.load 23 (Operand.tmp 4), type := 23, pos := "law.go:103", after := #[], guard := none }) (v := ?_) rfl (by kernel_rfl) (by kernel_rfl) (by kernel_rfl) (fun _ _ _ h => h) (Or.inl ⟨by rfl, ?_⟩) (by assumption) ?_
  rotate_left
  · intro w hSw
    try dsimp only at hSw
    obtain ⟨⟨c0, c1, c2⟩, _⟩ := row3 ((hSw.block _ (lt_of_block R87.out)).trans R87.out)
    go_simp
    try with_reducible rfl
  try simp only [Act.put, List.setIfInBounds_toArray, List.set_cons_zero, List.set_cons_succ]
  refine wpAnyH_take (i := 2) (oi := { dst := some 45, op := Op.load 23 (Operand.tmp 3), type := 23, pos := "law.go:103", after := #[], guard := none }) (v := ?_) rfl (by kernel_rfl) (by kernel_rfl) (by kernel_rfl) (fun _ _ _ h => h) (Or.inl ⟨by rfl, ?_⟩) (by assumption) ?_
  rotate_left
  · intro w hSw
    try dsimp only at hSw
    obtain ⟨⟨c0, c1, c2⟩, _⟩ := row3 ((hSw.block _ (lt_of_block R86.out)).trans R86.out)
    go_simp
    try with_reducible rfl
  try simp only [Act.put, List.setIfInBounds_toArray, List.set_cons_zero, List.set_cons_succ]
  refine wpAnyH_ready (rs := [3]) (by kernel_rfl) (by simp) ?_
  refine AllReadyH.cons (o := { dst := some 46, op := Op.call { callee := Callee.value (Operand.func 15), args := #[Operand.tmp 44, Operand.tmp 45], argTypes := #[23, 23] }, type := 3, pos := "law.go:103", after := #[{ on := 1, ground := Ground.data }, { on := 2, ground := Ground.data }], guard := none }) rfl (fun K hK => ?_) AllReadyH.nil
  go_simp
  with_reducible refine (HC2.out _).mono ?_
  rintro e wq1 ⟨rfl, hb⟩
  have hT1 : (fun W : World => Below wd.heap.size wd W) wq1 := hT0.trans (hb.mono hT0.size)
  refine hK.out _ _ hT1 (fun _ => ?_)
  clear hK K hb
  try simp only [Act.put, List.setIfInBounds_toArray, List.set_cons_zero, List.set_cons_succ]
  refine wpAnyH_take (i := 4) (oi := { dst := some 47, op := Op.unOp UnOp.neg 3 (Operand.tmp 46), type := 3, pos := "law.go:103", after := #[{ on := 3, ground := Ground.data }], guard := none }) (v := ?_) rfl (by kernel_rfl) (by kernel_rfl) (by kernel_rfl) (fun _ _ _ h => h) (Or.inl ⟨by rfl, ?_⟩) (by assumption) ?_
  rotate_left
  · intro w hSw
    try dsimp only at hSw
    go_simp
    try with_reducible rfl
  try simp only [Act.put, List.setIfInBounds_toArray, List.set_cons_zero, List.set_cons_succ]
  refine wpAnyH_take (i := 5) (oi := { dst := some 48, op := Op.binOp BinOp.neq 3 (Operand.tmp 43) (Operand.tmp 47) 3, type := 4, pos := "law.go:103", after := #[{ on := 0, ground := Ground.data }, { on := 4, ground := Ground.data }], guard := none }) (v := ?_) rfl (by kernel_rfl) (by kernel_rfl) (by kernel_rfl) (fun _ _ _ h => h) (Or.inl ⟨by rfl, ?_⟩) (by assumption) ?_
  rotate_left
  · intro w hSw
    try dsimp only at hSw
    go_simp
    try with_reducible rfl
  try simp only [Act.put, List.setIfInBounds_toArray, List.set_cons_zero, List.set_cons_succ]
  refine wpAnyH_take (i := 6) (oi := { dst := some 49, op := Op.move (Operand.tmp 48), type := 4, pos := "law.go:103", after := #[{ on := 5, ground := Ground.data }, { on := 3, ground := Ground.chain }], guard := none }) (v := ?_) rfl (by kernel_rfl) (by kernel_rfl) (by kernel_rfl) (fun _ _ _ h => h) (Or.inl ⟨by rfl, ?_⟩) (by assumption) ?_
  rotate_left
  · intro w hSw
    try dsimp only at hSw
    go_simp
    try with_reducible rfl
  try simp only [Act.put, List.setIfInBounds_toArray, List.set_cons_zero, List.set_cons_succ]
  refine wpAnyH_take (i := 7) (oi := { dst := some 50, op := Op.move (Operand.tmp 8), type := 3, pos := "law.go:103", after := #[{ on := 6, ground := Ground.guard }], guard := some (6, false) }) (v := ?_) rfl (by kernel_rfl) (by kernel_rfl) (by kernel_rfl) (fun _ _ _ h => h) (Or.inl ⟨by rfl, ?_⟩) (by assumption) ?_
  rotate_left
  · intro w hSw
    try dsimp only at hSw
    go_simp
    try with_reducible rfl
  try simp only [Act.put, List.setIfInBounds_toArray, List.set_cons_zero, List.set_cons_succ]
  refine wpAnyH_take (i := 8) (oi := { dst := some 51, op := Op.binOp BinOp.eql 3 (Operand.tmp 50) (Operand.const (Value.int IntKind.i64 0)) 3, type := 4, pos := "law.go:103", after := #[{ on := 7, ground := Ground.data }, { on := 6, ground := Ground.guard }], guard := some (6, false) }) (v := ?_) rfl (by kernel_rfl) (by kernel_rfl) (by kernel_rfl) (fun _ _ _ h => h) (Or.inl ⟨by rfl, ?_⟩) (by assumption) ?_
  rotate_left
  · intro w hSw
    try dsimp only at hSw
    go_simp
    try with_reducible rfl
  try simp only [Act.put, List.setIfInBounds_toArray, List.set_cons_zero, List.set_cons_succ]
  refine wpAnyH_take (i := 9) (oi := { dst := some 52, op := Op.load 23 (Operand.tmp 3), type := 23, pos := "law.go:103", after := #[{ on := 6, ground := Ground.guard }], guard := some (6, false) }) (v := ?_) rfl (by kernel_rfl) (by kernel_rfl) (by kernel_rfl) (fun _ _ _ h => h) (Or.inl ⟨by rfl, ?_⟩) (by assumption) ?_
  rotate_left
  · intro w hSw
    try dsimp only at hSw
    obtain ⟨⟨c0, c1, c2⟩, _⟩ := row3 ((hSw.block _ (lt_of_block R86.out)).trans R86.out)
    go_simp
    try with_reducible rfl
  try simp only [Act.put, List.setIfInBounds_toArray, List.set_cons_zero, List.set_cons_succ]
  refine wpAnyH_take (i := 10) (oi := { dst := some 53, op := Op.load 23 (Operand.tmp 4), type := 23, pos := "law.go:103", after := #[{ on := 6, ground := Ground.guard }], guard := some (6, false) }) (v := ?_) rfl (by kernel_rfl) (by kernel_rfl) (by kernel_rfl) (fun _ _ _ h => h) (Or.inl ⟨by rfl, ?_⟩) (by assumption) ?_
  rotate_left
  · intro w hSw
    try dsimp only at hSw
    obtain ⟨⟨c0, c1, c2⟩, _⟩ := row3 ((hSw.block _ (lt_of_block R87.out)).trans R87.out)
    go_simp
    try with_reducible rfl
  try simp only [Act.put, List.setIfInBounds_toArray, List.set_cons_zero, List.set_cons_succ]
  refine wpAnyH_take (i := 11) (oi := { dst := some 54, op := Op.binOp BinOp.eql 23 (Operand.tmp 52) (Operand.tmp 53) 23, type := 4, pos := "law.go:103", after := #[{ on := 9, ground := Ground.data }, { on := 10, ground := Ground.data }, { on := 6, ground := Ground.guard }], guard := some (6, false) }) (v := .bool false) rfl (by kernel_rfl) (by kernel_rfl) (by kernel_rfl) (fun _ _ _ h => h) (Or.inl ⟨by rfl, ?_⟩) (by assumption) ?_
  · intro w hSw
    try dsimp only at hSw
    go_simp
    exact fun a b c => HNe.out ⟨a, ba_ext b, c⟩
  try simp only [Act.put, List.setIfInBounds_toArray, List.set_cons_zero, List.set_cons_succ]
  refine wpAnyH_take (i := 12) (oi := { dst := some 55, op := Op.binOp BinOp.neq 4 (Operand.tmp 51) (Operand.tmp 54) 4, type := 4, pos := "law.go:103", after := #[{ on := 8, ground := Ground.data }, { on := 11, ground := Ground.data }, { on := 6, ground := Ground.guard }], guard := some (6, false) }) (v := ?_) rfl (by kernel_rfl) (by kernel_rfl) (by kernel_rfl) (fun _ _ _ h => h) (Or.inl ⟨by rfl, ?_⟩) (by assumption) ?_
  rotate_left
  · intro w hSw
    try dsimp only at hSw
    go_simp
    try with_reducible rfl
  try simp only [Act.put, List.setIfInBounds_toArray, List.set_cons_zero, List.set_cons_succ]
  refine wpAnyH_take (i := 13) (oi := { dst := some 56, op := Op.pick (Operand.tmp 49) (Operand.const (Value.bool true)) (Operand.tmp 55), type := 4, pos := "law.go:103", after := #[{ on := 6, ground := Ground.data }, { on := 12, ground := Ground.data }], guard := none }) (v := ?_) rfl (by kernel_rfl) (by kernel_rfl) (by kernel_rfl) (fun _ _ _ h => h) (Or.inl ⟨by rfl, ?_⟩) (by assumption) ?_
  rotate_left
  · intro w hSw
    try dsimp only at hSw
    go_simp
    try with_reducible rfl
  try simp only [Act.put, List.setIfInBounds_toArray, List.set_cons_zero, List.set_cons_succ]
  refine wpAnyH_take (i := 14) (oi := { dst := some 57, op := Op.move (Operand.tmp 56), type := 4, pos := "law.go:103", after := #[{ on := 13, ground := Ground.data }, { on := 6, ground := Ground.chain }], guard := none }) (v := ?_) rfl (by kernel_rfl) (by kernel_rfl) (by kernel_rfl) (fun _ _ _ h => h) (Or.inl ⟨by rfl, ?_⟩) (by assumption) ?_
  rotate_left
  · intro w hSw
    try dsimp only at hSw
    go_simp
    try with_reducible rfl
  try simp only [Act.put, List.setIfInBounds_toArray, List.set_cons_zero, List.set_cons_succ]
  refine wpAnyH_take (i := 15) (oi := { dst := some 58, op := Op.load 23 (Operand.tmp 3), type := 23, pos := "law.go:103", after := #[{ on := 14, ground := Ground.guard }], guard := some (14, false) }) (v := ?_) rfl (by kernel_rfl) (by kernel_rfl) (by kernel_rfl) (fun _ _ _ h => h) (Or.inl ⟨by rfl, ?_⟩) (by assumption) ?_
  rotate_left
  · intro w hSw
    try dsimp only at hSw
    obtain ⟨⟨c0, c1, c2⟩, _⟩ := row3 ((hSw.block _ (lt_of_block R86.out)).trans R86.out)
    go_simp
    try with_reducible rfl
  try simp only [Act.put, List.setIfInBounds_toArray, List.set_cons_zero, List.set_cons_succ]
  refine wpAnyH_take (i := 17) (oi := { dst := some 60, op := Op.load 23 (Operand.tmp 4), type := 23, pos := "law.go:103", after := #[{ on := 14, ground := Ground.guard }], guard := some (14, false) }) (v := ?_) rfl (by kernel_rfl) (by kernel_rfl) (by kernel_rfl) (fun _ _ _ h => h) (Or.inl ⟨by rfl, ?_⟩) (by assumption) ?_
  rotate_left
  · intro w hSw
    try dsimp only at hSw
    obtain ⟨⟨c0, c1, c2⟩, _⟩ := row3 ((hSw.block _ (lt_of_block R87.out)).trans R87.out)
    go_simp
    try with_reducible rfl
  try simp only [Act.put, List.setIfInBounds_toArray, List.set_cons_zero, List.set_cons_succ]
  refine wpAnyH_take (i := 20) (oi := { dst := some 63, op := Op.move (Operand.tmp 8), type := 3, pos := "law.go:103", after := #[{ on := 14, ground := Ground.guard }], guard := some (14, false) }) (v := ?_) rfl (by kernel_rfl) (by kernel_rfl) (by kernel_rfl) (fun _ _ _ h => h) (Or.inl ⟨by rfl, ?_⟩) (by assumption) ?_
  rotate_left
  · intro w hSw
    try dsimp only at hSw
    go_simp
    try with_reducible rfl
  try simp only [Act.put, List.setIfInBounds_toArray, List.set_cons_zero, List.set_cons_succ]
  refine wpAnyH_take (i := 21) (oi := { dst := some 64, op := Op.unOp UnOp.neg 3 (Operand.tmp 63), type := 3, pos := "law.go:103", after := #[{ on := 20, ground := Ground.data }, { on := 14, ground := Ground.guard }], guard := some (14, false) }) (v := ?_) rfl (by kernel_rfl) (by kernel_rfl) (by kernel_rfl) (fun _ _ _ h => h) (Or.inl ⟨by rfl, ?_⟩) (by assumption) ?_
  rotate_left
  · intro w hSw
    try dsimp only at hSw
    go_simp
    try with_reducible rfl
  try simp only [Act.put, List.setIfInBounds_toArray, List.set_cons_zero, List.set_cons_succ]
  refine wpAnyH_ready (rs := [16]) (by kernel_rfl) (by simp) ?_
  refine AllReadyH.cons (o := { dst := some 59, op := Op.call { callee := Callee.value (Operand.func 20), args := #[Operand.tmp 58], argTypes := #[23] }, type := 23, pos := "law.go:103", after := #[{ on := 15, ground := Ground.data }, { on := 14, ground := Ground.chain }, { on := 14, ground := Ground.guard }], guard := some (14, false) }) rfl (fun K hK => ?_) AllReadyH.nil
  go_simp
  with_reducible refine (HN1.out _).mono ?_
  rintro e wq2 ⟨rfl, hb⟩
  have hT2 : (fun W : World => Below wd.heap.size wd W) wq2 := hT1.trans (hb.mono hT1.size)
  refine hK.out _ _ hT2 (fun _ => ?_)
  clear hK K hb
  try simp only [Act.put, List.setIfInBounds_toArray, List.set_cons_zero, List.set_cons_succ]
  refine wpAnyH_ready (rs := [18]) (by kernel_rfl) (by simp) ?_
  refine AllReadyH.cons (o := { dst := some 61, op := Op.call { callee := Callee.value (Operand.func 20), args := #[Operand.tmp 60], argTypes := #[23] }, type := 23, pos := "law.go:103", after := #[{ on := 17, ground := Ground.data }, { on := 16, ground := Ground.chain }, { on := 14, ground := Ground.guard }], guard := some (14, false) }) rfl (fun K hK => ?_) AllReadyH.nil
  go_simp
  with_reducible refine (HN2.out _).mono ?_
  rintro e wq3 ⟨rfl, hb⟩
  have hT3 : (fun W : World => Below wd.heap.size wd W) wq3 := hT2.trans (hb.mono hT2.size)
  refine hK.out _ _ hT3 (fun _ => ?_)
  clear hK K hb
  try simp only [Act.put, List.setIfInBounds_toArray, List.set_cons_zero, List.set_cons_succ]
  refine wpAnyH_ready (rs := [19]) (by kernel_rfl) (by simp) ?_
  refine AllReadyH.cons (o := { dst := some 62, op := Op.call { callee := Callee.value (Operand.func 15), args := #[Operand.tmp 59, Operand.tmp 61], argTypes := #[23, 23] }, type := 3, pos := "law.go:103", after := #[{ on := 16, ground := Ground.data }, { on := 18, ground := Ground.data }, { on := 18, ground := Ground.chain }, { on := 14, ground := Ground.guard }], guard := some (14, false) }) rfl (fun K hK => ?_) AllReadyH.nil
  go_simp
  with_reducible refine (HC3.out _).mono ?_
  rintro e wq4 ⟨rfl, hb⟩
  have hT4 : (fun W : World => Below wd.heap.size wd W) wq4 := hT3.trans (hb.mono hT3.size)
  refine hK.out _ _ hT4 (fun _ => ?_)
  clear hK K hb
  try simp only [Act.put, List.setIfInBounds_toArray, List.set_cons_zero, List.set_cons_succ]
  refine wpAnyH_take (i := 22) (oi := { dst := some 65, op := Op.binOp BinOp.neq 3 (Operand.tmp 62) (Operand.tmp 64) 3, type := 4, pos := "law.go:103", after := #[{ on := 19, ground := Ground.data }, { on := 21, ground := Ground.data }, { on := 14, ground := Ground.guard }], guard := some (14, false) }) (v := ?_) rfl (by kernel_rfl) (by kernel_rfl) (by kernel_rfl) (fun _ _ _ h => h) (Or.inl ⟨by rfl, ?_⟩) (by assumption) ?_
  rotate_left
  · intro w hSw
    try dsimp only at hSw
    go_simp
    try with_reducible rfl
  try simp only [Act.put, List.setIfInBounds_toArray, List.set_cons_zero, List.set_cons_succ]
  refine wpAnyH_take (i := 23) (oi := { dst := some 66, op := Op.pick (Operand.tmp 57) (Operand.const (Value.bool true)) (Operand.tmp 65), type := 4, pos := "law.go:103", after := #[{ on := 14, ground := Ground.data }, { on := 22, ground := Ground.data }], guard := none }) (v := ?_) rfl (by kernel_rfl) (by kernel_rfl) (by kernel_rfl) (fun _ _ _ h => h) (Or.inl ⟨by rfl, ?_⟩) (by assumption) ?_
  rotate_left
  · intro w hSw
    try dsimp only at hSw
    go_simp
    try with_reducible rfl
  try simp only [Act.put, List.setIfInBounds_toArray, List.set_cons_zero, List.set_cons_succ]
  refine wpAnyH_done (by kernel_rfl) ?_ _
  have R93 := Lib.hid ((hT4.block _ (lt_of_block R86.out)).trans R86.out)
  have R94 := Lib.hid ((hT4.block _ (lt_of_block R87.out)).trans R87.out)
  have R95 := Lib.hid ((hT4.block _ (lt_of_block R88.out)).trans R88.out)
  have R96 := Lib.hid ((hT4.block _ (lt_of_block R89.out)).trans R89.out)
  have R97 := Lib.hid ((hT4.block _ (lt_of_block R90.out)).trans R90.out)
  have X98 := Lib.hid (TabB.below X91.out hT4)
  have B99 := Lib.hid (B92.out.trans (hT4.mono B92.out.size))
  clear hT0 hT1 hT2 hT3 hT4 R86 R87 R88 R89 R90 X91 B92
  rcases HEc.out with rfl | rfl
  · rcases HFc.out with rfl | rfl
    · obtain ⟨⟨c100, c101, c102⟩, _⟩ := row3 R96.out
      obtain ⟨⟨c103, c104, c105⟩, _⟩ := row3 R97.out
      go_wp2_with fail
      clear c100 c101 c102 c103 c104 c105
      with_reducible refine (HC6.out (by trivial) (by trivial) _).mono ?_
      rintro e u106 ⟨rfl, hb⟩
      have R107 := Lib.hid ((hb.block _ (lt_of_block R93.out)).trans R93.out)
      have R108 := Lib.hid ((hb.block _ (lt_of_block R94.out)).trans R94.out)
      have R109 := Lib.hid ((hb.block _ (lt_of_block R95.out)).trans R95.out)
      have R110 := Lib.hid ((hb.block _ (lt_of_block R96.out)).trans R96.out)
      have R111 := Lib.hid ((hb.block _ (lt_of_block R97.out)).trans R97.out)
      have X112 := Lib.hid (TabB.below X98.out hb)
      have B113 := Lib.hid (B99.out.trans (hb.mono B99.out.size))
      clear hb R93 R94 R95 R96 R97 X98 B99
      go_wp2_with fail
      go_ret
      exact ⟨rfl, B113.out⟩
    · go_wp2_with fail
      go_ret
      exact ⟨rfl, B99.out⟩
  · go_wp2_with fail
    go_ret
    exact ⟨rfl, B99.out⟩
set_option maxRecDepth 100000 in
set_option maxHeartbeats 4000000 in
theorem order_lt (w : World) (n1 n2 n3 : Bool) (d1 d2 d3 : ByteArray) (e1 e2 e3 : Int) (h1 : dsane n1 (unstr d1) e1 = true) (h2 : dsane n2 (unstr d2) e2 = true) (h3 : dsane n3 (unstr d3) e3 = true) (c1 : ∀ v, Calls Tryd.prog 15 #[.agg #[.bool n1, .string d1, .int .i64 e1], .agg #[.bool n2, .string d2, .int .i64 e2]] v fun e w' => e = .returned (.int .i64 (-1)) ∧ Below v.heap.size v w') (c2 : ∀ v, Calls Tryd.prog 15 #[.agg #[.bool n2, .string d2, .int .i64 e2], .agg #[.bool n1, .string d1, .int .i64 e1]] v fun e w' => e = .returned (.int .i64 1) ∧ Below v.heap.size v w') (m1 m2 : Bool) (q1 : ngd n1 d1 e1 = m1) (q2 : ngd n2 d2 e2 = m2) (c3 : ∀ v, Calls Tryd.prog 15 #[.agg #[.bool m1, .string d1, .int .i64 e1], .agg #[.bool m2, .string d2, .int .i64 e2]] v fun e w' => e = .returned (.int .i64 1) ∧ Below v.heap.size v w') (c4 : ∀ v, Calls Tryd.prog 15 #[.agg #[.bool n2, .string d2, .int .i64 e2], .agg #[.bool n3, .string d3, .int .i64 e3]] v fun e w' => e = .returned (.int .i64 (-1)) ∧ Below v.heap.size v w') (c5 : ∀ v, Calls Tryd.prog 15 #[.agg #[.bool n1, .string d1, .int .i64 e1], .agg #[.bool n3, .string d3, .int .i64 e3]] v fun e w' => e = .returned (.int .i64 (-1)) ∧ Below v.heap.size v w') (hne : ¬ (n1 = n2 ∧ d1 = d2 ∧ e1 = e2)) (xn yn : Bool) (xd yd : ByteArray) (xe ye ec fc : Int) (a1 : addP ⟨n1, d1, e1⟩ ⟨n3, d3, e3⟩ = (⟨xn, xd, xe⟩, ec)) (a2 : addP ⟨n2, d2, e2⟩ ⟨n3, d3, e3⟩ = (⟨yn, yd, ye⟩, fc)) (hec : ec = 0 ∨ ec = 4) (hfc : fc = 0 ∨ fc = 4) (c6 : ec = 0 → fc = 0 → ∀ v, Calls Tryd.prog 15 #[.agg #[.bool xn, .string xd, .int .i64 xe], .agg #[.bool yn, .string yd, .int .i64 ye]] v fun e w' => e = .returned (.int .i64 (-1)) ∧ Below v.heap.size v w') (ht : TabB w) :
    Calls Tryd.prog 6 #[.agg #[.bool n1, .string d1, .int .i64 e1], .agg #[.bool n2, .string d2, .int .i64 e2], .agg #[.bool n3, .string d3, .int .i64 e3]] w fun e w' => e = .returned (.bool true) ∧ Below w.heap.size w w' := by
  have HS1 := Lib.hid (fun v => Sane_all v n1 d1 e1)
  have HS2 := Lib.hid (fun v => Sane_all v n2 d2 e2)
  have HS3 := Lib.hid (fun v => Sane_all v n3 d3 e3)
  obtain ⟨z11, z12, z13⟩ := dsane_any h1
  obtain ⟨z21, z22, z23⟩ := dsane_any h2
  obtain ⟨z31, z32, z33⟩ := dsane_any h3
  have HA1 := Lib.hid (fun v => Add_pair v n1 d1 e1 n3 d3 e3 (by omega) (by omega))
  have HA2 := Lib.hid (fun v => Add_pair v n2 d2 e2 n3 d3 e3 (by omega) (by omega))
  rw [a1] at HA1
  rw [a2] at HA2
  have HN1 := Lib.hid (fun v => Neg_any v n1 d1 e1 (by omega))
  have HN2 := Lib.hid (fun v => Neg_any v n2 d2 e2 (by omega))
  rw [q1] at HN1
  rw [q2] at HN2
  rw [h1] at HS1
  rw [h2] at HS2
  rw [h3] at HS3
  have HC1 := Lib.hid c1
  have HC2 := Lib.hid c2
  have HC3 := Lib.hid c3
  have HC4 := Lib.hid c4
  have HC5 := Lib.hid c5
  have HC6 := Lib.hid c6
  have HEc := Lib.hid hec
  have HFc := Lib.hid hfc
  have HNe := Lib.hid hne
  clear a1 a2 q1 q2 h2 z21 z22 z23 hne h1 h3 z11 z12 z13 z31 z32 z33 c6 hec hfc c1 c2 c3 c4 c5
  obtain ⟨wa, hwa, r1, r2, r3, hB⟩ := rows3_at w n1 n2 n3 d1 d2 d3 e1 e2 e3
  have HW := Lib.hid hwa
  have HB := Lib.hid hB
  have HRa := Lib.hid r1
  have HRb := Lib.hid r2
  have HRc := Lib.hid r3
  have HT := Lib.hid (TabB.below ht hB)
  clear hwa hB r1 r2 r3 ht
  go_enter Tryd.func6, Tryd.ntmps6
  go_upto_region 1 with fail
  rw [← HW.out]
  clear HW
  go_wp2_with fail
  with_reducible refine (awake_any _ HT.out).mono ?_
  rintro e u1 ⟨rfl, hb⟩
  have R2 := Lib.hid ((hb.block _ (lt_of_block HRa.out)).trans HRa.out)
  have R3 := Lib.hid ((hb.block _ (lt_of_block HRb.out)).trans HRb.out)
  have R4 := Lib.hid ((hb.block _ (lt_of_block HRc.out)).trans HRc.out)
  have X5 := Lib.hid (TabB.below HT.out hb)
  have B6 := Lib.hid (HB.out.trans (hb.mono HB.out.size))
  clear hb HRa HRb HRc HT HB
  obtain ⟨⟨c7, c8, c9⟩, _⟩ := row3 R2.out
  go_wp2_with fail
  clear c7 c8 c9
  with_reducible refine (HS1.out _).mono ?_
  rintro e u10 ⟨rfl, hb⟩
  have R11 := Lib.hid ((hb.block _ (lt_of_block R2.out)).trans R2.out)
  have R12 := Lib.hid ((hb.block _ (lt_of_block R3.out)).trans R3.out)
  have R13 := Lib.hid ((hb.block _ (lt_of_block R4.out)).trans R4.out)
  have X14 := Lib.hid (TabB.below X5.out hb)
  have B15 := Lib.hid (B6.out.trans (hb.mono B6.out.size))
  clear hb R2 R3 R4 X5 B6
  obtain ⟨⟨c16, c17, c18⟩, _⟩ := row3 R12.out
  go_wp2_with fail
  clear c16 c17 c18
  with_reducible refine (HS2.out _).mono ?_
  rintro e u19 ⟨rfl, hb⟩
  have R20 := Lib.hid ((hb.block _ (lt_of_block R11.out)).trans R11.out)
  have R21 := Lib.hid ((hb.block _ (lt_of_block R12.out)).trans R12.out)
  have R22 := Lib.hid ((hb.block _ (lt_of_block R13.out)).trans R13.out)
  have X23 := Lib.hid (TabB.below X14.out hb)
  have B24 := Lib.hid (B15.out.trans (hb.mono B15.out.size))
  clear hb R11 R12 R13 X14 B15
  obtain ⟨⟨c25, c26, c27⟩, _⟩ := row3 R22.out
  go_wp2_with fail
  clear c25 c26 c27
  with_reducible refine (HS3.out _).mono ?_
  rintro e u28 ⟨rfl, hb⟩
  have R29 := Lib.hid ((hb.block _ (lt_of_block R20.out)).trans R20.out)
  have R30 := Lib.hid ((hb.block _ (lt_of_block R21.out)).trans R21.out)
  have R31 := Lib.hid ((hb.block _ (lt_of_block R22.out)).trans R22.out)
  have X32 := Lib.hid (TabB.below X23.out hb)
  have B33 := Lib.hid (B24.out.trans (hb.mono B24.out.size))
  clear hb R20 R21 R22 X23 B24
  obtain ⟨⟨c34, c35, c36⟩, _⟩ := row3 R29.out
  obtain ⟨⟨c37, c38, c39⟩, _⟩ := row3 R30.out
  go_wp2_with fail
  clear c34 c35 c36 c37 c38 c39
  with_reducible refine (HC1.out _).mono ?_
  rintro e u40 ⟨rfl, hb⟩
  have R41 := Lib.hid ((hb.block _ (lt_of_block R29.out)).trans R29.out)
  have R42 := Lib.hid ((hb.block _ (lt_of_block R30.out)).trans R30.out)
  have R43 := Lib.hid ((hb.block _ (lt_of_block R31.out)).trans R31.out)
  have X44 := Lib.hid (TabB.below X32.out hb)
  have B45 := Lib.hid (B33.out.trans (hb.mono B33.out.size))
  clear hb R29 R30 R31 X32 B33
  obtain ⟨⟨c46, c47, c48⟩, _⟩ := row3 R41.out
  obtain ⟨⟨c49, c50, c51⟩, _⟩ := row3 R43.out
  go_wp2_with fail
  clear c46 c47 c48 c49 c50 c51
  with_reducible refine (HA1.out _).mono ?_
  rintro e u52 ⟨rfl, hb⟩
  have R53 := Lib.hid ((hb.block _ (lt_of_block R41.out)).trans R41.out)
  have R54 := Lib.hid ((hb.block _ (lt_of_block R42.out)).trans R42.out)
  have R55 := Lib.hid ((hb.block _ (lt_of_block R43.out)).trans R43.out)
  have X56 := Lib.hid (TabB.below X44.out hb)
  have B57 := Lib.hid (B45.out.trans (hb.mono B45.out.size))
  clear hb R41 R42 R43 X44 B45
  unfold pairV
  obtain ⟨u58, hwv, hr, hb⟩ := boxed3 u52 (.bool xn) (.string xd) (.int .i64 xe)
  have R59 := Lib.hid ((hb.block _ (lt_of_block R53.out)).trans R53.out)
  have R60 := Lib.hid ((hb.block _ (lt_of_block R54.out)).trans R54.out)
  have R61 := Lib.hid ((hb.block _ (lt_of_block R55.out)).trans R55.out)
  have X62 := Lib.hid (TabB.below X56.out hb)
  have B63 := Lib.hid (B57.out.trans (hb.mono B57.out.size))
  have R64 := Lib.hid hr
  have HYW := Lib.hid hwv
  clear hb hr hwv R53 R54 R55 X56 B57
  go_upto_region 6 with fail
  rw [← HYW.out]
  clear HYW
  obtain ⟨⟨c65, c66, c67⟩, _⟩ := row3 R60.out
  obtain ⟨⟨c68, c69, c70⟩, _⟩ := row3 R61.out
  go_wp2_with fail
  clear c65 c66 c67 c68 c69 c70
  with_reducible refine (HA2.out _).mono ?_
  rintro e u71 ⟨rfl, hb⟩
  have R72 := Lib.hid ((hb.block _ (lt_of_block R59.out)).trans R59.out)
  have R73 := Lib.hid ((hb.block _ (lt_of_block R60.out)).trans R60.out)
  have R74 := Lib.hid ((hb.block _ (lt_of_block R61.out)).trans R61.out)
  have R75 := Lib.hid ((hb.block _ (lt_of_block R64.out)).trans R64.out)
  have X76 := Lib.hid (TabB.below X62.out hb)
  have B77 := Lib.hid (B63.out.trans (hb.mono B63.out.size))
  clear hb R59 R60 R61 R64 X62 B63
  unfold pairV
  obtain ⟨u78, hwv, hr, hb⟩ := boxed3 u71 (.bool yn) (.string yd) (.int .i64 ye)
  have R79 := Lib.hid ((hb.block _ (lt_of_block R72.out)).trans R72.out)
  have R80 := Lib.hid ((hb.block _ (lt_of_block R73.out)).trans R73.out)
  have R81 := Lib.hid ((hb.block _ (lt_of_block R74.out)).trans R74.out)
  have R82 := Lib.hid ((hb.block _ (lt_of_block R75.out)).trans R75.out)
  have X83 := Lib.hid (TabB.below X76.out hb)
  have B84 := Lib.hid (B77.out.trans (hb.mono B77.out.size))
  have R85 := Lib.hid hr
  have HYW := Lib.hid hwv
  clear hb hr hwv R72 R73 R74 R75 X76 B77
  go_upto_region 7 with fail
  rw [← HYW.out]
  clear HYW
  have wz : IntKind.i64.wrap (-1) = (-1) := by rw [IntKind.wrap_i64]; decide
  have wy : IntKind.i64.wrap 1 = 1 := by rw [IntKind.wrap_i64]; decide
  have hbd : Below u78.heap.size u78 u78.drew := (Below.refl _ _).drew
  have R86 := Lib.hid ((hbd.block _ (lt_of_block R79.out)).trans R79.out)
  have R87 := Lib.hid ((hbd.block _ (lt_of_block R80.out)).trans R80.out)
  have R88 := Lib.hid ((hbd.block _ (lt_of_block R81.out)).trans R81.out)
  have R89 := Lib.hid ((hbd.block _ (lt_of_block R82.out)).trans R82.out)
  have R90 := Lib.hid ((hbd.block _ (lt_of_block R85.out)).trans R85.out)
  have X91 := Lib.hid (TabB.below X83.out hbd)
  have B92 := Lib.hid (B84.out.trans (hbd.mono B84.out.size))
  clear hbd R79 R80 R81 R82 R85 X83 B84
  have hT0 : (fun W : World => Below u78.drew.heap.size u78.drew W) u78.drew := Below.refl _ _
  refine wp_region_held_drew (S := (fun W : World => Below u78.drew.heap.size u78.drew W)) (by kernel_rfl) hT0 (fun hHeld => ?_)
  clear hHeld
  generalize u78.drew = wd at B92 R86 R87 R88 R89 R90 X91 hT0 ⊢
  refine wpAnyH_take (i := 0) (oi := { dst := some 43, op := Op.move (Operand.tmp 8), type := 3, pos := "law.go:103", after := #[], guard := none }) (v := ?_) rfl (by kernel_rfl) (by kernel_rfl) (by kernel_rfl) (fun _ _ _ h => h) (Or.inl ⟨by rfl, ?_⟩) (by assumption) ?_
  rotate_left
  · intro w hSw
    try dsimp only at hSw
    go_simp
    try with_reducible rfl
  try simp only [Act.put, List.setIfInBounds_toArray, List.set_cons_zero, List.set_cons_succ]
  refine wpAnyH_take (i := 1) (oi := { dst := some 44, op := Op.load 23 (Operand.tmp 4), type := 23, pos := "law.go:103", after := #[], guard := none }) (v := ?_) rfl (by kernel_rfl) (by kernel_rfl) (by kernel_rfl) (fun _ _ _ h => h) (Or.inl ⟨by rfl, ?_⟩) (by assumption) ?_
  rotate_left
  · intro w hSw
    try dsimp only at hSw
    obtain ⟨⟨c0, c1, c2⟩, _⟩ := row3 ((hSw.block _ (lt_of_block R87.out)).trans R87.out)
    go_simp
    try with_reducible rfl
  try simp only [Act.put, List.setIfInBounds_toArray, List.set_cons_zero, List.set_cons_succ]
  refine wpAnyH_take (i := 2) (oi := { dst := some 45, op := Op.load 23 (Operand.tmp 3), type := 23, pos := "law.go:103", after := #[], guard := none }) (v := ?_) rfl (by kernel_rfl) (by kernel_rfl) (by kernel_rfl) (fun _ _ _ h => h) (Or.inl ⟨by rfl, ?_⟩) (by assumption) ?_
  rotate_left
  · intro w hSw
    try dsimp only at hSw
    obtain ⟨⟨c0, c1, c2⟩, _⟩ := row3 ((hSw.block _ (lt_of_block R86.out)).trans R86.out)
    go_simp
    try with_reducible rfl
  try simp only [Act.put, List.setIfInBounds_toArray, List.set_cons_zero, List.set_cons_succ]
  refine wpAnyH_ready (rs := [3]) (by kernel_rfl) (by simp) ?_
  refine AllReadyH.cons (o := { dst := some 46, op := Op.call { callee := Callee.value (Operand.func 15), args := #[Operand.tmp 44, Operand.tmp 45], argTypes := #[23, 23] }, type := 3, pos := "law.go:103", after := #[{ on := 1, ground := Ground.data }, { on := 2, ground := Ground.data }], guard := none }) rfl (fun K hK => ?_) AllReadyH.nil
  go_simp
  with_reducible refine (HC2.out _).mono ?_
  rintro e wq1 ⟨rfl, hb⟩
  have hT1 : (fun W : World => Below wd.heap.size wd W) wq1 := hT0.trans (hb.mono hT0.size)
  refine hK.out _ _ hT1 (fun _ => ?_)
  clear hK K hb
  try simp only [Act.put, List.setIfInBounds_toArray, List.set_cons_zero, List.set_cons_succ]
  refine wpAnyH_take (i := 4) (oi := { dst := some 47, op := Op.unOp UnOp.neg 3 (Operand.tmp 46), type := 3, pos := "law.go:103", after := #[{ on := 3, ground := Ground.data }], guard := none }) (v := ?_) rfl (by kernel_rfl) (by kernel_rfl) (by kernel_rfl) (fun _ _ _ h => h) (Or.inl ⟨by rfl, ?_⟩) (by assumption) ?_
  rotate_left
  · intro w hSw
    try dsimp only at hSw
    go_simp
    try with_reducible rfl
  try simp only [Act.put, List.setIfInBounds_toArray, List.set_cons_zero, List.set_cons_succ]
  refine wpAnyH_take (i := 5) (oi := { dst := some 48, op := Op.binOp BinOp.neq 3 (Operand.tmp 43) (Operand.tmp 47) 3, type := 4, pos := "law.go:103", after := #[{ on := 0, ground := Ground.data }, { on := 4, ground := Ground.data }], guard := none }) (v := ?_) rfl (by kernel_rfl) (by kernel_rfl) (by kernel_rfl) (fun _ _ _ h => h) (Or.inl ⟨by rfl, ?_⟩) (by assumption) ?_
  rotate_left
  · intro w hSw
    try dsimp only at hSw
    go_simp
    try with_reducible rfl
  try simp only [Act.put, List.setIfInBounds_toArray, List.set_cons_zero, List.set_cons_succ]
  refine wpAnyH_take (i := 6) (oi := { dst := some 49, op := Op.move (Operand.tmp 48), type := 4, pos := "law.go:103", after := #[{ on := 5, ground := Ground.data }, { on := 3, ground := Ground.chain }], guard := none }) (v := ?_) rfl (by kernel_rfl) (by kernel_rfl) (by kernel_rfl) (fun _ _ _ h => h) (Or.inl ⟨by rfl, ?_⟩) (by assumption) ?_
  rotate_left
  · intro w hSw
    try dsimp only at hSw
    go_simp
    try with_reducible rfl
  try simp only [Act.put, List.setIfInBounds_toArray, List.set_cons_zero, List.set_cons_succ]
  refine wpAnyH_take (i := 7) (oi := { dst := some 50, op := Op.move (Operand.tmp 8), type := 3, pos := "law.go:103", after := #[{ on := 6, ground := Ground.guard }], guard := some (6, false) }) (v := ?_) rfl (by kernel_rfl) (by kernel_rfl) (by kernel_rfl) (fun _ _ _ h => h) (Or.inl ⟨by rfl, ?_⟩) (by assumption) ?_
  rotate_left
  · intro w hSw
    try dsimp only at hSw
    go_simp
    try with_reducible rfl
  try simp only [Act.put, List.setIfInBounds_toArray, List.set_cons_zero, List.set_cons_succ]
  refine wpAnyH_take (i := 8) (oi := { dst := some 51, op := Op.binOp BinOp.eql 3 (Operand.tmp 50) (Operand.const (Value.int IntKind.i64 0)) 3, type := 4, pos := "law.go:103", after := #[{ on := 7, ground := Ground.data }, { on := 6, ground := Ground.guard }], guard := some (6, false) }) (v := ?_) rfl (by kernel_rfl) (by kernel_rfl) (by kernel_rfl) (fun _ _ _ h => h) (Or.inl ⟨by rfl, ?_⟩) (by assumption) ?_
  rotate_left
  · intro w hSw
    try dsimp only at hSw
    go_simp
    try with_reducible rfl
  try simp only [Act.put, List.setIfInBounds_toArray, List.set_cons_zero, List.set_cons_succ]
  refine wpAnyH_take (i := 9) (oi := { dst := some 52, op := Op.load 23 (Operand.tmp 3), type := 23, pos := "law.go:103", after := #[{ on := 6, ground := Ground.guard }], guard := some (6, false) }) (v := ?_) rfl (by kernel_rfl) (by kernel_rfl) (by kernel_rfl) (fun _ _ _ h => h) (Or.inl ⟨by rfl, ?_⟩) (by assumption) ?_
  rotate_left
  · intro w hSw
    try dsimp only at hSw
    obtain ⟨⟨c0, c1, c2⟩, _⟩ := row3 ((hSw.block _ (lt_of_block R86.out)).trans R86.out)
    go_simp
    try with_reducible rfl
  try simp only [Act.put, List.setIfInBounds_toArray, List.set_cons_zero, List.set_cons_succ]
  refine wpAnyH_take (i := 10) (oi := { dst := some 53, op := Op.load 23 (Operand.tmp 4), type := 23, pos := "law.go:103", after := #[{ on := 6, ground := Ground.guard }], guard := some (6, false) }) (v := ?_) rfl (by kernel_rfl) (by kernel_rfl) (by kernel_rfl) (fun _ _ _ h => h) (Or.inl ⟨by rfl, ?_⟩) (by assumption) ?_
  rotate_left
  · intro w hSw
    try dsimp only at hSw
    obtain ⟨⟨c0, c1, c2⟩, _⟩ := row3 ((hSw.block _ (lt_of_block R87.out)).trans R87.out)
    go_simp
    try with_reducible rfl
  try simp only [Act.put, List.setIfInBounds_toArray, List.set_cons_zero, List.set_cons_succ]
  refine wpAnyH_take (i := 11) (oi := { dst := some 54, op := Op.binOp BinOp.eql 23 (Operand.tmp 52) (Operand.tmp 53) 23, type := 4, pos := "law.go:103", after := #[{ on := 9, ground := Ground.data }, { on := 10, ground := Ground.data }, { on := 6, ground := Ground.guard }], guard := some (6, false) }) (v := .bool false) rfl (by kernel_rfl) (by kernel_rfl) (by kernel_rfl) (fun _ _ _ h => h) (Or.inl ⟨by rfl, ?_⟩) (by assumption) ?_
  · intro w hSw
    try dsimp only at hSw
    go_simp
    exact fun a b c => HNe.out ⟨a, ba_ext b, c⟩
  try simp only [Act.put, List.setIfInBounds_toArray, List.set_cons_zero, List.set_cons_succ]
  refine wpAnyH_take (i := 12) (oi := { dst := some 55, op := Op.binOp BinOp.neq 4 (Operand.tmp 51) (Operand.tmp 54) 4, type := 4, pos := "law.go:103", after := #[{ on := 8, ground := Ground.data }, { on := 11, ground := Ground.data }, { on := 6, ground := Ground.guard }], guard := some (6, false) }) (v := ?_) rfl (by kernel_rfl) (by kernel_rfl) (by kernel_rfl) (fun _ _ _ h => h) (Or.inl ⟨by rfl, ?_⟩) (by assumption) ?_
  rotate_left
  · intro w hSw
    try dsimp only at hSw
    go_simp
    try with_reducible rfl
  try simp only [Act.put, List.setIfInBounds_toArray, List.set_cons_zero, List.set_cons_succ]
  refine wpAnyH_take (i := 13) (oi := { dst := some 56, op := Op.pick (Operand.tmp 49) (Operand.const (Value.bool true)) (Operand.tmp 55), type := 4, pos := "law.go:103", after := #[{ on := 6, ground := Ground.data }, { on := 12, ground := Ground.data }], guard := none }) (v := ?_) rfl (by kernel_rfl) (by kernel_rfl) (by kernel_rfl) (fun _ _ _ h => h) (Or.inl ⟨by rfl, ?_⟩) (by assumption) ?_
  rotate_left
  · intro w hSw
    try dsimp only at hSw
    go_simp
    try with_reducible rfl
  try simp only [Act.put, List.setIfInBounds_toArray, List.set_cons_zero, List.set_cons_succ]
  refine wpAnyH_take (i := 14) (oi := { dst := some 57, op := Op.move (Operand.tmp 56), type := 4, pos := "law.go:103", after := #[{ on := 13, ground := Ground.data }, { on := 6, ground := Ground.chain }], guard := none }) (v := ?_) rfl (by kernel_rfl) (by kernel_rfl) (by kernel_rfl) (fun _ _ _ h => h) (Or.inl ⟨by rfl, ?_⟩) (by assumption) ?_
  rotate_left
  · intro w hSw
    try dsimp only at hSw
    go_simp
    try with_reducible rfl
  try simp only [Act.put, List.setIfInBounds_toArray, List.set_cons_zero, List.set_cons_succ]
  refine wpAnyH_take (i := 15) (oi := { dst := some 58, op := Op.load 23 (Operand.tmp 3), type := 23, pos := "law.go:103", after := #[{ on := 14, ground := Ground.guard }], guard := some (14, false) }) (v := ?_) rfl (by kernel_rfl) (by kernel_rfl) (by kernel_rfl) (fun _ _ _ h => h) (Or.inl ⟨by rfl, ?_⟩) (by assumption) ?_
  rotate_left
  · intro w hSw
    try dsimp only at hSw
    obtain ⟨⟨c0, c1, c2⟩, _⟩ := row3 ((hSw.block _ (lt_of_block R86.out)).trans R86.out)
    go_simp
    try with_reducible rfl
  try simp only [Act.put, List.setIfInBounds_toArray, List.set_cons_zero, List.set_cons_succ]
  refine wpAnyH_take (i := 17) (oi := { dst := some 60, op := Op.load 23 (Operand.tmp 4), type := 23, pos := "law.go:103", after := #[{ on := 14, ground := Ground.guard }], guard := some (14, false) }) (v := ?_) rfl (by kernel_rfl) (by kernel_rfl) (by kernel_rfl) (fun _ _ _ h => h) (Or.inl ⟨by rfl, ?_⟩) (by assumption) ?_
  rotate_left
  · intro w hSw
    try dsimp only at hSw
    obtain ⟨⟨c0, c1, c2⟩, _⟩ := row3 ((hSw.block _ (lt_of_block R87.out)).trans R87.out)
    go_simp
    try with_reducible rfl
  try simp only [Act.put, List.setIfInBounds_toArray, List.set_cons_zero, List.set_cons_succ]
  refine wpAnyH_take (i := 20) (oi := { dst := some 63, op := Op.move (Operand.tmp 8), type := 3, pos := "law.go:103", after := #[{ on := 14, ground := Ground.guard }], guard := some (14, false) }) (v := ?_) rfl (by kernel_rfl) (by kernel_rfl) (by kernel_rfl) (fun _ _ _ h => h) (Or.inl ⟨by rfl, ?_⟩) (by assumption) ?_
  rotate_left
  · intro w hSw
    try dsimp only at hSw
    go_simp
    try with_reducible rfl
  try simp only [Act.put, List.setIfInBounds_toArray, List.set_cons_zero, List.set_cons_succ]
  refine wpAnyH_take (i := 21) (oi := { dst := some 64, op := Op.unOp UnOp.neg 3 (Operand.tmp 63), type := 3, pos := "law.go:103", after := #[{ on := 20, ground := Ground.data }, { on := 14, ground := Ground.guard }], guard := some (14, false) }) (v := ?_) rfl (by kernel_rfl) (by kernel_rfl) (by kernel_rfl) (fun _ _ _ h => h) (Or.inl ⟨by rfl, ?_⟩) (by assumption) ?_
  rotate_left
  · intro w hSw
    try dsimp only at hSw
    go_simp
    try with_reducible rfl
  try simp only [Act.put, List.setIfInBounds_toArray, List.set_cons_zero, List.set_cons_succ]
  refine wpAnyH_ready (rs := [16]) (by kernel_rfl) (by simp) ?_
  refine AllReadyH.cons (o := { dst := some 59, op := Op.call { callee := Callee.value (Operand.func 20), args := #[Operand.tmp 58], argTypes := #[23] }, type := 23, pos := "law.go:103", after := #[{ on := 15, ground := Ground.data }, { on := 14, ground := Ground.chain }, { on := 14, ground := Ground.guard }], guard := some (14, false) }) rfl (fun K hK => ?_) AllReadyH.nil
  go_simp
  with_reducible refine (HN1.out _).mono ?_
  rintro e wq2 ⟨rfl, hb⟩
  have hT2 : (fun W : World => Below wd.heap.size wd W) wq2 := hT1.trans (hb.mono hT1.size)
  refine hK.out _ _ hT2 (fun _ => ?_)
  clear hK K hb
  try simp only [Act.put, List.setIfInBounds_toArray, List.set_cons_zero, List.set_cons_succ]
  refine wpAnyH_ready (rs := [18]) (by kernel_rfl) (by simp) ?_
  refine AllReadyH.cons (o := { dst := some 61, op := Op.call { callee := Callee.value (Operand.func 20), args := #[Operand.tmp 60], argTypes := #[23] }, type := 23, pos := "law.go:103", after := #[{ on := 17, ground := Ground.data }, { on := 16, ground := Ground.chain }, { on := 14, ground := Ground.guard }], guard := some (14, false) }) rfl (fun K hK => ?_) AllReadyH.nil
  go_simp
  with_reducible refine (HN2.out _).mono ?_
  rintro e wq3 ⟨rfl, hb⟩
  have hT3 : (fun W : World => Below wd.heap.size wd W) wq3 := hT2.trans (hb.mono hT2.size)
  refine hK.out _ _ hT3 (fun _ => ?_)
  clear hK K hb
  try simp only [Act.put, List.setIfInBounds_toArray, List.set_cons_zero, List.set_cons_succ]
  refine wpAnyH_ready (rs := [19]) (by kernel_rfl) (by simp) ?_
  refine AllReadyH.cons (o := { dst := some 62, op := Op.call { callee := Callee.value (Operand.func 15), args := #[Operand.tmp 59, Operand.tmp 61], argTypes := #[23, 23] }, type := 3, pos := "law.go:103", after := #[{ on := 16, ground := Ground.data }, { on := 18, ground := Ground.data }, { on := 18, ground := Ground.chain }, { on := 14, ground := Ground.guard }], guard := some (14, false) }) rfl (fun K hK => ?_) AllReadyH.nil
  go_simp
  with_reducible refine (HC3.out _).mono ?_
  rintro e wq4 ⟨rfl, hb⟩
  have hT4 : (fun W : World => Below wd.heap.size wd W) wq4 := hT3.trans (hb.mono hT3.size)
  refine hK.out _ _ hT4 (fun _ => ?_)
  clear hK K hb
  try simp only [Act.put, List.setIfInBounds_toArray, List.set_cons_zero, List.set_cons_succ]
  refine wpAnyH_take (i := 22) (oi := { dst := some 65, op := Op.binOp BinOp.neq 3 (Operand.tmp 62) (Operand.tmp 64) 3, type := 4, pos := "law.go:103", after := #[{ on := 19, ground := Ground.data }, { on := 21, ground := Ground.data }, { on := 14, ground := Ground.guard }], guard := some (14, false) }) (v := ?_) rfl (by kernel_rfl) (by kernel_rfl) (by kernel_rfl) (fun _ _ _ h => h) (Or.inl ⟨by rfl, ?_⟩) (by assumption) ?_
  rotate_left
  · intro w hSw
    try dsimp only at hSw
    go_simp
    try with_reducible rfl
  try simp only [Act.put, List.setIfInBounds_toArray, List.set_cons_zero, List.set_cons_succ]
  refine wpAnyH_take (i := 23) (oi := { dst := some 66, op := Op.pick (Operand.tmp 57) (Operand.const (Value.bool true)) (Operand.tmp 65), type := 4, pos := "law.go:103", after := #[{ on := 14, ground := Ground.data }, { on := 22, ground := Ground.data }], guard := none }) (v := ?_) rfl (by kernel_rfl) (by kernel_rfl) (by kernel_rfl) (fun _ _ _ h => h) (Or.inl ⟨by rfl, ?_⟩) (by assumption) ?_
  rotate_left
  · intro w hSw
    try dsimp only at hSw
    go_simp
    try with_reducible rfl
  try simp only [Act.put, List.setIfInBounds_toArray, List.set_cons_zero, List.set_cons_succ]
  refine wpAnyH_done (by kernel_rfl) ?_ _
  have R93 := Lib.hid ((hT4.block _ (lt_of_block R86.out)).trans R86.out)
  have R94 := Lib.hid ((hT4.block _ (lt_of_block R87.out)).trans R87.out)
  have R95 := Lib.hid ((hT4.block _ (lt_of_block R88.out)).trans R88.out)
  have R96 := Lib.hid ((hT4.block _ (lt_of_block R89.out)).trans R89.out)
  have R97 := Lib.hid ((hT4.block _ (lt_of_block R90.out)).trans R90.out)
  have X98 := Lib.hid (TabB.below X91.out hT4)
  have B99 := Lib.hid (B92.out.trans (hT4.mono B92.out.size))
  clear hT0 hT1 hT2 hT3 hT4 R86 R87 R88 R89 R90 X91 B92
  obtain ⟨⟨c100, c101, c102⟩, _⟩ := row3 R94.out
  obtain ⟨⟨c103, c104, c105⟩, _⟩ := row3 R95.out
  go_wp2_with fail
  clear c100 c101 c102 c103 c104 c105
  with_reducible refine (HC4.out _).mono ?_
  rintro e u106 ⟨rfl, hb⟩
  have R107 := Lib.hid ((hb.block _ (lt_of_block R93.out)).trans R93.out)
  have R108 := Lib.hid ((hb.block _ (lt_of_block R94.out)).trans R94.out)
  have R109 := Lib.hid ((hb.block _ (lt_of_block R95.out)).trans R95.out)
  have R110 := Lib.hid ((hb.block _ (lt_of_block R96.out)).trans R96.out)
  have R111 := Lib.hid ((hb.block _ (lt_of_block R97.out)).trans R97.out)
  have X112 := Lib.hid (TabB.below X98.out hb)
  have B113 := Lib.hid (B99.out.trans (hb.mono B99.out.size))
  clear hb R93 R94 R95 R96 R97 X98 B99
  obtain ⟨⟨c114, c115, c116⟩, _⟩ := row3 R107.out
  obtain ⟨⟨c117, c118, c119⟩, _⟩ := row3 R109.out
  go_wp2_with fail
  clear c114 c115 c116 c117 c118 c119
  with_reducible refine (HC5.out _).mono ?_
  rintro e u120 ⟨rfl, hb⟩
  have R121 := Lib.hid ((hb.block _ (lt_of_block R107.out)).trans R107.out)
  have R122 := Lib.hid ((hb.block _ (lt_of_block R108.out)).trans R108.out)
  have R123 := Lib.hid ((hb.block _ (lt_of_block R109.out)).trans R109.out)
  have R124 := Lib.hid ((hb.block _ (lt_of_block R110.out)).trans R110.out)
  have R125 := Lib.hid ((hb.block _ (lt_of_block R111.out)).trans R111.out)
  have X126 := Lib.hid (TabB.below X112.out hb)
  have B127 := Lib.hid (B113.out.trans (hb.mono B113.out.size))
  clear hb R107 R108 R109 R110 R111 X112 B113
  rcases HEc.out with rfl | rfl
  · rcases HFc.out with rfl | rfl
    · obtain ⟨⟨c128, c129, c130⟩, _⟩ := row3 R124.out
      obtain ⟨⟨c131, c132, c133⟩, _⟩ := row3 R125.out
      go_wp2_with fail
      clear c128 c129 c130 c131 c132 c133
      with_reducible refine (HC6.out (by trivial) (by trivial) _).mono ?_
      rintro e u134 ⟨rfl, hb⟩
      have R135 := Lib.hid ((hb.block _ (lt_of_block R121.out)).trans R121.out)
      have R136 := Lib.hid ((hb.block _ (lt_of_block R122.out)).trans R122.out)
      have R137 := Lib.hid ((hb.block _ (lt_of_block R123.out)).trans R123.out)
      have R138 := Lib.hid ((hb.block _ (lt_of_block R124.out)).trans R124.out)
      have R139 := Lib.hid ((hb.block _ (lt_of_block R125.out)).trans R125.out)
      have X140 := Lib.hid (TabB.below X126.out hb)
      have B141 := Lib.hid (B127.out.trans (hb.mono B127.out.size))
      clear hb R121 R122 R123 R124 R125 X126 B127
      go_wp2_with fail
      go_ret
      exact ⟨rfl, B141.out⟩
    · go_wp2_with fail
      go_ret
      exact ⟨rfl, B127.out⟩
  · go_wp2_with fail
    go_ret
    exact ⟨rfl, B127.out⟩
set_option maxRecDepth 100000 in
set_option maxHeartbeats 4000000 in
theorem order_ln (w : World) (n1 n2 n3 : Bool) (d1 d2 d3 : ByteArray) (e1 e2 e3 : Int) (h1 : dsane n1 (unstr d1) e1 = true) (h2 : dsane n2 (unstr d2) e2 = true) (h3 : dsane n3 (unstr d3) e3 = true) (c1 : ∀ v, Calls Tryd.prog 15 #[.agg #[.bool n1, .string d1, .int .i64 e1], .agg #[.bool n2, .string d2, .int .i64 e2]] v fun e w' => e = .returned (.int .i64 (-1)) ∧ Below v.heap.size v w') (c2 : ∀ v, Calls Tryd.prog 15 #[.agg #[.bool n2, .string d2, .int .i64 e2], .agg #[.bool n1, .string d1, .int .i64 e1]] v fun e w' => e = .returned (.int .i64 1) ∧ Below v.heap.size v w') (m1 m2 : Bool) (q1 : ngd n1 d1 e1 = m1) (q2 : ngd n2 d2 e2 = m2) (c3 : ∀ v, Calls Tryd.prog 15 #[.agg #[.bool m1, .string d1, .int .i64 e1], .agg #[.bool m2, .string d2, .int .i64 e2]] v fun e w' => e = .returned (.int .i64 1) ∧ Below v.heap.size v w') (pp : Int) (hpp : ¬ pp < 0) (c4 : ∀ v, Calls Tryd.prog 15 #[.agg #[.bool n2, .string d2, .int .i64 e2], .agg #[.bool n3, .string d3, .int .i64 e3]] v fun e w' => e = .returned (.int .i64 pp) ∧ Below v.heap.size v w') (hne : ¬ (n1 = n2 ∧ d1 = d2 ∧ e1 = e2)) (xn yn : Bool) (xd yd : ByteArray) (xe ye ec fc : Int) (a1 : addP ⟨n1, d1, e1⟩ ⟨n3, d3, e3⟩ = (⟨xn, xd, xe⟩, ec)) (a2 : addP ⟨n2, d2, e2⟩ ⟨n3, d3, e3⟩ = (⟨yn, yd, ye⟩, fc)) (hec : ec = 0 ∨ ec = 4) (hfc : fc = 0 ∨ fc = 4) (c6 : ec = 0 → fc = 0 → ∀ v, Calls Tryd.prog 15 #[.agg #[.bool xn, .string xd, .int .i64 xe], .agg #[.bool yn, .string yd, .int .i64 ye]] v fun e w' => e = .returned (.int .i64 (-1)) ∧ Below v.heap.size v w') (ht : TabB w) :
    Calls Tryd.prog 6 #[.agg #[.bool n1, .string d1, .int .i64 e1], .agg #[.bool n2, .string d2, .int .i64 e2], .agg #[.bool n3, .string d3, .int .i64 e3]] w fun e w' => e = .returned (.bool true) ∧ Below w.heap.size w w' := by
  have HS1 := Lib.hid (fun v => Sane_all v n1 d1 e1)
  have HS2 := Lib.hid (fun v => Sane_all v n2 d2 e2)
  have HS3 := Lib.hid (fun v => Sane_all v n3 d3 e3)
  obtain ⟨z11, z12, z13⟩ := dsane_any h1
  obtain ⟨z21, z22, z23⟩ := dsane_any h2
  obtain ⟨z31, z32, z33⟩ := dsane_any h3
  have HA1 := Lib.hid (fun v => Add_pair v n1 d1 e1 n3 d3 e3 (by omega) (by omega))
  have HA2 := Lib.hid (fun v => Add_pair v n2 d2 e2 n3 d3 e3 (by omega) (by omega))
  rw [a1] at HA1
  rw [a2] at HA2
  have HN1 := Lib.hid (fun v => Neg_any v n1 d1 e1 (by omega))
  have HN2 := Lib.hid (fun v => Neg_any v n2 d2 e2 (by omega))
  rw [q1] at HN1
  rw [q2] at HN2
  rw [h1] at HS1
  rw [h2] at HS2
  rw [h3] at HS3
  have HC1 := Lib.hid c1
  have HC2 := Lib.hid c2
  have HC3 := Lib.hid c3
  have HC4 := Lib.hid c4
  have HC6 := Lib.hid c6
  have HEc := Lib.hid hec
  have HFc := Lib.hid hfc
  have HNe := Lib.hid hne
  have dp : decide (pp < 0) = false := decide_eq_false hpp
  have HDp := Lib.hid dp
  clear a1 a2 q1 q2 h2 z21 z22 z23 hne h1 h3 z11 z12 z13 z31 z32 z33 c6 hec hfc c1 c2 c3 c4 dp hpp
  obtain ⟨wa, hwa, r1, r2, r3, hB⟩ := rows3_at w n1 n2 n3 d1 d2 d3 e1 e2 e3
  have HW := Lib.hid hwa
  have HB := Lib.hid hB
  have HRa := Lib.hid r1
  have HRb := Lib.hid r2
  have HRc := Lib.hid r3
  have HT := Lib.hid (TabB.below ht hB)
  clear hwa hB r1 r2 r3 ht
  go_enter Tryd.func6, Tryd.ntmps6
  go_upto_region 1 with fail
  rw [← HW.out]
  clear HW
  go_wp2_with fail
  with_reducible refine (awake_any _ HT.out).mono ?_
  rintro e u1 ⟨rfl, hb⟩
  have R2 := Lib.hid ((hb.block _ (lt_of_block HRa.out)).trans HRa.out)
  have R3 := Lib.hid ((hb.block _ (lt_of_block HRb.out)).trans HRb.out)
  have R4 := Lib.hid ((hb.block _ (lt_of_block HRc.out)).trans HRc.out)
  have X5 := Lib.hid (TabB.below HT.out hb)
  have B6 := Lib.hid (HB.out.trans (hb.mono HB.out.size))
  clear hb HRa HRb HRc HT HB
  obtain ⟨⟨c7, c8, c9⟩, _⟩ := row3 R2.out
  go_wp2_with fail
  clear c7 c8 c9
  with_reducible refine (HS1.out _).mono ?_
  rintro e u10 ⟨rfl, hb⟩
  have R11 := Lib.hid ((hb.block _ (lt_of_block R2.out)).trans R2.out)
  have R12 := Lib.hid ((hb.block _ (lt_of_block R3.out)).trans R3.out)
  have R13 := Lib.hid ((hb.block _ (lt_of_block R4.out)).trans R4.out)
  have X14 := Lib.hid (TabB.below X5.out hb)
  have B15 := Lib.hid (B6.out.trans (hb.mono B6.out.size))
  clear hb R2 R3 R4 X5 B6
  obtain ⟨⟨c16, c17, c18⟩, _⟩ := row3 R12.out
  go_wp2_with fail
  clear c16 c17 c18
  with_reducible refine (HS2.out _).mono ?_
  rintro e u19 ⟨rfl, hb⟩
  have R20 := Lib.hid ((hb.block _ (lt_of_block R11.out)).trans R11.out)
  have R21 := Lib.hid ((hb.block _ (lt_of_block R12.out)).trans R12.out)
  have R22 := Lib.hid ((hb.block _ (lt_of_block R13.out)).trans R13.out)
  have X23 := Lib.hid (TabB.below X14.out hb)
  have B24 := Lib.hid (B15.out.trans (hb.mono B15.out.size))
  clear hb R11 R12 R13 X14 B15
  obtain ⟨⟨c25, c26, c27⟩, _⟩ := row3 R22.out
  go_wp2_with fail
  clear c25 c26 c27
  with_reducible refine (HS3.out _).mono ?_
  rintro e u28 ⟨rfl, hb⟩
  have R29 := Lib.hid ((hb.block _ (lt_of_block R20.out)).trans R20.out)
  have R30 := Lib.hid ((hb.block _ (lt_of_block R21.out)).trans R21.out)
  have R31 := Lib.hid ((hb.block _ (lt_of_block R22.out)).trans R22.out)
  have X32 := Lib.hid (TabB.below X23.out hb)
  have B33 := Lib.hid (B24.out.trans (hb.mono B24.out.size))
  clear hb R20 R21 R22 X23 B24
  obtain ⟨⟨c34, c35, c36⟩, _⟩ := row3 R29.out
  obtain ⟨⟨c37, c38, c39⟩, _⟩ := row3 R30.out
  go_wp2_with fail
  clear c34 c35 c36 c37 c38 c39
  with_reducible refine (HC1.out _).mono ?_
  rintro e u40 ⟨rfl, hb⟩
  have R41 := Lib.hid ((hb.block _ (lt_of_block R29.out)).trans R29.out)
  have R42 := Lib.hid ((hb.block _ (lt_of_block R30.out)).trans R30.out)
  have R43 := Lib.hid ((hb.block _ (lt_of_block R31.out)).trans R31.out)
  have X44 := Lib.hid (TabB.below X32.out hb)
  have B45 := Lib.hid (B33.out.trans (hb.mono B33.out.size))
  clear hb R29 R30 R31 X32 B33
  obtain ⟨⟨c46, c47, c48⟩, _⟩ := row3 R41.out
  obtain ⟨⟨c49, c50, c51⟩, _⟩ := row3 R43.out
  go_wp2_with fail
  clear c46 c47 c48 c49 c50 c51
  with_reducible refine (HA1.out _).mono ?_
  rintro e u52 ⟨rfl, hb⟩
  have R53 := Lib.hid ((hb.block _ (lt_of_block R41.out)).trans R41.out)
  have R54 := Lib.hid ((hb.block _ (lt_of_block R42.out)).trans R42.out)
  have R55 := Lib.hid ((hb.block _ (lt_of_block R43.out)).trans R43.out)
  have X56 := Lib.hid (TabB.below X44.out hb)
  have B57 := Lib.hid (B45.out.trans (hb.mono B45.out.size))
  clear hb R41 R42 R43 X44 B45
  unfold pairV
  obtain ⟨u58, hwv, hr, hb⟩ := boxed3 u52 (.bool xn) (.string xd) (.int .i64 xe)
  have R59 := Lib.hid ((hb.block _ (lt_of_block R53.out)).trans R53.out)
  have R60 := Lib.hid ((hb.block _ (lt_of_block R54.out)).trans R54.out)
  have R61 := Lib.hid ((hb.block _ (lt_of_block R55.out)).trans R55.out)
  have X62 := Lib.hid (TabB.below X56.out hb)
  have B63 := Lib.hid (B57.out.trans (hb.mono B57.out.size))
  have R64 := Lib.hid hr
  have HYW := Lib.hid hwv
  clear hb hr hwv R53 R54 R55 X56 B57
  go_upto_region 6 with fail
  rw [← HYW.out]
  clear HYW
  obtain ⟨⟨c65, c66, c67⟩, _⟩ := row3 R60.out
  obtain ⟨⟨c68, c69, c70⟩, _⟩ := row3 R61.out
  go_wp2_with fail
  clear c65 c66 c67 c68 c69 c70
  with_reducible refine (HA2.out _).mono ?_
  rintro e u71 ⟨rfl, hb⟩
  have R72 := Lib.hid ((hb.block _ (lt_of_block R59.out)).trans R59.out)
  have R73 := Lib.hid ((hb.block _ (lt_of_block R60.out)).trans R60.out)
  have R74 := Lib.hid ((hb.block _ (lt_of_block R61.out)).trans R61.out)
  have R75 := Lib.hid ((hb.block _ (lt_of_block R64.out)).trans R64.out)
  have X76 := Lib.hid (TabB.below X62.out hb)
  have B77 := Lib.hid (B63.out.trans (hb.mono B63.out.size))
  clear hb R59 R60 R61 R64 X62 B63
  unfold pairV
  obtain ⟨u78, hwv, hr, hb⟩ := boxed3 u71 (.bool yn) (.string yd) (.int .i64 ye)
  have R79 := Lib.hid ((hb.block _ (lt_of_block R72.out)).trans R72.out)
  have R80 := Lib.hid ((hb.block _ (lt_of_block R73.out)).trans R73.out)
  have R81 := Lib.hid ((hb.block _ (lt_of_block R74.out)).trans R74.out)
  have R82 := Lib.hid ((hb.block _ (lt_of_block R75.out)).trans R75.out)
  have X83 := Lib.hid (TabB.below X76.out hb)
  have B84 := Lib.hid (B77.out.trans (hb.mono B77.out.size))
  have R85 := Lib.hid hr
  have HYW := Lib.hid hwv
  clear hb hr hwv R72 R73 R74 R75 X76 B77
  go_upto_region 7 with fail
  rw [← HYW.out]
  clear HYW
  have wz : IntKind.i64.wrap (-1) = (-1) := by rw [IntKind.wrap_i64]; decide
  have wy : IntKind.i64.wrap 1 = 1 := by rw [IntKind.wrap_i64]; decide
  have hbd : Below u78.heap.size u78 u78.drew := (Below.refl _ _).drew
  have R86 := Lib.hid ((hbd.block _ (lt_of_block R79.out)).trans R79.out)
  have R87 := Lib.hid ((hbd.block _ (lt_of_block R80.out)).trans R80.out)
  have R88 := Lib.hid ((hbd.block _ (lt_of_block R81.out)).trans R81.out)
  have R89 := Lib.hid ((hbd.block _ (lt_of_block R82.out)).trans R82.out)
  have R90 := Lib.hid ((hbd.block _ (lt_of_block R85.out)).trans R85.out)
  have X91 := Lib.hid (TabB.below X83.out hbd)
  have B92 := Lib.hid (B84.out.trans (hbd.mono B84.out.size))
  clear hbd R79 R80 R81 R82 R85 X83 B84
  have hT0 : (fun W : World => Below u78.drew.heap.size u78.drew W) u78.drew := Below.refl _ _
  refine wp_region_held_drew (S := (fun W : World => Below u78.drew.heap.size u78.drew W)) (by kernel_rfl) hT0 (fun hHeld => ?_)
  clear hHeld
  generalize u78.drew = wd at B92 R86 R87 R88 R89 R90 X91 hT0 ⊢
  refine wpAnyH_take (i := 0) (oi := { dst := some 43, op := Op.move (Operand.tmp 8), type := 3, pos := "law.go:103", after := #[], guard := none }) (v := ?_) rfl (by kernel_rfl) (by kernel_rfl) (by kernel_rfl) (fun _ _ _ h => h) (Or.inl ⟨by rfl, ?_⟩) (by assumption) ?_
  rotate_left
  · intro w hSw
    try dsimp only at hSw
    go_simp
    try with_reducible rfl
  try simp only [Act.put, List.setIfInBounds_toArray, List.set_cons_zero, List.set_cons_succ]
  refine wpAnyH_take (i := 1) (oi := { dst := some 44, op := Op.load 23 (Operand.tmp 4), type := 23, pos := "law.go:103", after := #[], guard := none }) (v := ?_) rfl (by kernel_rfl) (by kernel_rfl) (by kernel_rfl) (fun _ _ _ h => h) (Or.inl ⟨by rfl, ?_⟩) (by assumption) ?_
  rotate_left
  · intro w hSw
    try dsimp only at hSw
    obtain ⟨⟨c0, c1, c2⟩, _⟩ := row3 ((hSw.block _ (lt_of_block R87.out)).trans R87.out)
    go_simp
    try with_reducible rfl
  try simp only [Act.put, List.setIfInBounds_toArray, List.set_cons_zero, List.set_cons_succ]
  refine wpAnyH_take (i := 2) (oi := { dst := some 45, op := Op.load 23 (Operand.tmp 3), type := 23, pos := "law.go:103", after := #[], guard := none }) (v := ?_) rfl (by kernel_rfl) (by kernel_rfl) (by kernel_rfl) (fun _ _ _ h => h) (Or.inl ⟨by rfl, ?_⟩) (by assumption) ?_
  rotate_left
  · intro w hSw
    try dsimp only at hSw
    obtain ⟨⟨c0, c1, c2⟩, _⟩ := row3 ((hSw.block _ (lt_of_block R86.out)).trans R86.out)
    go_simp
    try with_reducible rfl
  try simp only [Act.put, List.setIfInBounds_toArray, List.set_cons_zero, List.set_cons_succ]
  refine wpAnyH_ready (rs := [3]) (by kernel_rfl) (by simp) ?_
  refine AllReadyH.cons (o := { dst := some 46, op := Op.call { callee := Callee.value (Operand.func 15), args := #[Operand.tmp 44, Operand.tmp 45], argTypes := #[23, 23] }, type := 3, pos := "law.go:103", after := #[{ on := 1, ground := Ground.data }, { on := 2, ground := Ground.data }], guard := none }) rfl (fun K hK => ?_) AllReadyH.nil
  go_simp
  with_reducible refine (HC2.out _).mono ?_
  rintro e wq1 ⟨rfl, hb⟩
  have hT1 : (fun W : World => Below wd.heap.size wd W) wq1 := hT0.trans (hb.mono hT0.size)
  refine hK.out _ _ hT1 (fun _ => ?_)
  clear hK K hb
  try simp only [Act.put, List.setIfInBounds_toArray, List.set_cons_zero, List.set_cons_succ]
  refine wpAnyH_take (i := 4) (oi := { dst := some 47, op := Op.unOp UnOp.neg 3 (Operand.tmp 46), type := 3, pos := "law.go:103", after := #[{ on := 3, ground := Ground.data }], guard := none }) (v := ?_) rfl (by kernel_rfl) (by kernel_rfl) (by kernel_rfl) (fun _ _ _ h => h) (Or.inl ⟨by rfl, ?_⟩) (by assumption) ?_
  rotate_left
  · intro w hSw
    try dsimp only at hSw
    go_simp
    try with_reducible rfl
  try simp only [Act.put, List.setIfInBounds_toArray, List.set_cons_zero, List.set_cons_succ]
  refine wpAnyH_take (i := 5) (oi := { dst := some 48, op := Op.binOp BinOp.neq 3 (Operand.tmp 43) (Operand.tmp 47) 3, type := 4, pos := "law.go:103", after := #[{ on := 0, ground := Ground.data }, { on := 4, ground := Ground.data }], guard := none }) (v := ?_) rfl (by kernel_rfl) (by kernel_rfl) (by kernel_rfl) (fun _ _ _ h => h) (Or.inl ⟨by rfl, ?_⟩) (by assumption) ?_
  rotate_left
  · intro w hSw
    try dsimp only at hSw
    go_simp
    try with_reducible rfl
  try simp only [Act.put, List.setIfInBounds_toArray, List.set_cons_zero, List.set_cons_succ]
  refine wpAnyH_take (i := 6) (oi := { dst := some 49, op := Op.move (Operand.tmp 48), type := 4, pos := "law.go:103", after := #[{ on := 5, ground := Ground.data }, { on := 3, ground := Ground.chain }], guard := none }) (v := ?_) rfl (by kernel_rfl) (by kernel_rfl) (by kernel_rfl) (fun _ _ _ h => h) (Or.inl ⟨by rfl, ?_⟩) (by assumption) ?_
  rotate_left
  · intro w hSw
    try dsimp only at hSw
    go_simp
    try with_reducible rfl
  try simp only [Act.put, List.setIfInBounds_toArray, List.set_cons_zero, List.set_cons_succ]
  refine wpAnyH_take (i := 7) (oi := { dst := some 50, op := Op.move (Operand.tmp 8), type := 3, pos := "law.go:103", after := #[{ on := 6, ground := Ground.guard }], guard := some (6, false) }) (v := ?_) rfl (by kernel_rfl) (by kernel_rfl) (by kernel_rfl) (fun _ _ _ h => h) (Or.inl ⟨by rfl, ?_⟩) (by assumption) ?_
  rotate_left
  · intro w hSw
    try dsimp only at hSw
    go_simp
    try with_reducible rfl
  try simp only [Act.put, List.setIfInBounds_toArray, List.set_cons_zero, List.set_cons_succ]
  refine wpAnyH_take (i := 8) (oi := { dst := some 51, op := Op.binOp BinOp.eql 3 (Operand.tmp 50) (Operand.const (Value.int IntKind.i64 0)) 3, type := 4, pos := "law.go:103", after := #[{ on := 7, ground := Ground.data }, { on := 6, ground := Ground.guard }], guard := some (6, false) }) (v := ?_) rfl (by kernel_rfl) (by kernel_rfl) (by kernel_rfl) (fun _ _ _ h => h) (Or.inl ⟨by rfl, ?_⟩) (by assumption) ?_
  rotate_left
  · intro w hSw
    try dsimp only at hSw
    go_simp
    try with_reducible rfl
  try simp only [Act.put, List.setIfInBounds_toArray, List.set_cons_zero, List.set_cons_succ]
  refine wpAnyH_take (i := 9) (oi := { dst := some 52, op := Op.load 23 (Operand.tmp 3), type := 23, pos := "law.go:103", after := #[{ on := 6, ground := Ground.guard }], guard := some (6, false) }) (v := ?_) rfl (by kernel_rfl) (by kernel_rfl) (by kernel_rfl) (fun _ _ _ h => h) (Or.inl ⟨by rfl, ?_⟩) (by assumption) ?_
  rotate_left
  · intro w hSw
    try dsimp only at hSw
    obtain ⟨⟨c0, c1, c2⟩, _⟩ := row3 ((hSw.block _ (lt_of_block R86.out)).trans R86.out)
    go_simp
    try with_reducible rfl
  try simp only [Act.put, List.setIfInBounds_toArray, List.set_cons_zero, List.set_cons_succ]
  refine wpAnyH_take (i := 10) (oi := { dst := some 53, op := Op.load 23 (Operand.tmp 4), type := 23, pos := "law.go:103", after := #[{ on := 6, ground := Ground.guard }], guard := some (6, false) }) (v := ?_) rfl (by kernel_rfl) (by kernel_rfl) (by kernel_rfl) (fun _ _ _ h => h) (Or.inl ⟨by rfl, ?_⟩) (by assumption) ?_
  rotate_left
  · intro w hSw
    try dsimp only at hSw
    obtain ⟨⟨c0, c1, c2⟩, _⟩ := row3 ((hSw.block _ (lt_of_block R87.out)).trans R87.out)
    go_simp
    try with_reducible rfl
  try simp only [Act.put, List.setIfInBounds_toArray, List.set_cons_zero, List.set_cons_succ]
  refine wpAnyH_take (i := 11) (oi := { dst := some 54, op := Op.binOp BinOp.eql 23 (Operand.tmp 52) (Operand.tmp 53) 23, type := 4, pos := "law.go:103", after := #[{ on := 9, ground := Ground.data }, { on := 10, ground := Ground.data }, { on := 6, ground := Ground.guard }], guard := some (6, false) }) (v := .bool false) rfl (by kernel_rfl) (by kernel_rfl) (by kernel_rfl) (fun _ _ _ h => h) (Or.inl ⟨by rfl, ?_⟩) (by assumption) ?_
  · intro w hSw
    try dsimp only at hSw
    go_simp
    exact fun a b c => HNe.out ⟨a, ba_ext b, c⟩
  try simp only [Act.put, List.setIfInBounds_toArray, List.set_cons_zero, List.set_cons_succ]
  refine wpAnyH_take (i := 12) (oi := { dst := some 55, op := Op.binOp BinOp.neq 4 (Operand.tmp 51) (Operand.tmp 54) 4, type := 4, pos := "law.go:103", after := #[{ on := 8, ground := Ground.data }, { on := 11, ground := Ground.data }, { on := 6, ground := Ground.guard }], guard := some (6, false) }) (v := ?_) rfl (by kernel_rfl) (by kernel_rfl) (by kernel_rfl) (fun _ _ _ h => h) (Or.inl ⟨by rfl, ?_⟩) (by assumption) ?_
  rotate_left
  · intro w hSw
    try dsimp only at hSw
    go_simp
    try with_reducible rfl
  try simp only [Act.put, List.setIfInBounds_toArray, List.set_cons_zero, List.set_cons_succ]
  refine wpAnyH_take (i := 13) (oi := { dst := some 56, op := Op.pick (Operand.tmp 49) (Operand.const (Value.bool true)) (Operand.tmp 55), type := 4, pos := "law.go:103", after := #[{ on := 6, ground := Ground.data }, { on := 12, ground := Ground.data }], guard := none }) (v := ?_) rfl (by kernel_rfl) (by kernel_rfl) (by kernel_rfl) (fun _ _ _ h => h) (Or.inl ⟨by rfl, ?_⟩) (by assumption) ?_
  rotate_left
  · intro w hSw
    try dsimp only at hSw
    go_simp
    try with_reducible rfl
  try simp only [Act.put, List.setIfInBounds_toArray, List.set_cons_zero, List.set_cons_succ]
  refine wpAnyH_take (i := 14) (oi := { dst := some 57, op := Op.move (Operand.tmp 56), type := 4, pos := "law.go:103", after := #[{ on := 13, ground := Ground.data }, { on := 6, ground := Ground.chain }], guard := none }) (v := ?_) rfl (by kernel_rfl) (by kernel_rfl) (by kernel_rfl) (fun _ _ _ h => h) (Or.inl ⟨by rfl, ?_⟩) (by assumption) ?_
  rotate_left
  · intro w hSw
    try dsimp only at hSw
    go_simp
    try with_reducible rfl
  try simp only [Act.put, List.setIfInBounds_toArray, List.set_cons_zero, List.set_cons_succ]
  refine wpAnyH_take (i := 15) (oi := { dst := some 58, op := Op.load 23 (Operand.tmp 3), type := 23, pos := "law.go:103", after := #[{ on := 14, ground := Ground.guard }], guard := some (14, false) }) (v := ?_) rfl (by kernel_rfl) (by kernel_rfl) (by kernel_rfl) (fun _ _ _ h => h) (Or.inl ⟨by rfl, ?_⟩) (by assumption) ?_
  rotate_left
  · intro w hSw
    try dsimp only at hSw
    obtain ⟨⟨c0, c1, c2⟩, _⟩ := row3 ((hSw.block _ (lt_of_block R86.out)).trans R86.out)
    go_simp
    try with_reducible rfl
  try simp only [Act.put, List.setIfInBounds_toArray, List.set_cons_zero, List.set_cons_succ]
  refine wpAnyH_take (i := 17) (oi := { dst := some 60, op := Op.load 23 (Operand.tmp 4), type := 23, pos := "law.go:103", after := #[{ on := 14, ground := Ground.guard }], guard := some (14, false) }) (v := ?_) rfl (by kernel_rfl) (by kernel_rfl) (by kernel_rfl) (fun _ _ _ h => h) (Or.inl ⟨by rfl, ?_⟩) (by assumption) ?_
  rotate_left
  · intro w hSw
    try dsimp only at hSw
    obtain ⟨⟨c0, c1, c2⟩, _⟩ := row3 ((hSw.block _ (lt_of_block R87.out)).trans R87.out)
    go_simp
    try with_reducible rfl
  try simp only [Act.put, List.setIfInBounds_toArray, List.set_cons_zero, List.set_cons_succ]
  refine wpAnyH_take (i := 20) (oi := { dst := some 63, op := Op.move (Operand.tmp 8), type := 3, pos := "law.go:103", after := #[{ on := 14, ground := Ground.guard }], guard := some (14, false) }) (v := ?_) rfl (by kernel_rfl) (by kernel_rfl) (by kernel_rfl) (fun _ _ _ h => h) (Or.inl ⟨by rfl, ?_⟩) (by assumption) ?_
  rotate_left
  · intro w hSw
    try dsimp only at hSw
    go_simp
    try with_reducible rfl
  try simp only [Act.put, List.setIfInBounds_toArray, List.set_cons_zero, List.set_cons_succ]
  refine wpAnyH_take (i := 21) (oi := { dst := some 64, op := Op.unOp UnOp.neg 3 (Operand.tmp 63), type := 3, pos := "law.go:103", after := #[{ on := 20, ground := Ground.data }, { on := 14, ground := Ground.guard }], guard := some (14, false) }) (v := ?_) rfl (by kernel_rfl) (by kernel_rfl) (by kernel_rfl) (fun _ _ _ h => h) (Or.inl ⟨by rfl, ?_⟩) (by assumption) ?_
  rotate_left
  · intro w hSw
    try dsimp only at hSw
    go_simp
    try with_reducible rfl
  try simp only [Act.put, List.setIfInBounds_toArray, List.set_cons_zero, List.set_cons_succ]
  refine wpAnyH_ready (rs := [16]) (by kernel_rfl) (by simp) ?_
  refine AllReadyH.cons (o := { dst := some 59, op := Op.call { callee := Callee.value (Operand.func 20), args := #[Operand.tmp 58], argTypes := #[23] }, type := 23, pos := "law.go:103", after := #[{ on := 15, ground := Ground.data }, { on := 14, ground := Ground.chain }, { on := 14, ground := Ground.guard }], guard := some (14, false) }) rfl (fun K hK => ?_) AllReadyH.nil
  go_simp
  with_reducible refine (HN1.out _).mono ?_
  rintro e wq2 ⟨rfl, hb⟩
  have hT2 : (fun W : World => Below wd.heap.size wd W) wq2 := hT1.trans (hb.mono hT1.size)
  refine hK.out _ _ hT2 (fun _ => ?_)
  clear hK K hb
  try simp only [Act.put, List.setIfInBounds_toArray, List.set_cons_zero, List.set_cons_succ]
  refine wpAnyH_ready (rs := [18]) (by kernel_rfl) (by simp) ?_
  refine AllReadyH.cons (o := { dst := some 61, op := Op.call { callee := Callee.value (Operand.func 20), args := #[Operand.tmp 60], argTypes := #[23] }, type := 23, pos := "law.go:103", after := #[{ on := 17, ground := Ground.data }, { on := 16, ground := Ground.chain }, { on := 14, ground := Ground.guard }], guard := some (14, false) }) rfl (fun K hK => ?_) AllReadyH.nil
  go_simp
  with_reducible refine (HN2.out _).mono ?_
  rintro e wq3 ⟨rfl, hb⟩
  have hT3 : (fun W : World => Below wd.heap.size wd W) wq3 := hT2.trans (hb.mono hT2.size)
  refine hK.out _ _ hT3 (fun _ => ?_)
  clear hK K hb
  try simp only [Act.put, List.setIfInBounds_toArray, List.set_cons_zero, List.set_cons_succ]
  refine wpAnyH_ready (rs := [19]) (by kernel_rfl) (by simp) ?_
  refine AllReadyH.cons (o := { dst := some 62, op := Op.call { callee := Callee.value (Operand.func 15), args := #[Operand.tmp 59, Operand.tmp 61], argTypes := #[23, 23] }, type := 3, pos := "law.go:103", after := #[{ on := 16, ground := Ground.data }, { on := 18, ground := Ground.data }, { on := 18, ground := Ground.chain }, { on := 14, ground := Ground.guard }], guard := some (14, false) }) rfl (fun K hK => ?_) AllReadyH.nil
  go_simp
  with_reducible refine (HC3.out _).mono ?_
  rintro e wq4 ⟨rfl, hb⟩
  have hT4 : (fun W : World => Below wd.heap.size wd W) wq4 := hT3.trans (hb.mono hT3.size)
  refine hK.out _ _ hT4 (fun _ => ?_)
  clear hK K hb
  try simp only [Act.put, List.setIfInBounds_toArray, List.set_cons_zero, List.set_cons_succ]
  refine wpAnyH_take (i := 22) (oi := { dst := some 65, op := Op.binOp BinOp.neq 3 (Operand.tmp 62) (Operand.tmp 64) 3, type := 4, pos := "law.go:103", after := #[{ on := 19, ground := Ground.data }, { on := 21, ground := Ground.data }, { on := 14, ground := Ground.guard }], guard := some (14, false) }) (v := ?_) rfl (by kernel_rfl) (by kernel_rfl) (by kernel_rfl) (fun _ _ _ h => h) (Or.inl ⟨by rfl, ?_⟩) (by assumption) ?_
  rotate_left
  · intro w hSw
    try dsimp only at hSw
    go_simp
    try with_reducible rfl
  try simp only [Act.put, List.setIfInBounds_toArray, List.set_cons_zero, List.set_cons_succ]
  refine wpAnyH_take (i := 23) (oi := { dst := some 66, op := Op.pick (Operand.tmp 57) (Operand.const (Value.bool true)) (Operand.tmp 65), type := 4, pos := "law.go:103", after := #[{ on := 14, ground := Ground.data }, { on := 22, ground := Ground.data }], guard := none }) (v := ?_) rfl (by kernel_rfl) (by kernel_rfl) (by kernel_rfl) (fun _ _ _ h => h) (Or.inl ⟨by rfl, ?_⟩) (by assumption) ?_
  rotate_left
  · intro w hSw
    try dsimp only at hSw
    go_simp
    try with_reducible rfl
  try simp only [Act.put, List.setIfInBounds_toArray, List.set_cons_zero, List.set_cons_succ]
  refine wpAnyH_done (by kernel_rfl) ?_ _
  have R93 := Lib.hid ((hT4.block _ (lt_of_block R86.out)).trans R86.out)
  have R94 := Lib.hid ((hT4.block _ (lt_of_block R87.out)).trans R87.out)
  have R95 := Lib.hid ((hT4.block _ (lt_of_block R88.out)).trans R88.out)
  have R96 := Lib.hid ((hT4.block _ (lt_of_block R89.out)).trans R89.out)
  have R97 := Lib.hid ((hT4.block _ (lt_of_block R90.out)).trans R90.out)
  have X98 := Lib.hid (TabB.below X91.out hT4)
  have B99 := Lib.hid (B92.out.trans (hT4.mono B92.out.size))
  clear hT0 hT1 hT2 hT3 hT4 R86 R87 R88 R89 R90 X91 B92
  obtain ⟨⟨c100, c101, c102⟩, _⟩ := row3 R94.out
  obtain ⟨⟨c103, c104, c105⟩, _⟩ := row3 R95.out
  go_wp2_with fail
  clear c100 c101 c102 c103 c104 c105
  with_reducible refine (HC4.out _).mono ?_
  rintro e u106 ⟨rfl, hb⟩
  have R107 := Lib.hid ((hb.block _ (lt_of_block R93.out)).trans R93.out)
  have R108 := Lib.hid ((hb.block _ (lt_of_block R94.out)).trans R94.out)
  have R109 := Lib.hid ((hb.block _ (lt_of_block R95.out)).trans R95.out)
  have R110 := Lib.hid ((hb.block _ (lt_of_block R96.out)).trans R96.out)
  have R111 := Lib.hid ((hb.block _ (lt_of_block R97.out)).trans R97.out)
  have X112 := Lib.hid (TabB.below X98.out hb)
  have B113 := Lib.hid (B99.out.trans (hb.mono B99.out.size))
  clear hb R93 R94 R95 R96 R97 X98 B99
  have dp := HDp.out
  rcases HEc.out with rfl | rfl
  · rcases HFc.out with rfl | rfl
    · obtain ⟨⟨c114, c115, c116⟩, _⟩ := row3 R110.out
      obtain ⟨⟨c117, c118, c119⟩, _⟩ := row3 R111.out
      go_wp2_with fail
      clear c114 c115 c116 c117 c118 c119
      with_reducible refine (HC6.out (by trivial) (by trivial) _).mono ?_
      rintro e u120 ⟨rfl, hb⟩
      have R121 := Lib.hid ((hb.block _ (lt_of_block R107.out)).trans R107.out)
      have R122 := Lib.hid ((hb.block _ (lt_of_block R108.out)).trans R108.out)
      have R123 := Lib.hid ((hb.block _ (lt_of_block R109.out)).trans R109.out)
      have R124 := Lib.hid ((hb.block _ (lt_of_block R110.out)).trans R110.out)
      have R125 := Lib.hid ((hb.block _ (lt_of_block R111.out)).trans R111.out)
      have X126 := Lib.hid (TabB.below X112.out hb)
      have B127 := Lib.hid (B113.out.trans (hb.mono B113.out.size))
      clear hb R107 R108 R109 R110 R111 X112 B113
      go_wp2_with fail
      go_ret
      exact ⟨rfl, B127.out⟩
    · go_wp2_with fail
      go_ret
      exact ⟨rfl, B113.out⟩
  · go_wp2_with fail
    go_ret
    exact ⟨rfl, B113.out⟩
end Go.Proofs.YtpnhgggdjlglnaaDoor.dk
