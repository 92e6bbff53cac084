/- DecReckons answers true for every two numbers. -/
import Derived.Test.YtpnhgggdjlglnaaDoorRd
import Derived.Test.YtpnhgggdjlglnaaDoorR8
import Derived.Test.YtpnhgggdjlglnaaDoorF0
namespace Go.Proofs.YtpnhgggdjlglnaaDoor.dk
open Go.PlainAid Go.ChangeShapes Go.WideShapes Go.ChangeAt Go.RowKit

set_option maxRecDepth 100000 in
set_option maxHeartbeats 4000000 in
theorem reckons_long1 (w : World) (n1 n2 : Bool) (d1 d2 : ByteArray) (e1 e2 : Int) (h1 : 200 < d1.size) (ht : TabB w) :
    Calls Tryd.prog 3 #[.agg #[.bool n1, .string d1, .int .i64 e1], .agg #[.bool n2, .string d2, .int .i64 e2]] w fun e w' => e = .returned (.bool true) ∧ Below w.heap.size w w' := by
  have g1 : decide ((200 : Int) < (d1.size : Int)) = true := decide_eq_true (by omega)
  have g1n : decide (200 < d1.size) = true := decide_eq_true h1
  clear h1
  obtain ⟨wa, hwa, r1, r2, hB⟩ := two_rows_at w n1 n2 d1 d2 e1 e2
  have HW := Lib.hid hwa
  have HB := Lib.hid hB
  have HRa := Lib.hid r1
  have HRb := Lib.hid r2
  have HT := Lib.hid (TabB.below ht hB)
  clear hwa hB r1 r2 ht
  go_enter Tryd.func3, Tryd.ntmps3
  go_upto_region 1 with fail
  rw [← HW.out]
  clear HW
  go_wp2_with fail
  with_reducible refine (awake_any _ HT.out).mono ?_
  rintro e u1 ⟨rfl, hb⟩
  have R2 := Lib.hid ((hb.block _ (lt_of_block HRa.out)).trans HRa.out)
  have R3 := Lib.hid ((hb.block _ (lt_of_block HRb.out)).trans HRb.out)
  have X4 := Lib.hid (TabB.below HT.out hb)
  have B5 := Lib.hid (HB.out.trans (hb.mono HB.out.size))
  clear hb HRa HRb HT HB
  obtain ⟨⟨c6, c7, c8⟩, _⟩ := row3 R2.out
  obtain ⟨⟨c9, c10, c11⟩, _⟩ := row3 R3.out
  go_wp2_with fail
  go_ret
  exact ⟨rfl, B5.out⟩
set_option maxRecDepth 100000 in
set_option maxHeartbeats 4000000 in
theorem reckons_long2 (w : World) (n1 n2 : Bool) (d1 d2 : ByteArray) (e1 e2 : Int) (h1 : ¬ 200 < d1.size) (h2 : 200 < d2.size) (ht : TabB w) :
    Calls Tryd.prog 3 #[.agg #[.bool n1, .string d1, .int .i64 e1], .agg #[.bool n2, .string d2, .int .i64 e2]] w fun e w' => e = .returned (.bool true) ∧ Below w.heap.size w w' := by
  have g1 : decide ((200 : Int) < (d1.size : Int)) = false := decide_eq_false (by omega)
  have g1n : decide (200 < d1.size) = false := decide_eq_false h1
  have g2 : decide ((200 : Int) < (d2.size : Int)) = true := decide_eq_true (by omega)
  have g2n : decide (200 < d2.size) = true := decide_eq_true h2
  clear h1 h2
  obtain ⟨wa, hwa, r1, r2, hB⟩ := two_rows_at w n1 n2 d1 d2 e1 e2
  have HW := Lib.hid hwa
  have HB := Lib.hid hB
  have HRa := Lib.hid r1
  have HRb := Lib.hid r2
  have HT := Lib.hid (TabB.below ht hB)
  clear hwa hB r1 r2 ht
  go_enter Tryd.func3, Tryd.ntmps3
  go_upto_region 1 with fail
  rw [← HW.out]
  clear HW
  go_wp2_with fail
  with_reducible refine (awake_any _ HT.out).mono ?_
  rintro e u1 ⟨rfl, hb⟩
  have R2 := Lib.hid ((hb.block _ (lt_of_block HRa.out)).trans HRa.out)
  have R3 := Lib.hid ((hb.block _ (lt_of_block HRb.out)).trans HRb.out)
  have X4 := Lib.hid (TabB.below HT.out hb)
  have B5 := Lib.hid (HB.out.trans (hb.mono HB.out.size))
  clear hb HRa HRb HT HB
  obtain ⟨⟨c6, c7, c8⟩, _⟩ := row3 R2.out
  obtain ⟨⟨c9, c10, c11⟩, _⟩ := row3 R3.out
  go_wp2_with fail
  go_ret
  exact ⟨rfl, B5.out⟩
set_option maxRecDepth 100000 in
set_option maxHeartbeats 4000000 in
theorem reckons_short (w : World) (n1 n2 : Bool) (d1 d2 : ByteArray) (e1 e2 : Int) (h1 : ¬ 200 < d1.size) (h2 : ¬ 200 < d2.size) (ht : TabB w) :
    Calls Tryd.prog 3 #[.agg #[.bool n1, .string d1, .int .i64 e1], .agg #[.bool n2, .string d2, .int .i64 e2]] w fun e w' => e = .returned (.bool true) ∧ Below w.heap.size w w' := by
  have g1 : decide ((200 : Int) < (d1.size : Int)) = false := decide_eq_false (by omega)
  have g1n : decide (200 < d1.size) = false := decide_eq_false h1
  have g2 : decide ((200 : Int) < (d2.size : Int)) = false := decide_eq_false (by omega)
  have g2n : decide (200 < d2.size) = false := decide_eq_false h2
  have hA := fun v => Add_pair v n1 d1 e1 n2 d2 e2 (by omega) (by omega)
  have hB' := fun v => AddR_pair v n1 d1 e1 n2 d2 e2 (by omega) (by omega)
  have hC := fun v => Mul_pair v n1 d1 e1 n2 d2 e2 (by omega) (by omega)
  have hD := fun v => MulR_pair v n1 d1 e1 n2 d2 e2 (by omega) (by omega)
  have hE := fun v => Compare_any v n1 n2 d1 d2 e1 e2 (by omega) (by omega)
  have hF := fun v => CompareR v n1 d1 e1 n2 d2 e2 (by omega) (by omega)
  generalize addP ⟨n1, d1, e1⟩ ⟨n2, d2, e2⟩ = P at hA hB'
  generalize mulP ⟨n1, d1, e1⟩ ⟨n2, d2, e2⟩ = Q at hC hD
  generalize cmpD n1 d1 e1 n2 d2 e2 = cc at hE hF
  obtain ⟨⟨xn, xd, xe⟩, ec⟩ := P
  obtain ⟨⟨zn, zd, ze⟩, gc⟩ := Q
  have HA := Lib.hid hA
  have HA2 := Lib.hid hB'
  have HM := Lib.hid hC
  have HM2 := Lib.hid hD
  have HC := Lib.hid hE
  have HC2 := Lib.hid hF
  clear hA hB' hC hD hE hF h1 h2
  obtain ⟨wa, hwa, r1, r2, hB⟩ := two_rows_at w n1 n2 d1 d2 e1 e2
  have HW := Lib.hid hwa
  have HB := Lib.hid hB
  have HRa := Lib.hid r1
  have HRb := Lib.hid r2
  have HT := Lib.hid (TabB.below ht hB)
  clear hwa hB r1 r2 ht
  go_enter Tryd.func3, Tryd.ntmps3
  go_upto_region 1 with fail
  rw [← HW.out]
  clear HW
  go_wp2_with fail
  with_reducible refine (awake_any _ HT.out).mono ?_
  rintro e u1 ⟨rfl, hb⟩
  have R2 := Lib.hid ((hb.block _ (lt_of_block HRa.out)).trans HRa.out)
  have R3 := Lib.hid ((hb.block _ (lt_of_block HRb.out)).trans HRb.out)
  have X4 := Lib.hid (TabB.below HT.out hb)
  have B5 := Lib.hid (HB.out.trans (hb.mono HB.out.size))
  clear hb HRa HRb HT HB
  obtain ⟨⟨c6, c7, c8⟩, _⟩ := row3 R2.out
  obtain ⟨⟨c9, c10, c11⟩, _⟩ := row3 R3.out
  go_wp2_with fail
  clear c6 c7 c8 c9 c10 c11
  with_reducible refine (HA.out _).mono ?_
  rintro e u12 ⟨rfl, hb⟩
  have R13 := Lib.hid ((hb.block _ (lt_of_block R2.out)).trans R2.out)
  have R14 := Lib.hid ((hb.block _ (lt_of_block R3.out)).trans R3.out)
  have X15 := Lib.hid (TabB.below X4.out hb)
  have B16 := Lib.hid (B5.out.trans (hb.mono B5.out.size))
  clear hb R2 R3 X4 B5
  unfold pairV
  obtain ⟨u17, hwv, hr, hb⟩ := boxed3 u12 (.bool xn) (.string xd) (.int .i64 xe)
  have R18 := Lib.hid ((hb.block _ (lt_of_block R13.out)).trans R13.out)
  have R19 := Lib.hid ((hb.block _ (lt_of_block R14.out)).trans R14.out)
  have X20 := Lib.hid (TabB.below X15.out hb)
  have B21 := Lib.hid (B16.out.trans (hb.mono B16.out.size))
  have R22 := Lib.hid hr
  have HYW := Lib.hid hwv
  clear hb hr hwv R13 R14 X15 B16
  go_upto_region 5 with fail
  rw [← HYW.out]
  clear HYW
  obtain ⟨⟨c23, c24, c25⟩, _⟩ := row3 R18.out
  obtain ⟨⟨c26, c27, c28⟩, _⟩ := row3 R19.out
  go_wp2_with fail
  clear c23 c24 c25 c26 c27 c28
  with_reducible refine (HA2.out _).mono ?_
  rintro e u29 ⟨rfl, hb⟩
  have R30 := Lib.hid ((hb.block _ (lt_of_block R18.out)).trans R18.out)
  have R31 := Lib.hid ((hb.block _ (lt_of_block R19.out)).trans R19.out)
  have R32 := Lib.hid ((hb.block _ (lt_of_block R22.out)).trans R22.out)
  have X33 := Lib.hid (TabB.below X20.out hb)
  have B34 := Lib.hid (B21.out.trans (hb.mono B21.out.size))
  clear hb R18 R19 R22 X20 B21
  unfold pairV
  obtain ⟨u35, hwv, hr, hb⟩ := boxed3 u29 (.bool xn) (.string xd) (.int .i64 xe)
  have R36 := Lib.hid ((hb.block _ (lt_of_block R30.out)).trans R30.out)
  have R37 := Lib.hid ((hb.block _ (lt_of_block R31.out)).trans R31.out)
  have R38 := Lib.hid ((hb.block _ (lt_of_block R32.out)).trans R32.out)
  have X39 := Lib.hid (TabB.below X33.out hb)
  have B40 := Lib.hid (B34.out.trans (hb.mono B34.out.size))
  have R41 := Lib.hid hr
  have HYW := Lib.hid hwv
  clear hb hr hwv R30 R31 R32 X33 B34
  go_upto_region 6 with fail
  rw [← HYW.out]
  clear HYW
  obtain ⟨⟨c42, c43, c44⟩, _⟩ := row3 R36.out
  obtain ⟨⟨c45, c46, c47⟩, _⟩ := row3 R37.out
  go_wp2_with fail
  clear c42 c43 c44 c45 c46 c47
  with_reducible refine (HM.out _).mono ?_
  rintro e u48 ⟨rfl, hb⟩
  have R49 := Lib.hid ((hb.block _ (lt_of_block R36.out)).trans R36.out)
  have R50 := Lib.hid ((hb.block _ (lt_of_block R37.out)).trans R37.out)
  have R51 := Lib.hid ((hb.block _ (lt_of_block R38.out)).trans R38.out)
  have R52 := Lib.hid ((hb.block _ (lt_of_block R41.out)).trans R41.out)
  have X53 := Lib.hid (TabB.below X39.out hb)
  have B54 := Lib.hid (B40.out.trans (hb.mono B40.out.size))
  clear hb R36 R37 R38 R41 X39 B40
  unfold pairV
  obtain ⟨u55, hwv, hr, hb⟩ := boxed3 u48 (.bool zn) (.string zd) (.int .i64 ze)
  have R56 := Lib.hid ((hb.block _ (lt_of_block R49.out)).trans R49.out)
  have R57 := Lib.hid ((hb.block _ (lt_of_block R50.out)).trans R50.out)
  have R58 := Lib.hid ((hb.block _ (lt_of_block R51.out)).trans R51.out)
  have R59 := Lib.hid ((hb.block _ (lt_of_block R52.out)).trans R52.out)
  have X60 := Lib.hid (TabB.below X53.out hb)
  have B61 := Lib.hid (B54.out.trans (hb.mono B54.out.size))
  have R62 := Lib.hid hr
  have HYW := Lib.hid hwv
  clear hb hr hwv R49 R50 R51 R52 X53 B54
  go_upto_region 7 with fail
  rw [← HYW.out]
  clear HYW
  obtain ⟨⟨c63, c64, c65⟩, _⟩ := row3 R56.out
  obtain ⟨⟨c66, c67, c68⟩, _⟩ := row3 R57.out
  go_wp2_with fail
  clear c63 c64 c65 c66 c67 c68
  with_reducible refine (HM2.out _).mono ?_
  rintro e u69 ⟨rfl, hb⟩
  have R70 := Lib.hid ((hb.block _ (lt_of_block R56.out)).trans R56.out)
  have R71 := Lib.hid ((hb.block _ (lt_of_block R57.out)).trans R57.out)
  have R72 := Lib.hid ((hb.block _ (lt_of_block R58.out)).trans R58.out)
  have R73 := Lib.hid ((hb.block _ (lt_of_block R59.out)).trans R59.out)
  have R74 := Lib.hid ((hb.block _ (lt_of_block R62.out)).trans R62.out)
  have X75 := Lib.hid (TabB.below X60.out hb)
  have B76 := Lib.hid (B61.out.trans (hb.mono B61.out.size))
  clear hb R56 R57 R58 R59 R62 X60 B61
  unfold pairV
  obtain ⟨u77, hwv, hr, hb⟩ := boxed3 u69 (.bool zn) (.string zd) (.int .i64 ze)
  have R78 := Lib.hid ((hb.block _ (lt_of_block R70.out)).trans R70.out)
  have R79 := Lib.hid ((hb.block _ (lt_of_block R71.out)).trans R71.out)
  have R80 := Lib.hid ((hb.block _ (lt_of_block R72.out)).trans R72.out)
  have R81 := Lib.hid ((hb.block _ (lt_of_block R73.out)).trans R73.out)
  have R82 := Lib.hid ((hb.block _ (lt_of_block R74.out)).trans R74.out)
  have X83 := Lib.hid (TabB.below X75.out hb)
  have B84 := Lib.hid (B76.out.trans (hb.mono B76.out.size))
  have R85 := Lib.hid hr
  have HYW := Lib.hid hwv
  clear hb hr hwv R70 R71 R72 R73 R74 X75 B76
  go_upto_region 8 with fail
  rw [← HYW.out]
  clear HYW
  have hbd : Below u77.heap.size u77 u77.drew := (Below.refl _ _).drew
  have R86 := Lib.hid ((hbd.block _ (lt_of_block R78.out)).trans R78.out)
  have R87 := Lib.hid ((hbd.block _ (lt_of_block R79.out)).trans R79.out)
  have R88 := Lib.hid ((hbd.block _ (lt_of_block R80.out)).trans R80.out)
  have R89 := Lib.hid ((hbd.block _ (lt_of_block R81.out)).trans R81.out)
  have R90 := Lib.hid ((hbd.block _ (lt_of_block R82.out)).trans R82.out)
  have R91 := Lib.hid ((hbd.block _ (lt_of_block R85.out)).trans R85.out)
  have X92 := Lib.hid (TabB.below X83.out hbd)
  have B93 := Lib.hid (B84.out.trans (hbd.mono B84.out.size))
  clear hbd R78 R79 R80 R81 R82 R85 X83 B84
  have hT0 : (fun W : World => Below u77.drew.heap.size u77.drew W) u77.drew := Below.refl _ _
  refine wp_region_held_drew (S := (fun W : World => Below u77.drew.heap.size u77.drew W)) (by kernel_rfl) hT0 (fun hHeld => ?_)
  clear hHeld
  generalize u77.drew = wd at B93 R86 R87 R88 R89 R90 R91 X92 hT0 ⊢
  refine wpAnyH_take (i := 0) (oi := { dst := some 50, op := Op.move (Operand.tmp 5), type := 4, pos := "law.go:42", after := #[], guard := none }) (v := ?_) rfl (by kernel_rfl) (by kernel_rfl) (by kernel_rfl) (fun _ _ _ h => h) (Or.inl ⟨by rfl, ?_⟩) (by assumption) ?_
  rotate_left
  · intro w hSw
    try dsimp only at hSw
    go_simp
    try with_reducible rfl
  try simp only [Act.put, List.setIfInBounds_toArray, List.set_cons_zero, List.set_cons_succ]
  refine wpAnyH_take (i := 1) (oi := { dst := some 51, op := Op.move (Operand.tmp 50), type := 4, pos := "law.go:42", after := #[{ on := 0, ground := Ground.data }], guard := none }) (v := ?_) rfl (by kernel_rfl) (by kernel_rfl) (by kernel_rfl) (fun _ _ _ h => h) (Or.inl ⟨by rfl, ?_⟩) (by assumption) ?_
  rotate_left
  · intro w hSw
    try dsimp only at hSw
    go_simp
    try with_reducible rfl
  try simp only [Act.put, List.setIfInBounds_toArray, List.set_cons_zero, List.set_cons_succ]
  refine wpAnyH_take (i := 2) (oi := { dst := some 52, op := Op.load 23 (Operand.tmp 2), type := 23, pos := "law.go:42", after := #[{ on := 1, ground := Ground.guard }], guard := some (1, true) }) (v := ?_) rfl (by kernel_rfl) (by kernel_rfl) (by kernel_rfl) (fun _ _ _ h => h) (Or.inl ⟨by rfl, ?_⟩) (by assumption) ?_
  rotate_left
  · intro w hSw
    try dsimp only at hSw
    obtain ⟨⟨c0, c1, c2⟩, _⟩ := row3 ((hSw.block _ (lt_of_block R86.out)).trans R86.out)
    go_simp
    try with_reducible rfl
  try simp only [Act.put, List.setIfInBounds_toArray, List.set_cons_zero, List.set_cons_succ]
  refine wpAnyH_take (i := 3) (oi := { dst := some 53, op := Op.load 23 (Operand.tmp 3), type := 23, pos := "law.go:42", after := #[{ on := 1, ground := Ground.guard }], guard := some (1, true) }) (v := ?_) rfl (by kernel_rfl) (by kernel_rfl) (by kernel_rfl) (fun _ _ _ h => h) (Or.inl ⟨by rfl, ?_⟩) (by assumption) ?_
  rotate_left
  · intro w hSw
    try dsimp only at hSw
    obtain ⟨⟨c0, c1, c2⟩, _⟩ := row3 ((hSw.block _ (lt_of_block R87.out)).trans R87.out)
    go_simp
    try with_reducible rfl
  try simp only [Act.put, List.setIfInBounds_toArray, List.set_cons_zero, List.set_cons_succ]
  refine wpAnyH_take (i := 5) (oi := { dst := some 55, op := Op.load 23 (Operand.tmp 2), type := 23, pos := "law.go:42", after := #[{ on := 1, ground := Ground.guard }], guard := some (1, true) }) (v := ?_) rfl (by kernel_rfl) (by kernel_rfl) (by kernel_rfl) (fun _ _ _ h => h) (Or.inl ⟨by rfl, ?_⟩) (by assumption) ?_
  rotate_left
  · intro w hSw
    try dsimp only at hSw
    obtain ⟨⟨c0, c1, c2⟩, _⟩ := row3 ((hSw.block _ (lt_of_block R86.out)).trans R86.out)
    go_simp
    try with_reducible rfl
  try simp only [Act.put, List.setIfInBounds_toArray, List.set_cons_zero, List.set_cons_succ]
  refine wpAnyH_take (i := 6) (oi := { dst := some 56, op := Op.load 23 (Operand.tmp 3), type := 23, pos := "law.go:42", after := #[{ on := 1, ground := Ground.guard }], guard := some (1, true) }) (v := ?_) rfl (by kernel_rfl) (by kernel_rfl) (by kernel_rfl) (fun _ _ _ h => h) (Or.inl ⟨by rfl, ?_⟩) (by assumption) ?_
  rotate_left
  · intro w hSw
    try dsimp only at hSw
    obtain ⟨⟨c0, c1, c2⟩, _⟩ := row3 ((hSw.block _ (lt_of_block R87.out)).trans R87.out)
    go_simp
    try with_reducible rfl
  try simp only [Act.put, List.setIfInBounds_toArray, List.set_cons_zero, List.set_cons_succ]
  refine wpAnyH_ready (rs := [4]) (by kernel_rfl) (by simp) ?_
  refine AllReadyH.cons (o := { dst := some 54, op := Op.call { callee := Callee.value (Operand.func 15), args := #[Operand.tmp 52, Operand.tmp 53], argTypes := #[23, 23] }, type := 3, pos := "law.go:42", after := #[{ on := 2, ground := Ground.data }, { on := 3, ground := Ground.data }, { on := 1, ground := Ground.chain }, { on := 1, ground := Ground.guard }], guard := some (1, true) }) rfl (fun K hK => ?_) AllReadyH.nil
  go_simp
  with_reducible refine (HC.out _).mono ?_
  rintro e wq1 ⟨rfl, hb⟩
  have hT1 : (fun W : World => Below wd.heap.size wd W) wq1 := hT0.trans (hb.mono hT0.size)
  refine hK.out _ _ hT1 (fun _ => ?_)
  clear hK K hb
  try simp only [Act.put, List.setIfInBounds_toArray, List.set_cons_zero, List.set_cons_succ]
  refine wpAnyH_ready (rs := [7]) (by kernel_rfl) (by simp) ?_
  refine AllReadyH.cons (o := { dst := some 57, op := Op.call { callee := Callee.value (Operand.func 16), args := #[Operand.tmp 55, Operand.tmp 56], argTypes := #[23, 23] }, type := 3, pos := "law.go:42", after := #[{ on := 5, ground := Ground.data }, { on := 6, ground := Ground.data }, { on := 4, ground := Ground.chain }, { on := 1, ground := Ground.guard }], guard := some (1, true) }) rfl (fun K hK => ?_) AllReadyH.nil
  go_simp
  with_reducible refine (HC2.out _).mono ?_
  rintro e wq2 ⟨rfl, hb⟩
  have hT2 : (fun W : World => Below wd.heap.size wd W) wq2 := hT1.trans (hb.mono hT1.size)
  refine hK.out _ _ hT2 (fun _ => ?_)
  clear hK K hb
  try simp only [Act.put, List.setIfInBounds_toArray, List.set_cons_zero, List.set_cons_succ]
  refine wpAnyH_take (i := 8) (oi := { dst := some 58, op := Op.binOp BinOp.eql 3 (Operand.tmp 54) (Operand.tmp 57) 3, type := 4, pos := "law.go:42", after := #[{ on := 4, ground := Ground.data }, { on := 7, ground := Ground.data }, { on := 1, ground := Ground.guard }], guard := some (1, true) }) (v := ?_) rfl (by kernel_rfl) (by kernel_rfl) (by kernel_rfl) (fun _ _ _ h => h) (Or.inl ⟨by rfl, ?_⟩) (by assumption) ?_
  rotate_left
  · intro w hSw
    try dsimp only at hSw
    go_simp
    try with_reducible rfl
  try simp only [Act.put, List.setIfInBounds_toArray, List.set_cons_zero, List.set_cons_succ]
  refine wpAnyH_take (i := 9) (oi := { dst := some 59, op := Op.pick (Operand.tmp 51) (Operand.tmp 58) (Operand.const (Value.bool false)), type := 4, pos := "law.go:42", after := #[{ on := 1, ground := Ground.data }, { on := 8, ground := Ground.data }], guard := none }) (v := ?_) rfl (by kernel_rfl) (by kernel_rfl) (by kernel_rfl) (fun _ _ _ h => h) (Or.inl ⟨by rfl, ?_⟩) (by assumption) ?_
  rotate_left
  · intro w hSw
    try dsimp only at hSw
    go_simp
    try with_reducible rfl
  try simp only [Act.put, List.setIfInBounds_toArray, List.set_cons_zero, List.set_cons_succ]
  refine wpAnyH_take (i := 10) (oi := { dst := some 60, op := Op.move (Operand.tmp 59), type := 4, pos := "law.go:42", after := #[{ on := 9, ground := Ground.data }, { on := 7, ground := Ground.chain }], guard := none }) (v := ?_) rfl (by kernel_rfl) (by kernel_rfl) (by kernel_rfl) (fun _ _ _ h => h) (Or.inl ⟨by rfl, ?_⟩) (by assumption) ?_
  rotate_left
  · intro w hSw
    try dsimp only at hSw
    go_simp
    try with_reducible rfl
  try simp only [Act.put, List.setIfInBounds_toArray, List.set_cons_zero, List.set_cons_succ]
  refine wpAnyH_take (i := 11) (oi := { dst := some 61, op := Op.load 23 (Operand.tmp 6), type := 23, pos := "law.go:42", after := #[{ on := 10, ground := Ground.guard }], guard := some (10, true) }) (v := ?_) rfl (by kernel_rfl) (by kernel_rfl) (by kernel_rfl) (fun _ _ _ h => h) (Or.inl ⟨by rfl, ?_⟩) (by assumption) ?_
  rotate_left
  · intro w hSw
    try dsimp only at hSw
    obtain ⟨⟨c0, c1, c2⟩, _⟩ := row3 ((hSw.block _ (lt_of_block R88.out)).trans R88.out)
    go_simp
    try with_reducible rfl
  try simp only [Act.put, List.setIfInBounds_toArray, List.set_cons_zero, List.set_cons_succ]
  refine wpAnyH_take (i := 12) (oi := { dst := some 62, op := Op.load 23 (Operand.tmp 8), type := 23, pos := "law.go:42", after := #[{ on := 10, ground := Ground.guard }], guard := some (10, true) }) (v := ?_) rfl (by kernel_rfl) (by kernel_rfl) (by kernel_rfl) (fun _ _ _ h => h) (Or.inl ⟨by rfl, ?_⟩) (by assumption) ?_
  rotate_left
  · intro w hSw
    try dsimp only at hSw
    obtain ⟨⟨c0, c1, c2⟩, _⟩ := row3 ((hSw.block _ (lt_of_block R89.out)).trans R89.out)
    go_simp
    try with_reducible rfl
  try simp only [Act.put, List.setIfInBounds_toArray, List.set_cons_zero, List.set_cons_succ]
  refine wpAnyH_take (i := 13) (oi := { dst := some 63, op := Op.binOp BinOp.eql 23 (Operand.tmp 61) (Operand.tmp 62) 23, type := 4, pos := "law.go:42", after := #[{ on := 11, ground := Ground.data }, { on := 12, ground := Ground.data }, { on := 10, ground := Ground.guard }], guard := some (10, true) }) (v := ?_) rfl (by kernel_rfl) (by kernel_rfl) (by kernel_rfl) (fun _ _ _ h => h) (Or.inl ⟨by rfl, ?_⟩) (by assumption) ?_
  rotate_left
  · intro w hSw
    try dsimp only at hSw
    go_simp
    try with_reducible rfl
  try simp only [Act.put, List.setIfInBounds_toArray, List.set_cons_zero, List.set_cons_succ]
  refine wpAnyH_take (i := 14) (oi := { dst := some 64, op := Op.pick (Operand.tmp 60) (Operand.tmp 63) (Operand.const (Value.bool false)), type := 4, pos := "law.go:42", after := #[{ on := 10, ground := Ground.data }, { on := 13, ground := Ground.data }], guard := none }) (v := ?_) rfl (by kernel_rfl) (by kernel_rfl) (by kernel_rfl) (fun _ _ _ h => h) (Or.inl ⟨by rfl, ?_⟩) (by assumption) ?_
  rotate_left
  · intro w hSw
    try dsimp only at hSw
    go_simp
    try with_reducible rfl
  try simp only [Act.put, List.setIfInBounds_toArray, List.set_cons_zero, List.set_cons_succ]
  refine wpAnyH_take (i := 15) (oi := { dst := some 65, op := Op.move (Operand.tmp 64), type := 4, pos := "law.go:42", after := #[{ on := 14, ground := Ground.data }, { on := 10, ground := Ground.chain }], guard := none }) (v := ?_) rfl (by kernel_rfl) (by kernel_rfl) (by kernel_rfl) (fun _ _ _ h => h) (Or.inl ⟨by rfl, ?_⟩) (by assumption) ?_
  rotate_left
  · intro w hSw
    try dsimp only at hSw
    go_simp
    try with_reducible rfl
  try simp only [Act.put, List.setIfInBounds_toArray, List.set_cons_zero, List.set_cons_succ]
  refine wpAnyH_take (i := 16) (oi := { dst := some 66, op := Op.move (Operand.tmp 7), type := 25, pos := "law.go:42", after := #[{ on := 15, ground := Ground.guard }], guard := some (15, true) }) (v := ?_) rfl (by kernel_rfl) (by kernel_rfl) (by kernel_rfl) (fun _ _ _ h => h) (Or.inl ⟨by rfl, ?_⟩) (by assumption) ?_
  rotate_left
  · intro w hSw
    try dsimp only at hSw
    go_simp
    try with_reducible rfl
  try simp only [Act.put, List.setIfInBounds_toArray, List.set_cons_zero, List.set_cons_succ]
  refine wpAnyH_take (i := 17) (oi := { dst := some 67, op := Op.move (Operand.tmp 9), type := 25, pos := "law.go:42", after := #[{ on := 15, ground := Ground.guard }], guard := some (15, true) }) (v := ?_) rfl (by kernel_rfl) (by kernel_rfl) (by kernel_rfl) (fun _ _ _ h => h) (Or.inl ⟨by rfl, ?_⟩) (by assumption) ?_
  rotate_left
  · intro w hSw
    try dsimp only at hSw
    go_simp
    try with_reducible rfl
  try simp only [Act.put, List.setIfInBounds_toArray, List.set_cons_zero, List.set_cons_succ]
  refine wpAnyH_take (i := 18) (oi := { dst := some 68, op := Op.binOp BinOp.eql 25 (Operand.tmp 66) (Operand.tmp 67) 25, type := 4, pos := "law.go:42", after := #[{ on := 16, ground := Ground.data }, { on := 17, ground := Ground.data }, { on := 15, ground := Ground.guard }], guard := some (15, true) }) (v := ?_) rfl (by kernel_rfl) (by kernel_rfl) (by kernel_rfl) (fun _ _ _ h => h) (Or.inl ⟨by rfl, ?_⟩) (by assumption) ?_
  rotate_left
  · intro w hSw
    try dsimp only at hSw
    go_simp
    try with_reducible rfl
  try simp only [Act.put, List.setIfInBounds_toArray, List.set_cons_zero, List.set_cons_succ]
  refine wpAnyH_take (i := 19) (oi := { dst := some 69, op := Op.pick (Operand.tmp 65) (Operand.tmp 68) (Operand.const (Value.bool false)), type := 4, pos := "law.go:42", after := #[{ on := 15, ground := Ground.data }, { on := 18, ground := Ground.data }], guard := none }) (v := ?_) rfl (by kernel_rfl) (by kernel_rfl) (by kernel_rfl) (fun _ _ _ h => h) (Or.inl ⟨by rfl, ?_⟩) (by assumption) ?_
  rotate_left
  · intro w hSw
    try dsimp only at hSw
    go_simp
    try with_reducible rfl
  try simp only [Act.put, List.setIfInBounds_toArray, List.set_cons_zero, List.set_cons_succ]
  refine wpAnyH_take (i := 20) (oi := { dst := some 70, op := Op.move (Operand.tmp 69), type := 4, pos := "law.go:42", after := #[{ on := 19, ground := Ground.data }, { on := 15, ground := Ground.chain }], guard := none }) (v := ?_) rfl (by kernel_rfl) (by kernel_rfl) (by kernel_rfl) (fun _ _ _ h => h) (Or.inl ⟨by rfl, ?_⟩) (by assumption) ?_
  rotate_left
  · intro w hSw
    try dsimp only at hSw
    go_simp
    try with_reducible rfl
  try simp only [Act.put, List.setIfInBounds_toArray, List.set_cons_zero, List.set_cons_succ]
  refine wpAnyH_take (i := 21) (oi := { dst := some 71, op := Op.load 23 (Operand.tmp 10), type := 23, pos := "law.go:42", after := #[{ on := 20, ground := Ground.guard }], guard := some (20, true) }) (v := ?_) rfl (by kernel_rfl) (by kernel_rfl) (by kernel_rfl) (fun _ _ _ h => h) (Or.inl ⟨by rfl, ?_⟩) (by assumption) ?_
  rotate_left
  · intro w hSw
    try dsimp only at hSw
    obtain ⟨⟨c0, c1, c2⟩, _⟩ := row3 ((hSw.block _ (lt_of_block R90.out)).trans R90.out)
    go_simp
    try with_reducible rfl
  try simp only [Act.put, List.setIfInBounds_toArray, List.set_cons_zero, List.set_cons_succ]
  refine wpAnyH_take (i := 22) (oi := { dst := some 72, op := Op.load 23 (Operand.tmp 12), type := 23, pos := "law.go:42", after := #[{ on := 20, ground := Ground.guard }], guard := some (20, true) }) (v := ?_) rfl (by kernel_rfl) (by kernel_rfl) (by kernel_rfl) (fun _ _ _ h => h) (Or.inl ⟨by rfl, ?_⟩) (by assumption) ?_
  rotate_left
  · intro w hSw
    try dsimp only at hSw
    obtain ⟨⟨c0, c1, c2⟩, _⟩ := row3 ((hSw.block _ (lt_of_block R91.out)).trans R91.out)
    go_simp
    try with_reducible rfl
  try simp only [Act.put, List.setIfInBounds_toArray, List.set_cons_zero, List.set_cons_succ]
  refine wpAnyH_take (i := 23) (oi := { dst := some 73, op := Op.binOp BinOp.eql 23 (Operand.tmp 71) (Operand.tmp 72) 23, type := 4, pos := "law.go:42", after := #[{ on := 21, ground := Ground.data }, { on := 22, ground := Ground.data }, { on := 20, ground := Ground.guard }], guard := some (20, true) }) (v := ?_) rfl (by kernel_rfl) (by kernel_rfl) (by kernel_rfl) (fun _ _ _ h => h) (Or.inl ⟨by rfl, ?_⟩) (by assumption) ?_
  rotate_left
  · intro w hSw
    try dsimp only at hSw
    go_simp
    try with_reducible rfl
  try simp only [Act.put, List.setIfInBounds_toArray, List.set_cons_zero, List.set_cons_succ]
  refine wpAnyH_take (i := 24) (oi := { dst := some 74, op := Op.pick (Operand.tmp 70) (Operand.tmp 73) (Operand.const (Value.bool false)), type := 4, pos := "law.go:42", after := #[{ on := 20, ground := Ground.data }, { on := 23, ground := Ground.data }], guard := none }) (v := ?_) rfl (by kernel_rfl) (by kernel_rfl) (by kernel_rfl) (fun _ _ _ h => h) (Or.inl ⟨by rfl, ?_⟩) (by assumption) ?_
  rotate_left
  · intro w hSw
    try dsimp only at hSw
    go_simp
    try with_reducible rfl
  try simp only [Act.put, List.setIfInBounds_toArray, List.set_cons_zero, List.set_cons_succ]
  refine wpAnyH_take (i := 25) (oi := { dst := some 75, op := Op.move (Operand.tmp 74), type := 4, pos := "law.go:42", after := #[{ on := 24, ground := Ground.data }, { on := 20, ground := Ground.chain }], guard := none }) (v := ?_) rfl (by kernel_rfl) (by kernel_rfl) (by kernel_rfl) (fun _ _ _ h => h) (Or.inl ⟨by rfl, ?_⟩) (by assumption) ?_
  rotate_left
  · intro w hSw
    try dsimp only at hSw
    go_simp
    try with_reducible rfl
  try simp only [Act.put, List.setIfInBounds_toArray, List.set_cons_zero, List.set_cons_succ]
  refine wpAnyH_take (i := 26) (oi := { dst := some 76, op := Op.move (Operand.tmp 11), type := 25, pos := "law.go:42", after := #[{ on := 25, ground := Ground.guard }], guard := some (25, true) }) (v := ?_) rfl (by kernel_rfl) (by kernel_rfl) (by kernel_rfl) (fun _ _ _ h => h) (Or.inl ⟨by rfl, ?_⟩) (by assumption) ?_
  rotate_left
  · intro w hSw
    try dsimp only at hSw
    go_simp
    try with_reducible rfl
  try simp only [Act.put, List.setIfInBounds_toArray, List.set_cons_zero, List.set_cons_succ]
  refine wpAnyH_take (i := 27) (oi := { dst := some 77, op := Op.move (Operand.tmp 13), type := 25, pos := "law.go:42", after := #[{ on := 25, ground := Ground.guard }], guard := some (25, true) }) (v := ?_) rfl (by kernel_rfl) (by kernel_rfl) (by kernel_rfl) (fun _ _ _ h => h) (Or.inl ⟨by rfl, ?_⟩) (by assumption) ?_
  rotate_left
  · intro w hSw
    try dsimp only at hSw
    go_simp
    try with_reducible rfl
  try simp only [Act.put, List.setIfInBounds_toArray, List.set_cons_zero, List.set_cons_succ]
  refine wpAnyH_take (i := 28) (oi := { dst := some 78, op := Op.binOp BinOp.eql 25 (Operand.tmp 76) (Operand.tmp 77) 25, type := 4, pos := "law.go:42", after := #[{ on := 26, ground := Ground.data }, { on := 27, ground := Ground.data }, { on := 25, ground := Ground.guard }], guard := some (25, true) }) (v := ?_) rfl (by kernel_rfl) (by kernel_rfl) (by kernel_rfl) (fun _ _ _ h => h) (Or.inl ⟨by rfl, ?_⟩) (by assumption) ?_
  rotate_left
  · intro w hSw
    try dsimp only at hSw
    go_simp
    try with_reducible rfl
  try simp only [Act.put, List.setIfInBounds_toArray, List.set_cons_zero, List.set_cons_succ]
  refine wpAnyH_take (i := 29) (oi := { dst := some 79, op := Op.pick (Operand.tmp 75) (Operand.tmp 78) (Operand.const (Value.bool false)), type := 4, pos := "law.go:42", after := #[{ on := 25, ground := Ground.data }, { on := 28, ground := Ground.data }], guard := none }) (v := ?_) rfl (by kernel_rfl) (by kernel_rfl) (by kernel_rfl) (fun _ _ _ h => h) (Or.inl ⟨by rfl, ?_⟩) (by assumption) ?_
  rotate_left
  · intro w hSw
    try dsimp only at hSw
    go_simp
    try with_reducible rfl
  try simp only [Act.put, List.setIfInBounds_toArray, List.set_cons_zero, List.set_cons_succ]
  refine wpAnyH_take (i := 30) (oi := { dst := some 4, op := Op.assign (Operand.tmp 79), type := 4, pos := "law.go:42", after := #[{ on := 29, ground := Ground.data }, { on := 25, ground := Ground.chain }, { on := 0, ground := Ground.phase }, { on := 1, ground := Ground.phase }, { on := 2, ground := Ground.phase }, { on := 3, ground := Ground.phase }, { on := 4, ground := Ground.phase }, { on := 5, ground := Ground.phase }, { on := 6, ground := Ground.phase }, { on := 7, ground := Ground.phase }, { on := 8, ground := Ground.phase }, { on := 9, ground := Ground.phase }, { on := 10, ground := Ground.phase }, { on := 11, ground := Ground.phase }, { on := 12, ground := Ground.phase }, { on := 13, ground := Ground.phase }, { on := 14, ground := Ground.phase }, { on := 15, ground := Ground.phase }, { on := 16, ground := Ground.phase }, { on := 17, ground := Ground.phase }, { on := 18, ground := Ground.phase }, { on := 19, ground := Ground.phase }, { on := 20, ground := Ground.phase }, { on := 21, ground := Ground.phase }, { on := 22, ground := Ground.phase }, { on := 23, ground := Ground.phase }, { on := 24, ground := Ground.phase }, { on := 25, ground := Ground.phase }, { on := 26, ground := Ground.phase }, { on := 27, ground := Ground.phase }, { on := 28, ground := Ground.phase }, { on := 29, ground := Ground.phase }], guard := none }) (v := ?_) rfl (by kernel_rfl) (by kernel_rfl) (by kernel_rfl) (fun _ _ _ h => h) (Or.inl ⟨by rfl, ?_⟩) (by assumption) ?_
  rotate_left
  · intro w hSw
    try dsimp only at hSw
    go_simp
    try with_reducible rfl
  try simp only [Act.put, List.setIfInBounds_toArray, List.set_cons_zero, List.set_cons_succ]
  refine wpAnyH_done (by kernel_rfl) ?_ _
  have R94 := Lib.hid ((hT2.block _ (lt_of_block R86.out)).trans R86.out)
  have R95 := Lib.hid ((hT2.block _ (lt_of_block R87.out)).trans R87.out)
  have R96 := Lib.hid ((hT2.block _ (lt_of_block R88.out)).trans R88.out)
  have R97 := Lib.hid ((hT2.block _ (lt_of_block R89.out)).trans R89.out)
  have R98 := Lib.hid ((hT2.block _ (lt_of_block R90.out)).trans R90.out)
  have R99 := Lib.hid ((hT2.block _ (lt_of_block R91.out)).trans R91.out)
  have X100 := Lib.hid (TabB.below X92.out hT2)
  have B101 := Lib.hid (B93.out.trans (hT2.mono B93.out.size))
  clear hT0 hT1 hT2 R86 R87 R88 R89 R90 R91 X92 B93
  go_wp2_with fail
  go_ret
  exact ⟨rfl, B101.out⟩
theorem reckons_any (n1 n2 : Bool) (d1 d2 : ByteArray) (e1 e2 : Int) (w : World) (ht : TabB w) :
    Calls Tryd.prog 3 #[.agg #[.bool n1, .string d1, .int .i64 e1], .agg #[.bool n2, .string d2, .int .i64 e2]] w fun e w' => e = .returned (.bool true) ∧ Below w.heap.size w w' := by
  by_cases h1 : 200 < d1.size
  · exact reckons_long1 w n1 n2 d1 d2 e1 e2 h1 ht
  by_cases h2 : 200 < d2.size
  · exact reckons_long2 w n1 n2 d1 d2 e1 e2 h1 h2 ht
  · exact reckons_short w n1 n2 d1 d2 e1 e2 h1 h2 ht
end Go.Proofs.YtpnhgggdjlglnaaDoor.dk
