/- The walk of DecBack. -/
import Derived.Test.YtpnhgggdjlglnaaDoorM2
import Derived.Test.YtpnhgggdjlglnaaDoorF0
import Derived.Deep.DeepCutAuto
import Derived.Deep.CutBlock
namespace Go.Proofs.YtpnhgggdjlglnaaDoor.dk
open Go.PlainAid Go.ChangeShapes Go.WideShapes Go.ChangeAt Go.RowKit

set_option maxRecDepth 100000 in
set_option maxHeartbeats 4000000 in
theorem back_long1 (w : World) (n : Bool) (dg : ByteArray) (ex : Int) (s : ByteArray) (hl : 200 < dg.size) (ht : TabB w) :
    Calls Tryd.prog 4 #[.agg #[.bool n, .string dg, .int .i64 ex], .string s] w fun e w' => e = .returned (.bool true) ∧ Below w.heap.size w w' := by
  have dl : decide ((200 : Int) < (dg.size : Int)) = true := decide_eq_true (by omega)
  have dln : decide (200 < dg.size) = true := decide_eq_true hl
  clear hl
  have hB : Below w.heap.size w (w.alloc (.cells #[.bool n, .string dg, .int .i64 ex] 23)) := (Below.refl _ _).alloc (Nat.le_refl _) _
  have r1 : (w.alloc (.cells #[.bool n, .string dg, .int .i64 ex] 23)).heap[w.heap.size]? = some (.cells #[.bool n, .string dg, .int .i64 ex] 23 (0, 0)) := heap_alloc_new _ _
  obtain ⟨wa, hwa⟩ : ∃ wa, wa = w.alloc (.cells #[.bool n, .string dg, .int .i64 ex] 23) := ⟨_, rfl⟩
  rw [← hwa] at hB r1
  have HW := Lib.hid hwa
  have HB := Lib.hid hB
  have HR := Lib.hid r1
  have HT := Lib.hid (TabB.below ht hB)
  clear hwa hB r1 ht
  go_enter Tryd.func4, Tryd.ntmps4
  go_upto_region 1 with fail
  rw [← HW.out]
  clear HW
  go_wp2_with fail
  with_reducible refine (awake_any _ HT.out).mono ?_
  rintro e u1 ⟨rfl, hb⟩
  have R2 := Lib.hid ((hb.block _ (lt_of_block HR.out)).trans HR.out)
  have X3 := Lib.hid (TabB.below HT.out hb)
  have B4 := Lib.hid (HB.out.trans (hb.mono HB.out.size))
  clear hb HR HT HB
  obtain ⟨⟨c5, c6, c7⟩, _⟩ := row3 R2.out
  go_wp2_with fail
  clear c5 c6 c7
  go_ret
  exact ⟨rfl, B4.out⟩
set_option maxRecDepth 100000 in
set_option maxHeartbeats 4000000 in
theorem back_long2 (w : World) (n : Bool) (dg : ByteArray) (ex : Int) (s : ByteArray) (hl : ¬ 200 < dg.size) (hs : 1000 < s.size) (ht : TabB w) :
    Calls Tryd.prog 4 #[.agg #[.bool n, .string dg, .int .i64 ex], .string s] w fun e w' => e = .returned (.bool true) ∧ Below w.heap.size w w' := by
  have dl : decide ((200 : Int) < (dg.size : Int)) = false := decide_eq_false (by omega)
  have dln : decide (200 < dg.size) = false := decide_eq_false hl
  have ds : decide ((1000 : Int) < (s.size : Int)) = true := decide_eq_true (by omega)
  have dsn : decide (1000 < s.size) = true := decide_eq_true hs
  clear hl hs
  have hB : Below w.heap.size w (w.alloc (.cells #[.bool n, .string dg, .int .i64 ex] 23)) := (Below.refl _ _).alloc (Nat.le_refl _) _
  have r1 : (w.alloc (.cells #[.bool n, .string dg, .int .i64 ex] 23)).heap[w.heap.size]? = some (.cells #[.bool n, .string dg, .int .i64 ex] 23 (0, 0)) := heap_alloc_new _ _
  obtain ⟨wa, hwa⟩ : ∃ wa, wa = w.alloc (.cells #[.bool n, .string dg, .int .i64 ex] 23) := ⟨_, rfl⟩
  rw [← hwa] at hB r1
  have HW := Lib.hid hwa
  have HB := Lib.hid hB
  have HR := Lib.hid r1
  have HT := Lib.hid (TabB.below ht hB)
  clear hwa hB r1 ht
  go_enter Tryd.func4, Tryd.ntmps4
  go_upto_region 1 with fail
  rw [← HW.out]
  clear HW
  go_wp2_with fail
  with_reducible refine (awake_any _ HT.out).mono ?_
  rintro e u1 ⟨rfl, hb⟩
  have R2 := Lib.hid ((hb.block _ (lt_of_block HR.out)).trans HR.out)
  have X3 := Lib.hid (TabB.below HT.out hb)
  have B4 := Lib.hid (HB.out.trans (hb.mono HB.out.size))
  clear hb HR HT HB
  obtain ⟨⟨c5, c6, c7⟩, _⟩ := row3 R2.out
  go_wp2_with fail
  clear c5 c6 c7
  go_ret
  exact ⟨rfl, B4.out⟩
set_option maxRecDepth 100000 in
set_option maxHeartbeats 4000000 in
theorem back_y_y (w : World) (n : Bool) (dg : ByteArray) (ex : Int) (s : ByteArray) (hl : ¬ 200 < dg.size) (hs : ¬ 1000 < s.size) (tn : Bool) (td : ByteArray) (te : Int) (a1 : parseP s = (⟨tn, td, te⟩, 0)) (k1 : dsane tn (unstr td) te = true) (sT : td.size ≤ 1000000) (a2 : parseP (printT tn td te) = (⟨tn, td, te⟩, 0)) (zT : (printT tn td te).size ≤ 1000) (k2 : dsane n (unstr dg) ex = true) (m : Bool) (q1 : ngd n dg ex = m) (q2 : ngd m dg ex = n) (a3 : parseP (printT n dg ex) = (⟨n, dg, ex⟩, 0)) (zD : (printT n dg ex).size ≤ 1000) (ht : TabB w) :
    Calls Tryd.prog 4 #[.agg #[.bool n, .string dg, .int .i64 ex], .string s] w fun e w' => e = .returned (.bool true) ∧ Below w.heap.size w w' := by
  have dl : decide ((200 : Int) < (dg.size : Int)) = false := decide_eq_false (by omega)
  have dln : decide (200 < dg.size) = false := decide_eq_false hl
  have ds : decide ((1000 : Int) < (s.size : Int)) = false := decide_eq_false (by omega)
  have dsn : decide (1000 < s.size) = false := decide_eq_false hs
  have HP := Lib.hid (fun v => Parse_pair v s (by omega))
  rw [a1] at HP
  have HPd := Lib.hid (fun v h => Print_any v n dg ex (by omega) h)
  have HSd := Lib.hid (fun v => Sane_all v n dg ex)
  rw [k2] at HSd
  have HPT := Lib.hid (fun v h => Print_any v tn td te sT h)
  have HPP := Lib.hid (fun v => Parse_pair v (printT tn td te) (by omega))
  rw [a2] at HPP
  generalize printT tn td te = pT at HPT HPP
  have HST := Lib.hid (fun v => Sane_all v tn td te)
  rw [k1] at HST
  clear a2 zT k1 sT
  have HPD := Lib.hid (fun v => Parse_pair v (printT n dg ex) (by omega))
  rw [a3] at HPD
  generalize printT n dg ex = pD at HPd HPD
  have HN1 := Lib.hid (fun v => Neg_any v n dg ex (by omega))
  have HN2 := Lib.hid (fun v => Neg_any v m dg ex (by omega))
  rw [q1] at HN1
  rw [q2] at HN2
  clear q1 q2 a3 zD
  clear hl hs a1 k2
  have hB : Below w.heap.size w (w.alloc (.cells #[.bool n, .string dg, .int .i64 ex] 23)) := (Below.refl _ _).alloc (Nat.le_refl _) _
  have r1 : (w.alloc (.cells #[.bool n, .string dg, .int .i64 ex] 23)).heap[w.heap.size]? = some (.cells #[.bool n, .string dg, .int .i64 ex] 23 (0, 0)) := heap_alloc_new _ _
  obtain ⟨wa, hwa⟩ : ∃ wa, wa = w.alloc (.cells #[.bool n, .string dg, .int .i64 ex] 23) := ⟨_, rfl⟩
  rw [← hwa] at hB r1
  have HW := Lib.hid hwa
  have HB := Lib.hid hB
  have HR := Lib.hid r1
  have HT := Lib.hid (TabB.below ht hB)
  clear hwa hB r1 ht
  go_enter Tryd.func4, Tryd.ntmps4
  go_upto_region 1 with fail
  rw [← HW.out]
  clear HW
  go_wp2_with fail
  with_reducible refine (awake_any _ HT.out).mono ?_
  rintro e u1 ⟨rfl, hb⟩
  have R2 := Lib.hid ((hb.block _ (lt_of_block HR.out)).trans HR.out)
  have X3 := Lib.hid (TabB.below HT.out hb)
  have B4 := Lib.hid (HB.out.trans (hb.mono HB.out.size))
  clear hb HR HT HB
  obtain ⟨⟨c5, c6, c7⟩, _⟩ := row3 R2.out
  go_wp2_with fail
  clear c5 c6 c7
  with_reducible refine (HP.out _).mono ?_
  rintro e u8 ⟨rfl, hb⟩
  have R9 := Lib.hid ((hb.block _ (lt_of_block R2.out)).trans R2.out)
  have X10 := Lib.hid (TabB.below X3.out hb)
  have B11 := Lib.hid (B4.out.trans (hb.mono B4.out.size))
  clear hb R2 X3 B4
  unfold pairV
  obtain ⟨u12, hwv, hr, hb⟩ := boxed3 u8 (.bool tn) (.string td) (.int .i64 te)
  have R13 := Lib.hid ((hb.block _ (lt_of_block R9.out)).trans R9.out)
  have X14 := Lib.hid (TabB.below X10.out hb)
  have B15 := Lib.hid (B11.out.trans (hb.mono B11.out.size))
  have R16 := Lib.hid hr
  have HYW := Lib.hid hwv
  clear hb hr hwv R9 X10 B11
  go_upto_region 5 with fail
  rw [← HYW.out]
  clear HYW
  obtain ⟨⟨c17, c18, c19⟩, _⟩ := row3 R16.out
  go_wp2_with fail
  clear c17 c18 c19
  with_reducible refine (HPT.out _ X14.out).mono ?_
  rintro e u20 ⟨rfl, hb⟩
  have R21 := Lib.hid ((hb.block _ (lt_of_block R13.out)).trans R13.out)
  have R22 := Lib.hid ((hb.block _ (lt_of_block R16.out)).trans R16.out)
  have X23 := Lib.hid (TabB.below X14.out hb)
  have B24 := Lib.hid (B15.out.trans (hb.mono B15.out.size))
  clear hb R13 R16 X14 B15
  go_wp2_with fail
  with_reducible refine (HPP.out _).mono ?_
  rintro e u25 ⟨rfl, hb⟩
  have R26 := Lib.hid ((hb.block _ (lt_of_block R21.out)).trans R21.out)
  have R27 := Lib.hid ((hb.block _ (lt_of_block R22.out)).trans R22.out)
  have X28 := Lib.hid (TabB.below X23.out hb)
  have B29 := Lib.hid (B24.out.trans (hb.mono B24.out.size))
  clear hb R21 R22 X23 B24
  unfold pairV
  obtain ⟨u30, hwv, hr, hb⟩ := boxed3 u25 (.bool tn) (.string td) (.int .i64 te)
  have R31 := Lib.hid ((hb.block _ (lt_of_block R26.out)).trans R26.out)
  have R32 := Lib.hid ((hb.block _ (lt_of_block R27.out)).trans R27.out)
  have X33 := Lib.hid (TabB.below X28.out hb)
  have B34 := Lib.hid (B29.out.trans (hb.mono B29.out.size))
  have R35 := Lib.hid hr
  have HYW := Lib.hid hwv
  clear hb hr hwv R26 R27 X28 B29
  go_upto_region 7 with fail
  rw [← HYW.out]
  clear HYW
  obtain ⟨⟨c36, c37, c38⟩, _⟩ := row3 R32.out
  obtain ⟨⟨c39, c40, c41⟩, _⟩ := row3 R35.out
  go_wp2_with fail
  clear c36 c37 c38 c39 c40 c41
  with_reducible refine (HST.out _).mono ?_
  rintro e u42 ⟨rfl, hb⟩
  have R43 := Lib.hid ((hb.block _ (lt_of_block R31.out)).trans R31.out)
  have R44 := Lib.hid ((hb.block _ (lt_of_block R32.out)).trans R32.out)
  have R45 := Lib.hid ((hb.block _ (lt_of_block R35.out)).trans R35.out)
  have X46 := Lib.hid (TabB.below X33.out hb)
  have B47 := Lib.hid (B34.out.trans (hb.mono B34.out.size))
  clear hb R31 R32 R35 X33 B34
  obtain ⟨⟨c48, c49, c50⟩, _⟩ := row3 R43.out
  go_wp2_with fail
  clear c48 c49 c50
  with_reducible refine (HSd.out _).mono ?_
  rintro e u51 ⟨rfl, hb⟩
  have R52 := Lib.hid ((hb.block _ (lt_of_block R43.out)).trans R43.out)
  have R53 := Lib.hid ((hb.block _ (lt_of_block R44.out)).trans R44.out)
  have R54 := Lib.hid ((hb.block _ (lt_of_block R45.out)).trans R45.out)
  have X55 := Lib.hid (TabB.below X46.out hb)
  have B56 := Lib.hid (B47.out.trans (hb.mono B47.out.size))
  clear hb R43 R44 R45 X46 B47
  obtain ⟨⟨c57, c58, c59⟩, _⟩ := row3 R52.out
  go_wp2_with fail
  clear c57 c58 c59
  with_reducible refine (HPd.out _ X55.out).mono ?_
  rintro e u60 ⟨rfl, hb⟩
  have R61 := Lib.hid ((hb.block _ (lt_of_block R52.out)).trans R52.out)
  have R62 := Lib.hid ((hb.block _ (lt_of_block R53.out)).trans R53.out)
  have R63 := Lib.hid ((hb.block _ (lt_of_block R54.out)).trans R54.out)
  have X64 := Lib.hid (TabB.below X55.out hb)
  have B65 := Lib.hid (B56.out.trans (hb.mono B56.out.size))
  clear hb R52 R53 R54 X55 B56
  go_wp2_with fail
  with_reducible refine (HPD.out _).mono ?_
  rintro e u66 ⟨rfl, hb⟩
  have R67 := Lib.hid ((hb.block _ (lt_of_block R61.out)).trans R61.out)
  have R68 := Lib.hid ((hb.block _ (lt_of_block R62.out)).trans R62.out)
  have R69 := Lib.hid ((hb.block _ (lt_of_block R63.out)).trans R63.out)
  have X70 := Lib.hid (TabB.below X64.out hb)
  have B71 := Lib.hid (B65.out.trans (hb.mono B65.out.size))
  clear hb R61 R62 R63 X64 B65
  unfold pairV
  obtain ⟨u72, hwv, hr, hb⟩ := boxed3 u66 (.bool n) (.string dg) (.int .i64 ex)
  have R73 := Lib.hid ((hb.block _ (lt_of_block R67.out)).trans R67.out)
  have R74 := Lib.hid ((hb.block _ (lt_of_block R68.out)).trans R68.out)
  have R75 := Lib.hid ((hb.block _ (lt_of_block R69.out)).trans R69.out)
  have X76 := Lib.hid (TabB.below X70.out hb)
  have B77 := Lib.hid (B71.out.trans (hb.mono B71.out.size))
  have R78 := Lib.hid hr
  have HYW := Lib.hid hwv
  clear hb hr hwv R67 R68 R69 X70 B71
  go_upto_region 12 with fail
  rw [← HYW.out]
  clear HYW
  have hbd : Below u72.heap.size u72 u72.drew := (Below.refl _ _).drew
  have R79 := Lib.hid ((hbd.block _ (lt_of_block R73.out)).trans R73.out)
  have R80 := Lib.hid ((hbd.block _ (lt_of_block R74.out)).trans R74.out)
  have R81 := Lib.hid ((hbd.block _ (lt_of_block R75.out)).trans R75.out)
  have R82 := Lib.hid ((hbd.block _ (lt_of_block R78.out)).trans R78.out)
  have X83 := Lib.hid (TabB.below X76.out hbd)
  have B84 := Lib.hid (B77.out.trans (hbd.mono B77.out.size))
  clear hbd R73 R74 R75 R78 X76 B77
  have hT0 : (fun W : World => Below u72.drew.heap.size u72.drew W) u72.drew := Below.refl _ _
  refine wp_region_held_drew (S := (fun W : World => Below u72.drew.heap.size u72.drew W)) (by kernel_rfl) hT0 (fun hHeld => ?_)
  clear hHeld
  generalize u72.drew = wd at B84 R79 R80 R81 R82 X83 hT0 ⊢
  refine wpAnyH_take (i := 0) (oi := { dst := some 63, op := Op.move (Operand.tmp 5), type := 4, pos := "law.go:62", after := #[], guard := none }) (v := ?_) rfl (by kernel_rfl) (by kernel_rfl) (by kernel_rfl) (fun _ _ _ h => h) (Or.inl ⟨by rfl, ?_⟩) (by assumption) ?_
  rotate_left
  · intro w hSw
    try dsimp only at hSw
    go_simp
    try with_reducible rfl
  try simp only [Act.put, List.setIfInBounds_toArray, List.set_cons_zero, List.set_cons_succ]
  refine wpAnyH_take (i := 1) (oi := { dst := some 64, op := Op.move (Operand.tmp 63), type := 4, pos := "law.go:62", after := #[{ on := 0, ground := Ground.data }], guard := none }) (v := ?_) rfl (by kernel_rfl) (by kernel_rfl) (by kernel_rfl) (fun _ _ _ h => h) (Or.inl ⟨by rfl, ?_⟩) (by assumption) ?_
  rotate_left
  · intro w hSw
    try dsimp only at hSw
    go_simp
    try with_reducible rfl
  try simp only [Act.put, List.setIfInBounds_toArray, List.set_cons_zero, List.set_cons_succ]
  refine wpAnyH_take (i := 2) (oi := { dst := some 65, op := Op.load 23 (Operand.tmp 10), type := 23, pos := "law.go:62", after := #[{ on := 1, ground := Ground.guard }], guard := some (1, true) }) (v := ?_) rfl (by kernel_rfl) (by kernel_rfl) (by kernel_rfl) (fun _ _ _ h => h) (Or.inl ⟨by rfl, ?_⟩) (by assumption) ?_
  rotate_left
  · intro w hSw
    try dsimp only at hSw
    obtain ⟨⟨c0, c1, c2⟩, _⟩ := row3 ((hSw.block _ (lt_of_block R82.out)).trans R82.out)
    go_simp
    try with_reducible rfl
  try simp only [Act.put, List.setIfInBounds_toArray, List.set_cons_zero, List.set_cons_succ]
  refine wpAnyH_take (i := 3) (oi := { dst := some 66, op := Op.load 23 (Operand.tmp 2), type := 23, pos := "law.go:62", after := #[{ on := 1, ground := Ground.guard }], guard := some (1, true) }) (v := ?_) rfl (by kernel_rfl) (by kernel_rfl) (by kernel_rfl) (fun _ _ _ h => h) (Or.inl ⟨by rfl, ?_⟩) (by assumption) ?_
  rotate_left
  · intro w hSw
    try dsimp only at hSw
    obtain ⟨⟨c0, c1, c2⟩, _⟩ := row3 ((hSw.block _ (lt_of_block R79.out)).trans R79.out)
    go_simp
    try with_reducible rfl
  try simp only [Act.put, List.setIfInBounds_toArray, List.set_cons_zero, List.set_cons_succ]
  refine wpAnyH_take (i := 4) (oi := { dst := some 67, op := Op.binOp BinOp.eql 23 (Operand.tmp 65) (Operand.tmp 66) 23, type := 4, pos := "law.go:62", after := #[{ on := 2, ground := Ground.data }, { on := 3, ground := Ground.data }, { on := 1, ground := Ground.guard }], guard := some (1, true) }) (v := ?_) rfl (by kernel_rfl) (by kernel_rfl) (by kernel_rfl) (fun _ _ _ h => h) (Or.inl ⟨by rfl, ?_⟩) (by assumption) ?_
  rotate_left
  · intro w hSw
    try dsimp only at hSw
    go_simp
    try with_reducible rfl
  try simp only [Act.put, List.setIfInBounds_toArray, List.set_cons_zero, List.set_cons_succ]
  refine wpAnyH_take (i := 5) (oi := { dst := some 68, op := Op.pick (Operand.tmp 64) (Operand.tmp 67) (Operand.const (Value.bool false)), type := 4, pos := "law.go:62", after := #[{ on := 1, ground := Ground.data }, { on := 4, ground := Ground.data }], guard := none }) (v := ?_) rfl (by kernel_rfl) (by kernel_rfl) (by kernel_rfl) (fun _ _ _ h => h) (Or.inl ⟨by rfl, ?_⟩) (by assumption) ?_
  rotate_left
  · intro w hSw
    try dsimp only at hSw
    go_simp
    try with_reducible rfl
  try simp only [Act.put, List.setIfInBounds_toArray, List.set_cons_zero, List.set_cons_succ]
  refine wpAnyH_take (i := 6) (oi := { dst := some 69, op := Op.move (Operand.tmp 68), type := 4, pos := "law.go:62", after := #[{ on := 5, ground := Ground.data }, { on := 1, ground := Ground.chain }], guard := none }) (v := ?_) rfl (by kernel_rfl) (by kernel_rfl) (by kernel_rfl) (fun _ _ _ h => h) (Or.inl ⟨by rfl, ?_⟩) (by assumption) ?_
  rotate_left
  · intro w hSw
    try dsimp only at hSw
    go_simp
    try with_reducible rfl
  try simp only [Act.put, List.setIfInBounds_toArray, List.set_cons_zero, List.set_cons_succ]
  refine wpAnyH_take (i := 7) (oi := { dst := some 70, op := Op.move (Operand.tmp 11), type := 25, pos := "law.go:62", after := #[{ on := 6, ground := Ground.guard }], guard := some (6, true) }) (v := ?_) rfl (by kernel_rfl) (by kernel_rfl) (by kernel_rfl) (fun _ _ _ h => h) (Or.inl ⟨by rfl, ?_⟩) (by assumption) ?_
  rotate_left
  · intro w hSw
    try dsimp only at hSw
    go_simp
    try with_reducible rfl
  try simp only [Act.put, List.setIfInBounds_toArray, List.set_cons_zero, List.set_cons_succ]
  refine wpAnyH_take (i := 8) (oi := { dst := some 71, op := Op.binOp BinOp.eql 25 (Operand.tmp 70) (Operand.const (Value.int IntKind.i64 0)) 25, type := 4, pos := "law.go:62", after := #[{ on := 7, ground := Ground.data }, { on := 6, ground := Ground.guard }], guard := some (6, true) }) (v := ?_) rfl (by kernel_rfl) (by kernel_rfl) (by kernel_rfl) (fun _ _ _ h => h) (Or.inl ⟨by rfl, ?_⟩) (by assumption) ?_
  rotate_left
  · intro w hSw
    try dsimp only at hSw
    go_simp
    try with_reducible rfl
  try simp only [Act.put, List.setIfInBounds_toArray, List.set_cons_zero, List.set_cons_succ]
  refine wpAnyH_take (i := 9) (oi := { dst := some 72, op := Op.pick (Operand.tmp 69) (Operand.tmp 71) (Operand.const (Value.bool false)), type := 4, pos := "law.go:62", after := #[{ on := 6, ground := Ground.data }, { on := 8, ground := Ground.data }], guard := none }) (v := ?_) rfl (by kernel_rfl) (by kernel_rfl) (by kernel_rfl) (fun _ _ _ h => h) (Or.inl ⟨by rfl, ?_⟩) (by assumption) ?_
  rotate_left
  · intro w hSw
    try dsimp only at hSw
    go_simp
    try with_reducible rfl
  try simp only [Act.put, List.setIfInBounds_toArray, List.set_cons_zero, List.set_cons_succ]
  refine wpAnyH_take (i := 10) (oi := { dst := some 73, op := Op.move (Operand.tmp 72), type := 4, pos := "law.go:62", after := #[{ on := 9, ground := Ground.data }, { on := 6, ground := Ground.chain }], guard := none }) (v := ?_) rfl (by kernel_rfl) (by kernel_rfl) (by kernel_rfl) (fun _ _ _ h => h) (Or.inl ⟨by rfl, ?_⟩) (by assumption) ?_
  rotate_left
  · intro w hSw
    try dsimp only at hSw
    go_simp
    try with_reducible rfl
  try simp only [Act.put, List.setIfInBounds_toArray, List.set_cons_zero, List.set_cons_succ]
  refine wpAnyH_take (i := 11) (oi := { dst := some 74, op := Op.load 23 (Operand.tmp 2), type := 23, pos := "law.go:62", after := #[{ on := 10, ground := Ground.guard }], guard := some (10, true) }) (v := ?_) rfl (by kernel_rfl) (by kernel_rfl) (by kernel_rfl) (fun _ _ _ h => h) (Or.inl ⟨by rfl, ?_⟩) (by assumption) ?_
  rotate_left
  · intro w hSw
    try dsimp only at hSw
    obtain ⟨⟨c0, c1, c2⟩, _⟩ := row3 ((hSw.block _ (lt_of_block R79.out)).trans R79.out)
    go_simp
    try with_reducible rfl
  try simp only [Act.put, List.setIfInBounds_toArray, List.set_cons_zero, List.set_cons_succ]
  refine wpAnyH_take (i := 14) (oi := { dst := some 77, op := Op.load 23 (Operand.tmp 2), type := 23, pos := "law.go:62", after := #[{ on := 10, ground := Ground.guard }], guard := some (10, true) }) (v := ?_) rfl (by kernel_rfl) (by kernel_rfl) (by kernel_rfl) (fun _ _ _ h => h) (Or.inl ⟨by rfl, ?_⟩) (by assumption) ?_
  rotate_left
  · intro w hSw
    try dsimp only at hSw
    obtain ⟨⟨c0, c1, c2⟩, _⟩ := row3 ((hSw.block _ (lt_of_block R79.out)).trans R79.out)
    go_simp
    try with_reducible rfl
  try simp only [Act.put, List.setIfInBounds_toArray, List.set_cons_zero, List.set_cons_succ]
  refine wpAnyH_ready (rs := [12]) (by kernel_rfl) (by simp) ?_
  refine AllReadyH.cons (o := { dst := some 75, op := Op.call { callee := Callee.value (Operand.func 20), args := #[Operand.tmp 74], argTypes := #[23] }, type := 23, pos := "law.go:62", after := #[{ on := 11, ground := Ground.data }, { on := 10, ground := Ground.chain }, { on := 10, ground := Ground.guard }], guard := some (10, true) }) rfl (fun K hK => ?_) AllReadyH.nil
  go_simp
  with_reducible refine (HN1.out _).mono ?_
  rintro e wq2 ⟨rfl, hb⟩
  have hT2 : (fun W : World => Below wd.heap.size wd W) wq2 := hT0.trans (hb.mono hT0.size)
  refine hK.out _ _ hT2 (fun _ => ?_)
  clear hK K hb
  try simp only [Act.put, List.setIfInBounds_toArray, List.set_cons_zero, List.set_cons_succ]
  refine wpAnyH_ready (rs := [13]) (by kernel_rfl) (by simp) ?_
  refine AllReadyH.cons (o := { dst := some 76, op := Op.call { callee := Callee.value (Operand.func 20), args := #[Operand.tmp 75], argTypes := #[23] }, type := 23, pos := "law.go:62", after := #[{ on := 12, ground := Ground.data }, { on := 12, ground := Ground.chain }, { on := 10, ground := Ground.guard }], guard := some (10, true) }) rfl (fun K hK => ?_) AllReadyH.nil
  go_simp
  with_reducible refine (HN2.out _).mono ?_
  rintro e wq3 ⟨rfl, hb⟩
  have hT3 : (fun W : World => Below wd.heap.size wd W) wq3 := hT2.trans (hb.mono hT2.size)
  refine hK.out _ _ hT3 (fun _ => ?_)
  clear hK K hb
  try simp only [Act.put, List.setIfInBounds_toArray, List.set_cons_zero, List.set_cons_succ]
  refine wpAnyH_take (i := 15) (oi := { dst := some 78, op := Op.binOp BinOp.eql 23 (Operand.tmp 76) (Operand.tmp 77) 23, type := 4, pos := "law.go:62", after := #[{ on := 13, ground := Ground.data }, { on := 14, ground := Ground.data }, { on := 10, ground := Ground.guard }], guard := some (10, true) }) (v := ?_) rfl (by kernel_rfl) (by kernel_rfl) (by kernel_rfl) (fun _ _ _ h => h) (Or.inl ⟨by rfl, ?_⟩) (by assumption) ?_
  rotate_left
  · intro w hSw
    try dsimp only at hSw
    go_simp
    try with_reducible rfl
  try simp only [Act.put, List.setIfInBounds_toArray, List.set_cons_zero, List.set_cons_succ]
  refine wpAnyH_take (i := 16) (oi := { dst := some 79, op := Op.pick (Operand.tmp 73) (Operand.tmp 78) (Operand.const (Value.bool false)), type := 4, pos := "law.go:62", after := #[{ on := 10, ground := Ground.data }, { on := 15, ground := Ground.data }], guard := none }) (v := ?_) rfl (by kernel_rfl) (by kernel_rfl) (by kernel_rfl) (fun _ _ _ h => h) (Or.inl ⟨by rfl, ?_⟩) (by assumption) ?_
  rotate_left
  · intro w hSw
    try dsimp only at hSw
    go_simp
    try with_reducible rfl
  try simp only [Act.put, List.setIfInBounds_toArray, List.set_cons_zero, List.set_cons_succ]
  refine wpAnyH_take (i := 17) (oi := { dst := some 4, op := Op.assign (Operand.tmp 79), type := 4, pos := "law.go:62", after := #[{ on := 16, ground := Ground.data }, { on := 13, ground := Ground.chain }, { on := 0, ground := Ground.phase }, { on := 1, ground := Ground.phase }, { on := 2, ground := Ground.phase }, { on := 3, ground := Ground.phase }, { on := 4, ground := Ground.phase }, { on := 5, ground := Ground.phase }, { on := 6, ground := Ground.phase }, { on := 7, ground := Ground.phase }, { on := 8, ground := Ground.phase }, { on := 9, ground := Ground.phase }, { on := 10, ground := Ground.phase }, { on := 11, ground := Ground.phase }, { on := 12, ground := Ground.phase }, { on := 13, ground := Ground.phase }, { on := 14, ground := Ground.phase }, { on := 15, ground := Ground.phase }, { on := 16, ground := Ground.phase }], guard := none }) (v := ?_) rfl (by kernel_rfl) (by kernel_rfl) (by kernel_rfl) (fun _ _ _ h => h) (Or.inl ⟨by rfl, ?_⟩) (by assumption) ?_
  rotate_left
  · intro w hSw
    try dsimp only at hSw
    go_simp
    try with_reducible rfl
  try simp only [Act.put, List.setIfInBounds_toArray, List.set_cons_zero, List.set_cons_succ]
  refine wpAnyH_done (by kernel_rfl) ?_ _
  have R85 := Lib.hid ((hT3.block _ (lt_of_block R79.out)).trans R79.out)
  have R86 := Lib.hid ((hT3.block _ (lt_of_block R80.out)).trans R80.out)
  have R87 := Lib.hid ((hT3.block _ (lt_of_block R81.out)).trans R81.out)
  have R88 := Lib.hid ((hT3.block _ (lt_of_block R82.out)).trans R82.out)
  have X89 := Lib.hid (TabB.below X83.out hT3)
  have B90 := Lib.hid (B84.out.trans (hT3.mono B84.out.size))
  clear hT0 hT2 hT3 R79 R80 R81 R82 X83 B84
  go_wp2_with fail
  go_ret
  exact ⟨rfl, B90.out⟩
set_option maxRecDepth 100000 in
set_option maxHeartbeats 4000000 in
theorem back_y_n (w : World) (n : Bool) (dg : ByteArray) (ex : Int) (s : ByteArray) (hl : ¬ 200 < dg.size) (hs : ¬ 1000 < s.size) (tn : Bool) (td : ByteArray) (te : Int) (a1 : parseP s = (⟨tn, td, te⟩, 0)) (k1 : dsane tn (unstr td) te = true) (sT : td.size ≤ 1000000) (a2 : parseP (printT tn td te) = (⟨tn, td, te⟩, 0)) (zT : (printT tn td te).size ≤ 1000) (k2 : dsane n (unstr dg) ex = false) (a3 : printT n dg ex = ⟨#[]⟩) (ht : TabB w) :
    Calls Tryd.prog 4 #[.agg #[.bool n, .string dg, .int .i64 ex], .string s] w fun e w' => e = .returned (.bool true) ∧ Below w.heap.size w w' := by
  have dl : decide ((200 : Int) < (dg.size : Int)) = false := decide_eq_false (by omega)
  have dln : decide (200 < dg.size) = false := decide_eq_false hl
  have ds : decide ((1000 : Int) < (s.size : Int)) = false := decide_eq_false (by omega)
  have dsn : decide (1000 < s.size) = false := decide_eq_false hs
  have HP := Lib.hid (fun v => Parse_pair v s (by omega))
  rw [a1] at HP
  have HPd := Lib.hid (fun v h => Print_any v n dg ex (by omega) h)
  have HSd := Lib.hid (fun v => Sane_all v n dg ex)
  rw [k2] at HSd
  have HPT := Lib.hid (fun v h => Print_any v tn td te sT h)
  have HPP := Lib.hid (fun v => Parse_pair v (printT tn td te) (by omega))
  rw [a2] at HPP
  generalize printT tn td te = pT at HPT HPP
  have HST := Lib.hid (fun v => Sane_all v tn td te)
  rw [k1] at HST
  clear a2 zT k1 sT
  rw [a3] at HPd
  clear a3
  clear hl hs a1 k2
  have hB : Below w.heap.size w (w.alloc (.cells #[.bool n, .string dg, .int .i64 ex] 23)) := (Below.refl _ _).alloc (Nat.le_refl _) _
  have r1 : (w.alloc (.cells #[.bool n, .string dg, .int .i64 ex] 23)).heap[w.heap.size]? = some (.cells #[.bool n, .string dg, .int .i64 ex] 23 (0, 0)) := heap_alloc_new _ _
  obtain ⟨wa, hwa⟩ : ∃ wa, wa = w.alloc (.cells #[.bool n, .string dg, .int .i64 ex] 23) := ⟨_, rfl⟩
  rw [← hwa] at hB r1
  have HW := Lib.hid hwa
  have HB := Lib.hid hB
  have HR := Lib.hid r1
  have HT := Lib.hid (TabB.below ht hB)
  clear hwa hB r1 ht
  go_enter Tryd.func4, Tryd.ntmps4
  go_upto_region 1 with fail
  rw [← HW.out]
  clear HW
  go_wp2_with fail
  with_reducible refine (awake_any _ HT.out).mono ?_
  rintro e u1 ⟨rfl, hb⟩
  have R2 := Lib.hid ((hb.block _ (lt_of_block HR.out)).trans HR.out)
  have X3 := Lib.hid (TabB.below HT.out hb)
  have B4 := Lib.hid (HB.out.trans (hb.mono HB.out.size))
  clear hb HR HT HB
  obtain ⟨⟨c5, c6, c7⟩, _⟩ := row3 R2.out
  go_wp2_with fail
  clear c5 c6 c7
  with_reducible refine (HP.out _).mono ?_
  rintro e u8 ⟨rfl, hb⟩
  have R9 := Lib.hid ((hb.block _ (lt_of_block R2.out)).trans R2.out)
  have X10 := Lib.hid (TabB.below X3.out hb)
  have B11 := Lib.hid (B4.out.trans (hb.mono B4.out.size))
  clear hb R2 X3 B4
  unfold pairV
  obtain ⟨u12, hwv, hr, hb⟩ := boxed3 u8 (.bool tn) (.string td) (.int .i64 te)
  have R13 := Lib.hid ((hb.block _ (lt_of_block R9.out)).trans R9.out)
  have X14 := Lib.hid (TabB.below X10.out hb)
  have B15 := Lib.hid (B11.out.trans (hb.mono B11.out.size))
  have R16 := Lib.hid hr
  have HYW := Lib.hid hwv
  clear hb hr hwv R9 X10 B11
  go_upto_region 5 with fail
  rw [← HYW.out]
  clear HYW
  obtain ⟨⟨c17, c18, c19⟩, _⟩ := row3 R16.out
  go_wp2_with fail
  clear c17 c18 c19
  with_reducible refine (HPT.out _ X14.out).mono ?_
  rintro e u20 ⟨rfl, hb⟩
  have R21 := Lib.hid ((hb.block _ (lt_of_block R13.out)).trans R13.out)
  have R22 := Lib.hid ((hb.block _ (lt_of_block R16.out)).trans R16.out)
  have X23 := Lib.hid (TabB.below X14.out hb)
  have B24 := Lib.hid (B15.out.trans (hb.mono B15.out.size))
  clear hb R13 R16 X14 B15
  go_wp2_with fail
  with_reducible refine (HPP.out _).mono ?_
  rintro e u25 ⟨rfl, hb⟩
  have R26 := Lib.hid ((hb.block _ (lt_of_block R21.out)).trans R21.out)
  have R27 := Lib.hid ((hb.block _ (lt_of_block R22.out)).trans R22.out)
  have X28 := Lib.hid (TabB.below X23.out hb)
  have B29 := Lib.hid (B24.out.trans (hb.mono B24.out.size))
  clear hb R21 R22 X23 B24
  unfold pairV
  obtain ⟨u30, hwv, hr, hb⟩ := boxed3 u25 (.bool tn) (.string td) (.int .i64 te)
  have R31 := Lib.hid ((hb.block _ (lt_of_block R26.out)).trans R26.out)
  have R32 := Lib.hid ((hb.block _ (lt_of_block R27.out)).trans R27.out)
  have X33 := Lib.hid (TabB.below X28.out hb)
  have B34 := Lib.hid (B29.out.trans (hb.mono B29.out.size))
  have R35 := Lib.hid hr
  have HYW := Lib.hid hwv
  clear hb hr hwv R26 R27 X28 B29
  go_upto_region 7 with fail
  rw [← HYW.out]
  clear HYW
  obtain ⟨⟨c36, c37, c38⟩, _⟩ := row3 R32.out
  obtain ⟨⟨c39, c40, c41⟩, _⟩ := row3 R35.out
  go_wp2_with fail
  clear c36 c37 c38 c39 c40 c41
  with_reducible refine (HST.out _).mono ?_
  rintro e u42 ⟨rfl, hb⟩
  have R43 := Lib.hid ((hb.block _ (lt_of_block R31.out)).trans R31.out)
  have R44 := Lib.hid ((hb.block _ (lt_of_block R32.out)).trans R32.out)
  have R45 := Lib.hid ((hb.block _ (lt_of_block R35.out)).trans R35.out)
  have X46 := Lib.hid (TabB.below X33.out hb)
  have B47 := Lib.hid (B34.out.trans (hb.mono B34.out.size))
  clear hb R31 R32 R35 X33 B34
  obtain ⟨⟨c48, c49, c50⟩, _⟩ := row3 R43.out
  go_wp2_with fail
  clear c48 c49 c50
  with_reducible refine (HSd.out _).mono ?_
  rintro e u51 ⟨rfl, hb⟩
  have R52 := Lib.hid ((hb.block _ (lt_of_block R43.out)).trans R43.out)
  have R53 := Lib.hid ((hb.block _ (lt_of_block R44.out)).trans R44.out)
  have R54 := Lib.hid ((hb.block _ (lt_of_block R45.out)).trans R45.out)
  have X55 := Lib.hid (TabB.below X46.out hb)
  have B56 := Lib.hid (B47.out.trans (hb.mono B47.out.size))
  clear hb R43 R44 R45 X46 B47
  obtain ⟨⟨c57, c58, c59⟩, _⟩ := row3 R52.out
  go_wp2_with fail
  clear c57 c58 c59
  with_reducible refine (HPd.out _ X55.out).mono ?_
  rintro e u60 ⟨rfl, hb⟩
  have R61 := Lib.hid ((hb.block _ (lt_of_block R52.out)).trans R52.out)
  have R62 := Lib.hid ((hb.block _ (lt_of_block R53.out)).trans R53.out)
  have R63 := Lib.hid ((hb.block _ (lt_of_block R54.out)).trans R54.out)
  have X64 := Lib.hid (TabB.below X55.out hb)
  have B65 := Lib.hid (B56.out.trans (hb.mono B56.out.size))
  clear hb R52 R53 R54 X55 B56
  go_wp2_with fail
  go_ret
  exact ⟨rfl, B65.out⟩
set_option maxRecDepth 100000 in
set_option maxHeartbeats 4000000 in
theorem back_n_y (w : World) (n : Bool) (dg : ByteArray) (ex : Int) (s : ByteArray) (hl : ¬ 200 < dg.size) (hs : ¬ 1000 < s.size) (tn : Bool) (td : ByteArray) (te cc : Int) (a1 : parseP s = (⟨tn, td, te⟩, cc)) (hcc : cc ≠ 0) (k2 : dsane n (unstr dg) ex = true) (m : Bool) (q1 : ngd n dg ex = m) (q2 : ngd m dg ex = n) (a3 : parseP (printT n dg ex) = (⟨n, dg, ex⟩, 0)) (zD : (printT n dg ex).size ≤ 1000) (ht : TabB w) :
    Calls Tryd.prog 4 #[.agg #[.bool n, .string dg, .int .i64 ex], .string s] w fun e w' => e = .returned (.bool true) ∧ Below w.heap.size w w' := by
  have dl : decide ((200 : Int) < (dg.size : Int)) = false := decide_eq_false (by omega)
  have dln : decide (200 < dg.size) = false := decide_eq_false hl
  have ds : decide ((1000 : Int) < (s.size : Int)) = false := decide_eq_false (by omega)
  have dsn : decide (1000 < s.size) = false := decide_eq_false hs
  have HP := Lib.hid (fun v => Parse_pair v s (by omega))
  rw [a1] at HP
  have HPd := Lib.hid (fun v h => Print_any v n dg ex (by omega) h)
  have HSd := Lib.hid (fun v => Sane_all v n dg ex)
  rw [k2] at HSd
  have dcc : (cc == 0) = false := beq_eq_false_iff_ne.2 hcc
  have HDc := Lib.hid dcc
  clear hcc dcc
  have HPD := Lib.hid (fun v => Parse_pair v (printT n dg ex) (by omega))
  rw [a3] at HPD
  generalize printT n dg ex = pD at HPd HPD
  have HN1 := Lib.hid (fun v => Neg_any v n dg ex (by omega))
  have HN2 := Lib.hid (fun v => Neg_any v m dg ex (by omega))
  rw [q1] at HN1
  rw [q2] at HN2
  clear q1 q2 a3 zD
  clear hl hs a1 k2
  have hB : Below w.heap.size w (w.alloc (.cells #[.bool n, .string dg, .int .i64 ex] 23)) := (Below.refl _ _).alloc (Nat.le_refl _) _
  have r1 : (w.alloc (.cells #[.bool n, .string dg, .int .i64 ex] 23)).heap[w.heap.size]? = some (.cells #[.bool n, .string dg, .int .i64 ex] 23 (0, 0)) := heap_alloc_new _ _
  obtain ⟨wa, hwa⟩ : ∃ wa, wa = w.alloc (.cells #[.bool n, .string dg, .int .i64 ex] 23) := ⟨_, rfl⟩
  rw [← hwa] at hB r1
  have HW := Lib.hid hwa
  have HB := Lib.hid hB
  have HR := Lib.hid r1
  have HT := Lib.hid (TabB.below ht hB)
  clear hwa hB r1 ht
  go_enter Tryd.func4, Tryd.ntmps4
  go_upto_region 1 with fail
  rw [← HW.out]
  clear HW
  go_wp2_with fail
  with_reducible refine (awake_any _ HT.out).mono ?_
  rintro e u1 ⟨rfl, hb⟩
  have R2 := Lib.hid ((hb.block _ (lt_of_block HR.out)).trans HR.out)
  have X3 := Lib.hid (TabB.below HT.out hb)
  have B4 := Lib.hid (HB.out.trans (hb.mono HB.out.size))
  clear hb HR HT HB
  obtain ⟨⟨c5, c6, c7⟩, _⟩ := row3 R2.out
  go_wp2_with fail
  clear c5 c6 c7
  with_reducible refine (HP.out _).mono ?_
  rintro e u8 ⟨rfl, hb⟩
  have R9 := Lib.hid ((hb.block _ (lt_of_block R2.out)).trans R2.out)
  have X10 := Lib.hid (TabB.below X3.out hb)
  have B11 := Lib.hid (B4.out.trans (hb.mono B4.out.size))
  clear hb R2 X3 B4
  unfold pairV
  have dcc := HDc.out
  obtain ⟨u12, hwv, hr, hb⟩ := boxed3 u8 (.bool tn) (.string td) (.int .i64 te)
  have R13 := Lib.hid ((hb.block _ (lt_of_block R9.out)).trans R9.out)
  have X14 := Lib.hid (TabB.below X10.out hb)
  have B15 := Lib.hid (B11.out.trans (hb.mono B11.out.size))
  have R16 := Lib.hid hr
  have HYW := Lib.hid hwv
  clear hb hr hwv R9 X10 B11
  go_upto_region 5 with fail
  rw [← HYW.out]
  clear HYW
  obtain ⟨⟨c17, c18, c19⟩, _⟩ := row3 R13.out
  go_wp2_with fail
  clear c17 c18 c19
  with_reducible refine (HSd.out _).mono ?_
  rintro e u20 ⟨rfl, hb⟩
  have R21 := Lib.hid ((hb.block _ (lt_of_block R13.out)).trans R13.out)
  have R22 := Lib.hid ((hb.block _ (lt_of_block R16.out)).trans R16.out)
  have X23 := Lib.hid (TabB.below X14.out hb)
  have B24 := Lib.hid (B15.out.trans (hb.mono B15.out.size))
  clear hb R13 R16 X14 B15
  obtain ⟨⟨c25, c26, c27⟩, _⟩ := row3 R21.out
  go_wp2_with fail
  clear c25 c26 c27
  with_reducible refine (HPd.out _ X23.out).mono ?_
  rintro e u28 ⟨rfl, hb⟩
  have R29 := Lib.hid ((hb.block _ (lt_of_block R21.out)).trans R21.out)
  have R30 := Lib.hid ((hb.block _ (lt_of_block R22.out)).trans R22.out)
  have X31 := Lib.hid (TabB.below X23.out hb)
  have B32 := Lib.hid (B24.out.trans (hb.mono B24.out.size))
  clear hb R21 R22 X23 B24
  go_wp2_with fail
  with_reducible refine (HPD.out _).mono ?_
  rintro e u33 ⟨rfl, hb⟩
  have R34 := Lib.hid ((hb.block _ (lt_of_block R29.out)).trans R29.out)
  have R35 := Lib.hid ((hb.block _ (lt_of_block R30.out)).trans R30.out)
  have X36 := Lib.hid (TabB.below X31.out hb)
  have B37 := Lib.hid (B32.out.trans (hb.mono B32.out.size))
  clear hb R29 R30 X31 B32
  unfold pairV
  obtain ⟨u38, hwv, hr, hb⟩ := boxed3 u33 (.bool n) (.string dg) (.int .i64 ex)
  have R39 := Lib.hid ((hb.block _ (lt_of_block R34.out)).trans R34.out)
  have R40 := Lib.hid ((hb.block _ (lt_of_block R35.out)).trans R35.out)
  have X41 := Lib.hid (TabB.below X36.out hb)
  have B42 := Lib.hid (B37.out.trans (hb.mono B37.out.size))
  have R43 := Lib.hid hr
  have HYW := Lib.hid hwv
  clear hb hr hwv R34 R35 X36 B37
  go_upto_region 12 with fail
  rw [← HYW.out]
  clear HYW
  have hbd : Below u38.heap.size u38 u38.drew := (Below.refl _ _).drew
  have R44 := Lib.hid ((hbd.block _ (lt_of_block R39.out)).trans R39.out)
  have R45 := Lib.hid ((hbd.block _ (lt_of_block R40.out)).trans R40.out)
  have R46 := Lib.hid ((hbd.block _ (lt_of_block R43.out)).trans R43.out)
  have X47 := Lib.hid (TabB.below X41.out hbd)
  have B48 := Lib.hid (B42.out.trans (hbd.mono B42.out.size))
  clear hbd R39 R40 R43 X41 B42
  have hT0 : (fun W : World => Below u38.drew.heap.size u38.drew W) u38.drew := Below.refl _ _
  refine wp_region_held_drew (S := (fun W : World => Below u38.drew.heap.size u38.drew W)) (by kernel_rfl) hT0 (fun hHeld => ?_)
  clear hHeld
  generalize u38.drew = wd at B48 R44 R45 R46 X47 hT0 ⊢
  refine wpAnyH_take (i := 0) (oi := { dst := some 63, op := Op.move (Operand.tmp 5), type := 4, pos := "law.go:62", after := #[], guard := none }) (v := ?_) rfl (by kernel_rfl) (by kernel_rfl) (by kernel_rfl) (fun _ _ _ h => h) (Or.inl ⟨by rfl, ?_⟩) (by assumption) ?_
  rotate_left
  · intro w hSw
    try dsimp only at hSw
    go_simp
    try with_reducible rfl
  try simp only [Act.put, List.setIfInBounds_toArray, List.set_cons_zero, List.set_cons_succ]
  refine wpAnyH_take (i := 1) (oi := { dst := some 64, op := Op.move (Operand.tmp 63), type := 4, pos := "law.go:62", after := #[{ on := 0, ground := Ground.data }], guard := none }) (v := ?_) rfl (by kernel_rfl) (by kernel_rfl) (by kernel_rfl) (fun _ _ _ h => h) (Or.inl ⟨by rfl, ?_⟩) (by assumption) ?_
  rotate_left
  · intro w hSw
    try dsimp only at hSw
    go_simp
    try with_reducible rfl
  try simp only [Act.put, List.setIfInBounds_toArray, List.set_cons_zero, List.set_cons_succ]
  refine wpAnyH_take (i := 2) (oi := { dst := some 65, op := Op.load 23 (Operand.tmp 10), type := 23, pos := "law.go:62", after := #[{ on := 1, ground := Ground.guard }], guard := some (1, true) }) (v := ?_) rfl (by kernel_rfl) (by kernel_rfl) (by kernel_rfl) (fun _ _ _ h => h) (Or.inl ⟨by rfl, ?_⟩) (by assumption) ?_
  rotate_left
  · intro w hSw
    try dsimp only at hSw
    obtain ⟨⟨c0, c1, c2⟩, _⟩ := row3 ((hSw.block _ (lt_of_block R46.out)).trans R46.out)
    go_simp
    try with_reducible rfl
  try simp only [Act.put, List.setIfInBounds_toArray, List.set_cons_zero, List.set_cons_succ]
  refine wpAnyH_take (i := 3) (oi := { dst := some 66, op := Op.load 23 (Operand.tmp 2), type := 23, pos := "law.go:62", after := #[{ on := 1, ground := Ground.guard }], guard := some (1, true) }) (v := ?_) rfl (by kernel_rfl) (by kernel_rfl) (by kernel_rfl) (fun _ _ _ h => h) (Or.inl ⟨by rfl, ?_⟩) (by assumption) ?_
  rotate_left
  · intro w hSw
    try dsimp only at hSw
    obtain ⟨⟨c0, c1, c2⟩, _⟩ := row3 ((hSw.block _ (lt_of_block R44.out)).trans R44.out)
    go_simp
    try with_reducible rfl
  try simp only [Act.put, List.setIfInBounds_toArray, List.set_cons_zero, List.set_cons_succ]
  refine wpAnyH_take (i := 4) (oi := { dst := some 67, op := Op.binOp BinOp.eql 23 (Operand.tmp 65) (Operand.tmp 66) 23, type := 4, pos := "law.go:62", after := #[{ on := 2, ground := Ground.data }, { on := 3, ground := Ground.data }, { on := 1, ground := Ground.guard }], guard := some (1, true) }) (v := ?_) rfl (by kernel_rfl) (by kernel_rfl) (by kernel_rfl) (fun _ _ _ h => h) (Or.inl ⟨by rfl, ?_⟩) (by assumption) ?_
  rotate_left
  · intro w hSw
    try dsimp only at hSw
    go_simp
    try with_reducible rfl
  try simp only [Act.put, List.setIfInBounds_toArray, List.set_cons_zero, List.set_cons_succ]
  refine wpAnyH_take (i := 5) (oi := { dst := some 68, op := Op.pick (Operand.tmp 64) (Operand.tmp 67) (Operand.const (Value.bool false)), type := 4, pos := "law.go:62", after := #[{ on := 1, ground := Ground.data }, { on := 4, ground := Ground.data }], guard := none }) (v := ?_) rfl (by kernel_rfl) (by kernel_rfl) (by kernel_rfl) (fun _ _ _ h => h) (Or.inl ⟨by rfl, ?_⟩) (by assumption) ?_
  rotate_left
  · intro w hSw
    try dsimp only at hSw
    go_simp
    try with_reducible rfl
  try simp only [Act.put, List.setIfInBounds_toArray, List.set_cons_zero, List.set_cons_succ]
  refine wpAnyH_take (i := 6) (oi := { dst := some 69, op := Op.move (Operand.tmp 68), type := 4, pos := "law.go:62", after := #[{ on := 5, ground := Ground.data }, { on := 1, ground := Ground.chain }], guard := none }) (v := ?_) rfl (by kernel_rfl) (by kernel_rfl) (by kernel_rfl) (fun _ _ _ h => h) (Or.inl ⟨by rfl, ?_⟩) (by assumption) ?_
  rotate_left
  · intro w hSw
    try dsimp only at hSw
    go_simp
    try with_reducible rfl
  try simp only [Act.put, List.setIfInBounds_toArray, List.set_cons_zero, List.set_cons_succ]
  refine wpAnyH_take (i := 7) (oi := { dst := some 70, op := Op.move (Operand.tmp 11), type := 25, pos := "law.go:62", after := #[{ on := 6, ground := Ground.guard }], guard := some (6, true) }) (v := ?_) rfl (by kernel_rfl) (by kernel_rfl) (by kernel_rfl) (fun _ _ _ h => h) (Or.inl ⟨by rfl, ?_⟩) (by assumption) ?_
  rotate_left
  · intro w hSw
    try dsimp only at hSw
    go_simp
    try with_reducible rfl
  try simp only [Act.put, List.setIfInBounds_toArray, List.set_cons_zero, List.set_cons_succ]
  refine wpAnyH_take (i := 8) (oi := { dst := some 71, op := Op.binOp BinOp.eql 25 (Operand.tmp 70) (Operand.const (Value.int IntKind.i64 0)) 25, type := 4, pos := "law.go:62", after := #[{ on := 7, ground := Ground.data }, { on := 6, ground := Ground.guard }], guard := some (6, true) }) (v := ?_) rfl (by kernel_rfl) (by kernel_rfl) (by kernel_rfl) (fun _ _ _ h => h) (Or.inl ⟨by rfl, ?_⟩) (by assumption) ?_
  rotate_left
  · intro w hSw
    try dsimp only at hSw
    go_simp
    try with_reducible rfl
  try simp only [Act.put, List.setIfInBounds_toArray, List.set_cons_zero, List.set_cons_succ]
  refine wpAnyH_take (i := 9) (oi := { dst := some 72, op := Op.pick (Operand.tmp 69) (Operand.tmp 71) (Operand.const (Value.bool false)), type := 4, pos := "law.go:62", after := #[{ on := 6, ground := Ground.data }, { on := 8, ground := Ground.data }], guard := none }) (v := ?_) rfl (by kernel_rfl) (by kernel_rfl) (by kernel_rfl) (fun _ _ _ h => h) (Or.inl ⟨by rfl, ?_⟩) (by assumption) ?_
  rotate_left
  · intro w hSw
    try dsimp only at hSw
    go_simp
    try with_reducible rfl
  try simp only [Act.put, List.setIfInBounds_toArray, List.set_cons_zero, List.set_cons_succ]
  refine wpAnyH_take (i := 10) (oi := { dst := some 73, op := Op.move (Operand.tmp 72), type := 4, pos := "law.go:62", after := #[{ on := 9, ground := Ground.data }, { on := 6, ground := Ground.chain }], guard := none }) (v := ?_) rfl (by kernel_rfl) (by kernel_rfl) (by kernel_rfl) (fun _ _ _ h => h) (Or.inl ⟨by rfl, ?_⟩) (by assumption) ?_
  rotate_left
  · intro w hSw
    try dsimp only at hSw
    go_simp
    try with_reducible rfl
  try simp only [Act.put, List.setIfInBounds_toArray, List.set_cons_zero, List.set_cons_succ]
  refine wpAnyH_take (i := 11) (oi := { dst := some 74, op := Op.load 23 (Operand.tmp 2), type := 23, pos := "law.go:62", after := #[{ on := 10, ground := Ground.guard }], guard := some (10, true) }) (v := ?_) rfl (by kernel_rfl) (by kernel_rfl) (by kernel_rfl) (fun _ _ _ h => h) (Or.inl ⟨by rfl, ?_⟩) (by assumption) ?_
  rotate_left
  · intro w hSw
    try dsimp only at hSw
    obtain ⟨⟨c0, c1, c2⟩, _⟩ := row3 ((hSw.block _ (lt_of_block R44.out)).trans R44.out)
    go_simp
    try with_reducible rfl
  try simp only [Act.put, List.setIfInBounds_toArray, List.set_cons_zero, List.set_cons_succ]
  refine wpAnyH_take (i := 14) (oi := { dst := some 77, op := Op.load 23 (Operand.tmp 2), type := 23, pos := "law.go:62", after := #[{ on := 10, ground := Ground.guard }], guard := some (10, true) }) (v := ?_) rfl (by kernel_rfl) (by kernel_rfl) (by kernel_rfl) (fun _ _ _ h => h) (Or.inl ⟨by rfl, ?_⟩) (by assumption) ?_
  rotate_left
  · intro w hSw
    try dsimp only at hSw
    obtain ⟨⟨c0, c1, c2⟩, _⟩ := row3 ((hSw.block _ (lt_of_block R44.out)).trans R44.out)
    go_simp
    try with_reducible rfl
  try simp only [Act.put, List.setIfInBounds_toArray, List.set_cons_zero, List.set_cons_succ]
  refine wpAnyH_ready (rs := [12]) (by kernel_rfl) (by simp) ?_
  refine AllReadyH.cons (o := { dst := some 75, op := Op.call { callee := Callee.value (Operand.func 20), args := #[Operand.tmp 74], argTypes := #[23] }, type := 23, pos := "law.go:62", after := #[{ on := 11, ground := Ground.data }, { on := 10, ground := Ground.chain }, { on := 10, ground := Ground.guard }], guard := some (10, true) }) rfl (fun K hK => ?_) AllReadyH.nil
  go_simp
  with_reducible refine (HN1.out _).mono ?_
  rintro e wq2 ⟨rfl, hb⟩
  have hT2 : (fun W : World => Below wd.heap.size wd W) wq2 := hT0.trans (hb.mono hT0.size)
  refine hK.out _ _ hT2 (fun _ => ?_)
  clear hK K hb
  try simp only [Act.put, List.setIfInBounds_toArray, List.set_cons_zero, List.set_cons_succ]
  refine wpAnyH_ready (rs := [13]) (by kernel_rfl) (by simp) ?_
  refine AllReadyH.cons (o := { dst := some 76, op := Op.call { callee := Callee.value (Operand.func 20), args := #[Operand.tmp 75], argTypes := #[23] }, type := 23, pos := "law.go:62", after := #[{ on := 12, ground := Ground.data }, { on := 12, ground := Ground.chain }, { on := 10, ground := Ground.guard }], guard := some (10, true) }) rfl (fun K hK => ?_) AllReadyH.nil
  go_simp
  with_reducible refine (HN2.out _).mono ?_
  rintro e wq3 ⟨rfl, hb⟩
  have hT3 : (fun W : World => Below wd.heap.size wd W) wq3 := hT2.trans (hb.mono hT2.size)
  refine hK.out _ _ hT3 (fun _ => ?_)
  clear hK K hb
  try simp only [Act.put, List.setIfInBounds_toArray, List.set_cons_zero, List.set_cons_succ]
  refine wpAnyH_take (i := 15) (oi := { dst := some 78, op := Op.binOp BinOp.eql 23 (Operand.tmp 76) (Operand.tmp 77) 23, type := 4, pos := "law.go:62", after := #[{ on := 13, ground := Ground.data }, { on := 14, ground := Ground.data }, { on := 10, ground := Ground.guard }], guard := some (10, true) }) (v := ?_) rfl (by kernel_rfl) (by kernel_rfl) (by kernel_rfl) (fun _ _ _ h => h) (Or.inl ⟨by rfl, ?_⟩) (by assumption) ?_
  rotate_left
  · intro w hSw
    try dsimp only at hSw
    go_simp
    try with_reducible rfl
  try simp only [Act.put, List.setIfInBounds_toArray, List.set_cons_zero, List.set_cons_succ]
  refine wpAnyH_take (i := 16) (oi := { dst := some 79, op := Op.pick (Operand.tmp 73) (Operand.tmp 78) (Operand.const (Value.bool false)), type := 4, pos := "law.go:62", after := #[{ on := 10, ground := Ground.data }, { on := 15, ground := Ground.data }], guard := none }) (v := ?_) rfl (by kernel_rfl) (by kernel_rfl) (by kernel_rfl) (fun _ _ _ h => h) (Or.inl ⟨by rfl, ?_⟩) (by assumption) ?_
  rotate_left
  · intro w hSw
    try dsimp only at hSw
    go_simp
    try with_reducible rfl
  try simp only [Act.put, List.setIfInBounds_toArray, List.set_cons_zero, List.set_cons_succ]
  refine wpAnyH_take (i := 17) (oi := { dst := some 4, op := Op.assign (Operand.tmp 79), type := 4, pos := "law.go:62", after := #[{ on := 16, ground := Ground.data }, { on := 13, ground := Ground.chain }, { on := 0, ground := Ground.phase }, { on := 1, ground := Ground.phase }, { on := 2, ground := Ground.phase }, { on := 3, ground := Ground.phase }, { on := 4, ground := Ground.phase }, { on := 5, ground := Ground.phase }, { on := 6, ground := Ground.phase }, { on := 7, ground := Ground.phase }, { on := 8, ground := Ground.phase }, { on := 9, ground := Ground.phase }, { on := 10, ground := Ground.phase }, { on := 11, ground := Ground.phase }, { on := 12, ground := Ground.phase }, { on := 13, ground := Ground.phase }, { on := 14, ground := Ground.phase }, { on := 15, ground := Ground.phase }, { on := 16, ground := Ground.phase }], guard := none }) (v := ?_) rfl (by kernel_rfl) (by kernel_rfl) (by kernel_rfl) (fun _ _ _ h => h) (Or.inl ⟨by rfl, ?_⟩) (by assumption) ?_
  rotate_left
  · intro w hSw
    try dsimp only at hSw
    go_simp
    try with_reducible rfl
  try simp only [Act.put, List.setIfInBounds_toArray, List.set_cons_zero, List.set_cons_succ]
  refine wpAnyH_done (by kernel_rfl) ?_ _
  have R49 := Lib.hid ((hT3.block _ (lt_of_block R44.out)).trans R44.out)
  have R50 := Lib.hid ((hT3.block _ (lt_of_block R45.out)).trans R45.out)
  have R51 := Lib.hid ((hT3.block _ (lt_of_block R46.out)).trans R46.out)
  have X52 := Lib.hid (TabB.below X47.out hT3)
  have B53 := Lib.hid (B48.out.trans (hT3.mono B48.out.size))
  clear hT0 hT2 hT3 R44 R45 R46 X47 B48
  go_wp2_with fail
  go_ret
  exact ⟨rfl, B53.out⟩
set_option maxRecDepth 100000 in
set_option maxHeartbeats 4000000 in
theorem back_n_n (w : World) (n : Bool) (dg : ByteArray) (ex : Int) (s : ByteArray) (hl : ¬ 200 < dg.size) (hs : ¬ 1000 < s.size) (tn : Bool) (td : ByteArray) (te cc : Int) (a1 : parseP s = (⟨tn, td, te⟩, cc)) (hcc : cc ≠ 0) (k2 : dsane n (unstr dg) ex = false) (a3 : printT n dg ex = ⟨#[]⟩) (ht : TabB w) :
    Calls Tryd.prog 4 #[.agg #[.bool n, .string dg, .int .i64 ex], .string s] w fun e w' => e = .returned (.bool true) ∧ Below w.heap.size w w' := by
  have dl : decide ((200 : Int) < (dg.size : Int)) = false := decide_eq_false (by omega)
  have dln : decide (200 < dg.size) = false := decide_eq_false hl
  have ds : decide ((1000 : Int) < (s.size : Int)) = false := decide_eq_false (by omega)
  have dsn : decide (1000 < s.size) = false := decide_eq_false hs
  have HP := Lib.hid (fun v => Parse_pair v s (by omega))
  rw [a1] at HP
  have HPd := Lib.hid (fun v h => Print_any v n dg ex (by omega) h)
  have HSd := Lib.hid (fun v => Sane_all v n dg ex)
  rw [k2] at HSd
  have dcc : (cc == 0) = false := beq_eq_false_iff_ne.2 hcc
  have HDc := Lib.hid dcc
  clear hcc dcc
  rw [a3] at HPd
  clear a3
  clear hl hs a1 k2
  have hB : Below w.heap.size w (w.alloc (.cells #[.bool n, .string dg, .int .i64 ex] 23)) := (Below.refl _ _).alloc (Nat.le_refl _) _
  have r1 : (w.alloc (.cells #[.bool n, .string dg, .int .i64 ex] 23)).heap[w.heap.size]? = some (.cells #[.bool n, .string dg, .int .i64 ex] 23 (0, 0)) := heap_alloc_new _ _
  obtain ⟨wa, hwa⟩ : ∃ wa, wa = w.alloc (.cells #[.bool n, .string dg, .int .i64 ex] 23) := ⟨_, rfl⟩
  rw [← hwa] at hB r1
  have HW := Lib.hid hwa
  have HB := Lib.hid hB
  have HR := Lib.hid r1
  have HT := Lib.hid (TabB.below ht hB)
  clear hwa hB r1 ht
  go_enter Tryd.func4, Tryd.ntmps4
  go_upto_region 1 with fail
  rw [← HW.out]
  clear HW
  go_wp2_with fail
  with_reducible refine (awake_any _ HT.out).mono ?_
  rintro e u1 ⟨rfl, hb⟩
  have R2 := Lib.hid ((hb.block _ (lt_of_block HR.out)).trans HR.out)
  have X3 := Lib.hid (TabB.below HT.out hb)
  have B4 := Lib.hid (HB.out.trans (hb.mono HB.out.size))
  clear hb HR HT HB
  obtain ⟨⟨c5, c6, c7⟩, _⟩ := row3 R2.out
  go_wp2_with fail
  clear c5 c6 c7
  with_reducible refine (HP.out _).mono ?_
  rintro e u8 ⟨rfl, hb⟩
  have R9 := Lib.hid ((hb.block _ (lt_of_block R2.out)).trans R2.out)
  have X10 := Lib.hid (TabB.below X3.out hb)
  have B11 := Lib.hid (B4.out.trans (hb.mono B4.out.size))
  clear hb R2 X3 B4
  unfold pairV
  have dcc := HDc.out
  obtain ⟨u12, hwv, hr, hb⟩ := boxed3 u8 (.bool tn) (.string td) (.int .i64 te)
  have R13 := Lib.hid ((hb.block _ (lt_of_block R9.out)).trans R9.out)
  have X14 := Lib.hid (TabB.below X10.out hb)
  have B15 := Lib.hid (B11.out.trans (hb.mono B11.out.size))
  have R16 := Lib.hid hr
  have HYW := Lib.hid hwv
  clear hb hr hwv R9 X10 B11
  go_upto_region 5 with fail
  rw [← HYW.out]
  clear HYW
  obtain ⟨⟨c17, c18, c19⟩, _⟩ := row3 R13.out
  go_wp2_with fail
  clear c17 c18 c19
  with_reducible refine (HSd.out _).mono ?_
  rintro e u20 ⟨rfl, hb⟩
  have R21 := Lib.hid ((hb.block _ (lt_of_block R13.out)).trans R13.out)
  have R22 := Lib.hid ((hb.block _ (lt_of_block R16.out)).trans R16.out)
  have X23 := Lib.hid (TabB.below X14.out hb)
  have B24 := Lib.hid (B15.out.trans (hb.mono B15.out.size))
  clear hb R13 R16 X14 B15
  obtain ⟨⟨c25, c26, c27⟩, _⟩ := row3 R21.out
  go_wp2_with fail
  clear c25 c26 c27
  with_reducible refine (HPd.out _ X23.out).mono ?_
  rintro e u28 ⟨rfl, hb⟩
  have R29 := Lib.hid ((hb.block _ (lt_of_block R21.out)).trans R21.out)
  have R30 := Lib.hid ((hb.block _ (lt_of_block R22.out)).trans R22.out)
  have X31 := Lib.hid (TabB.below X23.out hb)
  have B32 := Lib.hid (B24.out.trans (hb.mono B24.out.size))
  clear hb R21 R22 X23 B24
  go_wp2_with fail
  go_ret
  exact ⟨rfl, B32.out⟩
end Go.Proofs.YtpnhgggdjlglnaaDoor.dk
