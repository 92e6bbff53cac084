/- The walk of DecShifts. -/
import Derived.Test.YtpnhgggdjlglnaaDoorL1
import Derived.Deep.DeepCutAuto
import Derived.Deep.CutBlock
namespace Go.Proofs.YtpnhgggdjlglnaaDoor.dk
open Go.PlainAid Go.ChangeShapes Go.WideShapes Go.ChangeAt Go.RowKit

theorem andm255 (n : Int) : bits .and .i64 n 255 = n % 256 := by
  have h127 : (BitVec.ofInt 64 255).toNat = 2 ^ 8 - 1 := by decide
  have key : (BitVec.ofInt 64 n &&& BitVec.ofInt 64 255).toNat = (n % ((2 ^ 64 : Nat) : Int)).toNat % 2 ^ 8 := by
    rw [BitVec.toNat_and, BitVec.toNat_ofInt, h127, Nat.and_two_pow_sub_one_eq_mod]
  show IntKind.i64.wrap ((BitVec.ofInt 64 n &&& BitVec.ofInt 64 255).toNat : Nat) = n % 256
  rw [key, IntKind.wrap_i64]
  omega
set_option maxRecDepth 100000 in
set_option maxHeartbeats 2000000 in
theorem shifts_no (w : World) (n : Bool) (dg : ByteArray) (ex x1 : Int) (hok : dsane n (unstr dg) ex = false) (ht : TabB w) :
    Calls Tryd.prog 8 #[.agg #[.bool n, .string dg, .int .i64 ex], .int .i64 x1] w fun e w' => e = .returned (.bool true) ∧ Below w.heap.size w w' := by
  have HS := Lib.hid (fun v => Sane_all v n dg ex)
  rw [hok] at HS
  clear hok
  have hB : Below w.heap.size w (w.alloc (.cells #[.bool n, .string dg, .int .i64 ex] 23)) := (Below.refl _ _).alloc (Nat.le_refl _) _
  have r1 : (w.alloc (.cells #[.bool n, .string dg, .int .i64 ex] 23)).heap[w.heap.size]? = some (.cells #[.bool n, .string dg, .int .i64 ex] 23 (0, 0)) := heap_alloc_new _ _
  obtain ⟨wa, hwa⟩ : ∃ wa, wa = w.alloc (.cells #[.bool n, .string dg, .int .i64 ex] 23) := ⟨_, rfl⟩
  rw [← hwa] at hB r1
  have HW := Lib.hid hwa
  have HB := Lib.hid hB
  have HR := Lib.hid r1
  have HT := Lib.hid (TabB.below ht hB)
  clear hwa hB r1 ht
  go_enter Tryd.func8, Tryd.ntmps8
  go_upto_region 1 with fail
  rw [← HW.out]
  clear HW
  go_wp2_with fail
  with_reducible refine (awake_any _ HT.out).mono ?_
  rintro e u1 ⟨rfl, hb⟩
  have R2 := Lib.hid ((hb.block _ (lt_of_block HR.out)).trans HR.out)
  have X3 := Lib.hid (TabB.below HT.out hb)
  have B4 := Lib.hid (HB.out.trans (hb.mono HB.out.size))
  clear hb HR HT HB
  obtain ⟨⟨c5, c6, c7⟩, _⟩ := row3 R2.out
  go_wp2_with fail
  clear c5 c6 c7
  with_reducible refine (HS.out _).mono ?_
  rintro e u8 ⟨rfl, hb⟩
  have R9 := Lib.hid ((hb.block _ (lt_of_block R2.out)).trans R2.out)
  have X10 := Lib.hid (TabB.below X3.out hb)
  have B11 := Lib.hid (B4.out.trans (hb.mono B4.out.size))
  clear hb R2 X3 B4
  go_wp2_with fail
  go_ret
  exact ⟨rfl, B11.out⟩
set_option maxRecDepth 100000 in
set_option maxHeartbeats 4000000 in
theorem shifts_full (w : World) (n : Bool) (dg : ByteArray) (ex x1 k : Int) (hok : dsane n (unstr dg) ex = true) (hz : ¬ dg.size = 0) (b1 : -440 ≤ ex) (b2 : ex ≤ 400) (hk : IntKind.i64.wrap (bits .and .i64 x1 255 - 128) = k) (k1 : -128 ≤ k) (k2 : k ≤ 127) (hm : mulP ⟨n, dg, ex⟩ (tenN k) = (⟨n, dg, ex + k⟩, 0)) (h1 : mulP ⟨n, dg, ex⟩ (tenN 0) = (⟨n, dg, ex⟩, 0)) (h0 : mulP ⟨n, dg, ex⟩ ⟨false, ⟨#[]⟩, 0⟩ = (Nm.zero, 0)) (hw : dsane n (unstr dg) (ex + k) = true) (ht : TabB w) :
    Calls Tryd.prog 8 #[.agg #[.bool n, .string dg, .int .i64 ex], .int .i64 x1] w fun e w' => e = .returned (.bool true) ∧ Below w.heap.size w w' := by
  have HS := Lib.hid (fun v => Sane_all v n dg ex)
  have HM := Lib.hid (fun v => Mul_pair v n dg ex false ⟨#[49]⟩ k (by obtain ⟨a, b, c⟩ := dsane_any hok; omega) (by decide))
  have HM1 := Lib.hid (fun v => Mul_pair v n dg ex false ⟨#[49]⟩ 0 (by obtain ⟨a, b, c⟩ := dsane_any hok; omega) (by decide))
  have HM0 := Lib.hid (fun v => Mul_pair v n dg ex false ⟨#[]⟩ 0 (by obtain ⟨a, b, c⟩ := dsane_any hok; omega) (by decide))
  rw [show (⟨false, ⟨#[49]⟩, k⟩ : Nm) = tenN k from rfl, hm] at HM
  rw [show (⟨false, ⟨#[49]⟩, 0⟩ : Nm) = tenN 0 from rfl, h1] at HM1
  rw [h0] at HM0
  have HO := Lib.hid (fun v h => Of_any v 1 (by decide) (by decide) h)
  rw [of_one] at HO
  rw [hok] at HS
  have HS2 := Lib.hid (fun v => Sane_all v n dg (ex + k))
  rw [hw] at HS2
  have dz := ba_full hz
  have wk : IntKind.i64.wrap (ex + k) = ex + k := by rw [IntKind.wrap_i64]; omega
  clear hw hok hz
  clear hm h1 h0 k1 k2
  have hB : Below w.heap.size w (w.alloc (.cells #[.bool n, .string dg, .int .i64 ex] 23)) := (Below.refl _ _).alloc (Nat.le_refl _) _
  have r1 : (w.alloc (.cells #[.bool n, .string dg, .int .i64 ex] 23)).heap[w.heap.size]? = some (.cells #[.bool n, .string dg, .int .i64 ex] 23 (0, 0)) := heap_alloc_new _ _
  obtain ⟨wa, hwa⟩ : ∃ wa, wa = w.alloc (.cells #[.bool n, .string dg, .int .i64 ex] 23) := ⟨_, rfl⟩
  rw [← hwa] at hB r1
  have HW := Lib.hid hwa
  have HB := Lib.hid hB
  have HR := Lib.hid r1
  have HT := Lib.hid (TabB.below ht hB)
  clear hwa hB r1 ht
  go_enter Tryd.func8, Tryd.ntmps8
  go_upto_region 1 with fail
  rw [← HW.out]
  clear HW
  go_wp2_with fail
  with_reducible refine (awake_any _ HT.out).mono ?_
  rintro e u1 ⟨rfl, hb⟩
  have R2 := Lib.hid ((hb.block _ (lt_of_block HR.out)).trans HR.out)
  have X3 := Lib.hid (TabB.below HT.out hb)
  have B4 := Lib.hid (HB.out.trans (hb.mono HB.out.size))
  clear hb HR HT HB
  obtain ⟨⟨c5, c6, c7⟩, _⟩ := row3 R2.out
  go_wp2_with fail
  clear c5 c6 c7
  with_reducible refine (HS.out _).mono ?_
  rintro e u8 ⟨rfl, hb⟩
  have R9 := Lib.hid ((hb.block _ (lt_of_block R2.out)).trans R2.out)
  have X10 := Lib.hid (TabB.below X3.out hb)
  have B11 := Lib.hid (B4.out.trans (hb.mono B4.out.size))
  clear hb R2 X3 B4
  obtain ⟨⟨c12, c13, c14⟩, _⟩ := row3 R9.out
  go_wp2_with fail
  clear c12 c13 c14
  with_reducible refine (HM.out _).mono ?_
  rintro e u15 ⟨rfl, hb⟩
  have R16 := Lib.hid ((hb.block _ (lt_of_block R9.out)).trans R9.out)
  have X17 := Lib.hid (TabB.below X10.out hb)
  have B18 := Lib.hid (B11.out.trans (hb.mono B11.out.size))
  clear hb R9 X10 B11
  unfold pairV
  obtain ⟨u19, hwv, hr, hb⟩ := boxed3 u15 (.bool n) (.string dg) (.int .i64 (ex + k))
  have R20 := Lib.hid ((hb.block _ (lt_of_block R16.out)).trans R16.out)
  have X21 := Lib.hid (TabB.below X17.out hb)
  have B22 := Lib.hid (B18.out.trans (hb.mono B18.out.size))
  have R23 := Lib.hid hr
  have HYW := Lib.hid hwv
  clear hb hr hwv R16 X17 B18
  go_upto_region 6 with fail
  rw [← HYW.out]
  clear HYW

  have hbd : Below u19.heap.size u19 u19.drew := (Below.refl _ _).drew
  have R24 := Lib.hid ((hbd.block _ (lt_of_block R20.out)).trans R20.out)
  have R25 := Lib.hid ((hbd.block _ (lt_of_block R23.out)).trans R23.out)
  have X26 := Lib.hid (TabB.below X21.out hbd)
  have B27 := Lib.hid (B22.out.trans (hbd.mono B22.out.size))
  clear hbd R20 R23 X21 B22
  have hT0 : (fun W : World => Below u19.drew.heap.size u19.drew W) u19.drew := Below.refl _ _
  refine wp_region_held_drew (S := (fun W : World => Below u19.drew.heap.size u19.drew W)) (by kernel_rfl) hT0 (fun hHeld => ?_)
  clear hHeld
  generalize u19.drew = wd28 at B27 R24 R25 X26 hT0 ⊢
  refine wpAnyH_take (i := 0) (oi := { dst := some 30, op := Op.load 23 (Operand.tmp 2), type := 23, pos := "more.go:16", after := #[], guard := none }) (v := ?_) rfl (by kernel_rfl) (by kernel_rfl) (by kernel_rfl) (fun _ _ _ h => h) (Or.inl ⟨by rfl, ?_⟩) (by assumption) ?_
  rotate_left
  · intro w hSw
    try dsimp only at hSw
    obtain ⟨⟨c0, c1, c2⟩, _⟩ := row3 ((hSw.block _ (lt_of_block R24.out)).trans R24.out)
    go_simp
    try with_reducible rfl
  try simp only [Act.put, List.setIfInBounds_toArray, List.set_cons_zero, List.set_cons_succ]
  refine wpAnyH_ready (rs := [1, 6]) (by kernel_rfl) (by simp) ?_
  refine AllReadyH.cons (o := { dst := some 31, op := Op.call { callee := Callee.value (Operand.func 21), args := #[Operand.const (Value.int IntKind.i64 1)], argTypes := #[3] }, type := 23, pos := "more.go:16", after := #[], guard := none }) rfl (fun K hK => ?_) (AllReadyH.cons (o := { dst := some 9, op := Op.alloc 23, type := 0, pos := "more.go:16", after := #[], guard := none }) rfl (fun K hK => ?_) AllReadyH.nil)
  · go_simp
    with_reducible refine (HO.out _ (TabB.below X26.out hT0)).mono ?_
    rintro e q29 ⟨rfl, hb⟩
    have hT1 : (fun W : World => Below wd28.heap.size wd28 W) q29 := hT0.trans (hb.mono hT0.size)
    try unfold pairV
    refine hK.out _ _ hT1 (fun _ => ?_)
    clear hK K hb
    try simp only [Act.put, List.setIfInBounds_toArray, List.set_cons_zero, List.set_cons_succ]
    refine wpAnyH_ready (rs := [2, 6]) (by kernel_rfl) (by simp) ?_
    refine AllReadyH.cons (o := { dst := some 32, op := Op.call { callee := Callee.value (Operand.func 13), args := #[Operand.tmp 30, Operand.tmp 31], argTypes := #[23, 23] }, type := 26, pos := "more.go:16", after := #[{ on := 0, ground := Ground.data }, { on := 1, ground := Ground.data }, { on := 1, ground := Ground.chain }], guard := none }) rfl (fun K hK => ?_) (AllReadyH.cons (o := { dst := some 9, op := Op.alloc 23, type := 0, pos := "more.go:16", after := #[], guard := none }) rfl (fun K hK => ?_) AllReadyH.nil)
    · go_simp
      with_reducible refine (HM1.out _).mono ?_
      rintro e q30 ⟨rfl, hb⟩
      have hT2 : (fun W : World => Below wd28.heap.size wd28 W) q30 := hT1.trans (hb.mono hT1.size)
      try unfold pairV
      refine hK.out _ _ hT2 (fun _ => ?_)
      clear hK K hb
      refine wpAnyH_take (i := 3) (oi := { dst := some 29, op := Op.move (Operand.tmp 32), type := 26, pos := "more.go:16", after := #[{ on := 2, ground := Ground.data }], guard := none }) (v := ?_) rfl (by kernel_rfl) (by kernel_rfl) (by kernel_rfl) (fun _ _ _ h => h) (Or.inl ⟨by rfl, ?_⟩) (by assumption) ?_
      rotate_left
      · intro w hSw
        try dsimp only at hSw
        go_simp
        try with_reducible rfl
      try simp only [Act.put, List.setIfInBounds_toArray, List.set_cons_zero, List.set_cons_succ]
      refine wpAnyH_take (i := 4) (oi := { dst := some 33, op := Op.extract (Operand.tmp 29) 0, type := 23, pos := "more.go:16", after := #[{ on := 3, ground := Ground.data }], guard := none }) (v := ?_) rfl (by kernel_rfl) (by kernel_rfl) (by kernel_rfl) (fun _ _ _ h => h) (Or.inl ⟨by rfl, ?_⟩) (by assumption) ?_
      rotate_left
      · intro w hSw
        try dsimp only at hSw
        go_simp
        try with_reducible rfl
      try simp only [Act.put, List.setIfInBounds_toArray, List.set_cons_zero, List.set_cons_succ]
      refine wpAnyH_take (i := 5) (oi := { dst := some 34, op := Op.extract (Operand.tmp 29) 1, type := 25, pos := "more.go:16", after := #[{ on := 3, ground := Ground.data }, { on := 7, ground := Ground.gcOnly Departure.lateStores }], guard := none }) (v := ?_) rfl (by kernel_rfl) (by kernel_rfl) (by kernel_rfl) (fun _ _ _ h => h) (Or.inl ⟨by rfl, ?_⟩) (by assumption) ?_
      rotate_left
      · intro w hSw
        try dsimp only at hSw
        go_simp
        try with_reducible rfl
      try simp only [Act.put, List.setIfInBounds_toArray, List.set_cons_zero, List.set_cons_succ]
      refine wpAnyH_ready (rs := [6]) (by kernel_rfl) (by simp) ?_
      refine AllReadyH.cons (o := { dst := some 9, op := Op.alloc 23, type := 0, pos := "more.go:16", after := #[], guard := none }) rfl (fun K hK => ?_) AllReadyH.nil
      go_simp
      have hT3 : (fun W : World => Below wd28.heap.size wd28 W) (q30.alloc (.cells #[.bool false, .string ⟨#[]⟩, .int .i64 0] 23)) := hT2.alloc hT2.size _
      have HZ3 := Lib.hid (heap_alloc_new q30 (.cells #[.bool false, .string ⟨#[]⟩, .int .i64 0] 23))
      have HGe := Lib.hid hT2.size
      generalize q30.alloc (.cells #[.bool false, .string ⟨#[]⟩, .int .i64 0] 23) = q31 at hT3 HZ3 ⊢
      refine hK.out _ _ hT3 (fun _ => ?_)
      clear hK K
      try simp only [Act.put, List.setIfInBounds_toArray, List.set_cons_zero, List.set_cons_succ]
      refine wpAnyH_ready (rs := [7]) (by kernel_rfl) (by simp) ?_
      refine AllReadyH.cons (o := { dst := none, op := Op.store 23 (Operand.tmp 9) (Operand.tmp 33), type := 0, pos := "more.go:16", after := #[{ on := 6, ground := Ground.data }, { on := 4, ground := Ground.data }, { on := 2, ground := Ground.chain }, { on := 0, ground := Ground.phase }, { on := 1, ground := Ground.phase }, { on := 2, ground := Ground.phase }, { on := 3, ground := Ground.phase }, { on := 4, ground := Ground.phase }, { on := 5, ground := Ground.textOnly Departure.lateStores }, { on := 6, ground := Ground.phase }], guard := none }) rfl (fun K hK => ?_) AllReadyH.nil
      obtain ⟨_, f0, f1, f2⟩ := row3 HZ3.out
      have hS := set3 (v0 := (.bool n)) (v1 := (.string dg)) (v2 := (.int .i64 ex)) HZ3.out HGe.out hT3
      have HS1 := Lib.hid hS.1
      have hT9 : (fun W : World => Below wd28.heap.size wd28 W) _ := hS.2
      clear hS
      go_simp
      refine hK.out _ _ hT9 (fun _ => ?_)
      clear hK K f0 f1 f2 HZ3
      refine wpAnyH_take (i := 8) (oi := { dst := some 10, op := Op.assign (Operand.tmp 34), type := 25, pos := "more.go:16", after := #[{ on := 5, ground := Ground.data }, { on := 7, ground := Ground.chain }, { on := 0, ground := Ground.phase }, { on := 1, ground := Ground.phase }, { on := 2, ground := Ground.phase }, { on := 3, ground := Ground.phase }, { on := 4, ground := Ground.phase }, { on := 5, ground := Ground.phase }, { on := 6, ground := Ground.phase }, { on := 7, ground := Ground.phase }], guard := none }) (v := ?_) rfl (by kernel_rfl) (by kernel_rfl) (by kernel_rfl) (fun _ _ _ h => h) (Or.inl ⟨by rfl, ?_⟩) (by assumption) ?_
      rotate_left
      · intro w hSw
        try dsimp only at hSw
        go_simp
        try with_reducible rfl
      refine wpAnyH_done (by kernel_rfl) ?_ _
      generalize ((q31.setCell ⟨q30.heap.size, 0, none⟩ (.bool n)).setCell ⟨q30.heap.size, 1, none⟩ (.string dg)).setCell ⟨q30.heap.size, 2, none⟩ (.int .i64 ex) = q32 at hT9 HS1 ⊢
      have R33 := Lib.hid ((hT9.block _ (lt_of_block R24.out)).trans R24.out)
      have R34 := Lib.hid ((hT9.block _ (lt_of_block R25.out)).trans R25.out)
      have X35 := Lib.hid (TabB.below X26.out hT9)
      have B36 := Lib.hid (B27.out.trans (hT9.mono B27.out.size))
      clear hT9 hT0 hT1 hT2 hT3 R24 R25 X26 B27
      obtain ⟨⟨c37, c38, c39⟩, _⟩ := row3 R33.out
      go_wp2_with fail
      clear c37 c38 c39
      with_reducible refine (HM0.out _).mono ?_
      rintro e u40 ⟨rfl, hb⟩
      have R41 := Lib.hid ((hb.block _ (lt_of_block R33.out)).trans R33.out)
      have R42 := Lib.hid ((hb.block _ (lt_of_block R34.out)).trans R34.out)
      have R43 := Lib.hid ((hb.block _ (lt_of_block HS1.out)).trans HS1.out)
      have X44 := Lib.hid (TabB.below X35.out hb)
      have B45 := Lib.hid (B36.out.trans (hb.mono B36.out.size))
      clear hb R33 R34 HS1 X35 B36
      unfold pairV Nm.zero
      obtain ⟨u46, hwv, hr, hb⟩ := boxed3 u40 (.bool false) (.string ⟨#[]⟩) (.int .i64 0)
      have R47 := Lib.hid ((hb.block _ (lt_of_block R41.out)).trans R41.out)
      have R48 := Lib.hid ((hb.block _ (lt_of_block R42.out)).trans R42.out)
      have R49 := Lib.hid ((hb.block _ (lt_of_block R43.out)).trans R43.out)
      have X50 := Lib.hid (TabB.below X44.out hb)
      have B51 := Lib.hid (B45.out.trans (hb.mono B45.out.size))
      have R52 := Lib.hid hr
      have HYW := Lib.hid hwv
      clear hb hr hwv R41 R42 R43 X44 B45
      go_upto_region 8 with fail
      rw [← HYW.out]
      clear HYW
      obtain ⟨⟨c53, c54, c55⟩, _⟩ := row3 R47.out
      obtain ⟨u56, hwv, hr, hb⟩ := boxed3 u46 (.bool n) (.string dg) (.int .i64 ex)
      have HYW := Lib.hid hwv
      have hd := (hb.block _ (lt_of_block R47.out)).trans R47.out
      obtain ⟨hr2, hb2⟩ := stepSet (W0 := u46) (B := u46.heap.size) 2 (.int .i64 (ex + k)) (Nat.le_refl _) ⟨hr, hb⟩
      have hr3 : (u56.setCell ⟨u46.heap.size, 2, none⟩ (.int .i64 (ex + k))).heap[u46.heap.size]? = some (.cells #[.bool n, .string dg, .int .i64 (ex + k)] 23 (0, 0)) := hr2
      obtain ⟨⟨e0, e1, e2⟩, g0, g1, g2⟩ := row3 hr
      obtain ⟨⟨i0, i1, i2⟩, _⟩ := row3 hd
      obtain ⟨u57, hV2⟩ : ∃ V, V = u56.setCell ⟨u46.heap.size, 2, none⟩ (.int .i64 (ex + k)) := ⟨_, rfl⟩
      rw [← hV2] at hr3 hb2
      have R58 := Lib.hid ((hb2.block _ (lt_of_block R47.out)).trans R47.out)
      have R59 := Lib.hid ((hb2.block _ (lt_of_block R48.out)).trans R48.out)
      have R60 := Lib.hid ((hb2.block _ (lt_of_block R49.out)).trans R49.out)
      have R61 := Lib.hid ((hb2.block _ (lt_of_block R52.out)).trans R52.out)
      have X62 := Lib.hid (TabB.below X50.out hb2)
      have B63 := Lib.hid (B51.out.trans (hb2.mono B51.out.size))
      have R64 := Lib.hid hr3
      have HY2 := Lib.hid hV2
      clear hb2 hr2 hr3 hb hr hd hwv hV2 R47 R48 R49 R52 X50 B51
      go_upto_region 9 with fail
      rw [← HYW.out]
      clear c53 c54 c55
      obtain ⟨⟨c65, c66, c67⟩, _⟩ := row3 R64.out
      go_wp2_with fail
      try rw [← HY2.out]
      clear e0 e1 e2 g0 g1 g2 i0 i1 i2 HYW HY2
      clear c65 c66 c67
      with_reducible refine (HS2.out _).mono ?_
      rintro e u68 ⟨rfl, hb⟩
      have R69 := Lib.hid ((hb.block _ (lt_of_block R58.out)).trans R58.out)
      have R70 := Lib.hid ((hb.block _ (lt_of_block R59.out)).trans R59.out)
      have R71 := Lib.hid ((hb.block _ (lt_of_block R60.out)).trans R60.out)
      have R72 := Lib.hid ((hb.block _ (lt_of_block R61.out)).trans R61.out)
      have R73 := Lib.hid ((hb.block _ (lt_of_block R64.out)).trans R64.out)
      have X74 := Lib.hid (TabB.below X62.out hb)
      have B75 := Lib.hid (B63.out.trans (hb.mono B63.out.size))
      clear hb R58 R59 R60 R61 R64 X62 B63
      obtain ⟨⟨c76, c77, c78⟩, _⟩ := row3 R69.out
      obtain ⟨⟨c79, c80, c81⟩, _⟩ := row3 R70.out
      obtain ⟨⟨c82, c83, c84⟩, _⟩ := row3 R71.out
      obtain ⟨⟨c85, c86, c87⟩, _⟩ := row3 R72.out
      obtain ⟨⟨c88, c89, c90⟩, _⟩ := row3 R73.out
      go_wp2_with fail
      go_ret
      exact ⟨rfl, B75.out⟩
    · go_simp
      have hT2 : (fun W : World => Below wd28.heap.size wd28 W) (q29.alloc (.cells #[.bool false, .string ⟨#[]⟩, .int .i64 0] 23)) := hT1.alloc hT1.size _
      have HZ2 := Lib.hid (heap_alloc_new q29 (.cells #[.bool false, .string ⟨#[]⟩, .int .i64 0] 23))
      have HGe := Lib.hid hT1.size
      generalize q29.alloc (.cells #[.bool false, .string ⟨#[]⟩, .int .i64 0] 23) = q30 at hT2 HZ2 ⊢
      refine hK.out _ _ hT2 (fun _ => ?_)
      clear hK K
      try simp only [Act.put, List.setIfInBounds_toArray, List.set_cons_zero, List.set_cons_succ]
      refine wpAnyH_ready (rs := [2]) (by kernel_rfl) (by simp) ?_
      refine AllReadyH.cons (o := { dst := some 32, op := Op.call { callee := Callee.value (Operand.func 13), args := #[Operand.tmp 30, Operand.tmp 31], argTypes := #[23, 23] }, type := 26, pos := "more.go:16", after := #[{ on := 0, ground := Ground.data }, { on := 1, ground := Ground.data }, { on := 1, ground := Ground.chain }], guard := none }) rfl (fun K hK => ?_) AllReadyH.nil
      go_simp
      with_reducible refine (HM1.out _).mono ?_
      rintro e q31 ⟨rfl, hb⟩
      have hT3 : (fun W : World => Below wd28.heap.size wd28 W) q31 := hT2.trans (hb.mono hT2.size)
      have HZ3 := Lib.hid ((hb.block _ (lt_of_block HZ2.out)).trans HZ2.out)
      clear HZ2
      try unfold pairV
      refine hK.out _ _ hT3 (fun _ => ?_)
      clear hK K hb
      refine wpAnyH_take (i := 3) (oi := { dst := some 29, op := Op.move (Operand.tmp 32), type := 26, pos := "more.go:16", after := #[{ on := 2, ground := Ground.data }], guard := none }) (v := ?_) rfl (by kernel_rfl) (by kernel_rfl) (by kernel_rfl) (fun _ _ _ h => h) (Or.inl ⟨by rfl, ?_⟩) (by assumption) ?_
      rotate_left
      · intro w hSw
        try dsimp only at hSw
        go_simp
        try with_reducible rfl
      try simp only [Act.put, List.setIfInBounds_toArray, List.set_cons_zero, List.set_cons_succ]
      refine wpAnyH_take (i := 4) (oi := { dst := some 33, op := Op.extract (Operand.tmp 29) 0, type := 23, pos := "more.go:16", after := #[{ on := 3, ground := Ground.data }], guard := none }) (v := ?_) rfl (by kernel_rfl) (by kernel_rfl) (by kernel_rfl) (fun _ _ _ h => h) (Or.inl ⟨by rfl, ?_⟩) (by assumption) ?_
      rotate_left
      · intro w hSw
        try dsimp only at hSw
        go_simp
        try with_reducible rfl
      try simp only [Act.put, List.setIfInBounds_toArray, List.set_cons_zero, List.set_cons_succ]
      refine wpAnyH_take (i := 5) (oi := { dst := some 34, op := Op.extract (Operand.tmp 29) 1, type := 25, pos := "more.go:16", after := #[{ on := 3, ground := Ground.data }, { on := 7, ground := Ground.gcOnly Departure.lateStores }], guard := none }) (v := ?_) rfl (by kernel_rfl) (by kernel_rfl) (by kernel_rfl) (fun _ _ _ h => h) (Or.inl ⟨by rfl, ?_⟩) (by assumption) ?_
      rotate_left
      · intro w hSw
        try dsimp only at hSw
        go_simp
        try with_reducible rfl
      try simp only [Act.put, List.setIfInBounds_toArray, List.set_cons_zero, List.set_cons_succ]
      refine wpAnyH_ready (rs := [7]) (by kernel_rfl) (by simp) ?_
      refine AllReadyH.cons (o := { dst := none, op := Op.store 23 (Operand.tmp 9) (Operand.tmp 33), type := 0, pos := "more.go:16", after := #[{ on := 6, ground := Ground.data }, { on := 4, ground := Ground.data }, { on := 2, ground := Ground.chain }, { on := 0, ground := Ground.phase }, { on := 1, ground := Ground.phase }, { on := 2, ground := Ground.phase }, { on := 3, ground := Ground.phase }, { on := 4, ground := Ground.phase }, { on := 5, ground := Ground.textOnly Departure.lateStores }, { on := 6, ground := Ground.phase }], guard := none }) rfl (fun K hK => ?_) AllReadyH.nil
      obtain ⟨_, f0, f1, f2⟩ := row3 HZ3.out
      have hS := set3 (v0 := (.bool n)) (v1 := (.string dg)) (v2 := (.int .i64 ex)) HZ3.out HGe.out hT3
      have HS1 := Lib.hid hS.1
      have hT9 : (fun W : World => Below wd28.heap.size wd28 W) _ := hS.2
      clear hS
      go_simp
      refine hK.out _ _ hT9 (fun _ => ?_)
      clear hK K f0 f1 f2 HZ3
      refine wpAnyH_take (i := 8) (oi := { dst := some 10, op := Op.assign (Operand.tmp 34), type := 25, pos := "more.go:16", after := #[{ on := 5, ground := Ground.data }, { on := 7, ground := Ground.chain }, { on := 0, ground := Ground.phase }, { on := 1, ground := Ground.phase }, { on := 2, ground := Ground.phase }, { on := 3, ground := Ground.phase }, { on := 4, ground := Ground.phase }, { on := 5, ground := Ground.phase }, { on := 6, ground := Ground.phase }, { on := 7, ground := Ground.phase }], guard := none }) (v := ?_) rfl (by kernel_rfl) (by kernel_rfl) (by kernel_rfl) (fun _ _ _ h => h) (Or.inl ⟨by rfl, ?_⟩) (by assumption) ?_
      rotate_left
      · intro w hSw
        try dsimp only at hSw
        go_simp
        try with_reducible rfl
      refine wpAnyH_done (by kernel_rfl) ?_ _
      generalize ((q31.setCell ⟨q29.heap.size, 0, none⟩ (.bool n)).setCell ⟨q29.heap.size, 1, none⟩ (.string dg)).setCell ⟨q29.heap.size, 2, none⟩ (.int .i64 ex) = q32 at hT9 HS1 ⊢
      have R33 := Lib.hid ((hT9.block _ (lt_of_block R24.out)).trans R24.out)
      have R34 := Lib.hid ((hT9.block _ (lt_of_block R25.out)).trans R25.out)
      have X35 := Lib.hid (TabB.below X26.out hT9)
      have B36 := Lib.hid (B27.out.trans (hT9.mono B27.out.size))
      clear hT9 hT0 hT1 hT2 hT3 R24 R25 X26 B27
      obtain ⟨⟨c37, c38, c39⟩, _⟩ := row3 R33.out
      go_wp2_with fail
      clear c37 c38 c39
      with_reducible refine (HM0.out _).mono ?_
      rintro e u40 ⟨rfl, hb⟩
      have R41 := Lib.hid ((hb.block _ (lt_of_block R33.out)).trans R33.out)
      have R42 := Lib.hid ((hb.block _ (lt_of_block R34.out)).trans R34.out)
      have R43 := Lib.hid ((hb.block _ (lt_of_block HS1.out)).trans HS1.out)
      have X44 := Lib.hid (TabB.below X35.out hb)
      have B45 := Lib.hid (B36.out.trans (hb.mono B36.out.size))
      clear hb R33 R34 HS1 X35 B36
      unfold pairV Nm.zero
      obtain ⟨u46, hwv, hr, hb⟩ := boxed3 u40 (.bool false) (.string ⟨#[]⟩) (.int .i64 0)
      have R47 := Lib.hid ((hb.block _ (lt_of_block R41.out)).trans R41.out)
      have R48 := Lib.hid ((hb.block _ (lt_of_block R42.out)).trans R42.out)
      have R49 := Lib.hid ((hb.block _ (lt_of_block R43.out)).trans R43.out)
      have X50 := Lib.hid (TabB.below X44.out hb)
      have B51 := Lib.hid (B45.out.trans (hb.mono B45.out.size))
      have R52 := Lib.hid hr
      have HYW := Lib.hid hwv
      clear hb hr hwv R41 R42 R43 X44 B45
      go_upto_region 8 with fail
      rw [← HYW.out]
      clear HYW
      obtain ⟨⟨c53, c54, c55⟩, _⟩ := row3 R47.out
      obtain ⟨u56, hwv, hr, hb⟩ := boxed3 u46 (.bool n) (.string dg) (.int .i64 ex)
      have HYW := Lib.hid hwv
      have hd := (hb.block _ (lt_of_block R47.out)).trans R47.out
      obtain ⟨hr2, hb2⟩ := stepSet (W0 := u46) (B := u46.heap.size) 2 (.int .i64 (ex + k)) (Nat.le_refl _) ⟨hr, hb⟩
      have hr3 : (u56.setCell ⟨u46.heap.size, 2, none⟩ (.int .i64 (ex + k))).heap[u46.heap.size]? = some (.cells #[.bool n, .string dg, .int .i64 (ex + k)] 23 (0, 0)) := hr2
      obtain ⟨⟨e0, e1, e2⟩, g0, g1, g2⟩ := row3 hr
      obtain ⟨⟨i0, i1, i2⟩, _⟩ := row3 hd
      obtain ⟨u57, hV2⟩ : ∃ V, V = u56.setCell ⟨u46.heap.size, 2, none⟩ (.int .i64 (ex + k)) := ⟨_, rfl⟩
      rw [← hV2] at hr3 hb2
      have R58 := Lib.hid ((hb2.block _ (lt_of_block R47.out)).trans R47.out)
      have R59 := Lib.hid ((hb2.block _ (lt_of_block R48.out)).trans R48.out)
      have R60 := Lib.hid ((hb2.block _ (lt_of_block R49.out)).trans R49.out)
      have R61 := Lib.hid ((hb2.block _ (lt_of_block R52.out)).trans R52.out)
      have X62 := Lib.hid (TabB.below X50.out hb2)
      have B63 := Lib.hid (B51.out.trans (hb2.mono B51.out.size))
      have R64 := Lib.hid hr3
      have HY2 := Lib.hid hV2
      clear hb2 hr2 hr3 hb hr hd hwv hV2 R47 R48 R49 R52 X50 B51
      go_upto_region 9 with fail
      rw [← HYW.out]
      clear c53 c54 c55
      obtain ⟨⟨c65, c66, c67⟩, _⟩ := row3 R64.out
      go_wp2_with fail
      try rw [← HY2.out]
      clear e0 e1 e2 g0 g1 g2 i0 i1 i2 HYW HY2
      clear c65 c66 c67
      with_reducible refine (HS2.out _).mono ?_
      rintro e u68 ⟨rfl, hb⟩
      have R69 := Lib.hid ((hb.block _ (lt_of_block R58.out)).trans R58.out)
      have R70 := Lib.hid ((hb.block _ (lt_of_block R59.out)).trans R59.out)
      have R71 := Lib.hid ((hb.block _ (lt_of_block R60.out)).trans R60.out)
      have R72 := Lib.hid ((hb.block _ (lt_of_block R61.out)).trans R61.out)
      have R73 := Lib.hid ((hb.block _ (lt_of_block R64.out)).trans R64.out)
      have X74 := Lib.hid (TabB.below X62.out hb)
      have B75 := Lib.hid (B63.out.trans (hb.mono B63.out.size))
      clear hb R58 R59 R60 R61 R64 X62 B63
      obtain ⟨⟨c76, c77, c78⟩, _⟩ := row3 R69.out
      obtain ⟨⟨c79, c80, c81⟩, _⟩ := row3 R70.out
      obtain ⟨⟨c82, c83, c84⟩, _⟩ := row3 R71.out
      obtain ⟨⟨c85, c86, c87⟩, _⟩ := row3 R72.out
      obtain ⟨⟨c88, c89, c90⟩, _⟩ := row3 R73.out
      go_wp2_with fail
      go_ret
      exact ⟨rfl, B75.out⟩
  · go_simp
    have hT1 : (fun W : World => Below wd28.heap.size wd28 W) (wd28.alloc (.cells #[.bool false, .string ⟨#[]⟩, .int .i64 0] 23)) := hT0.alloc hT0.size _
    have HZ1 := Lib.hid (heap_alloc_new wd28 (.cells #[.bool false, .string ⟨#[]⟩, .int .i64 0] 23))
    have HGe := Lib.hid hT0.size
    generalize wd28.alloc (.cells #[.bool false, .string ⟨#[]⟩, .int .i64 0] 23) = q29 at hT1 HZ1 ⊢
    refine hK.out _ _ hT1 (fun _ => ?_)
    clear hK K
    try simp only [Act.put, List.setIfInBounds_toArray, List.set_cons_zero, List.set_cons_succ]
    refine wpAnyH_ready (rs := [1]) (by kernel_rfl) (by simp) ?_
    refine AllReadyH.cons (o := { dst := some 31, op := Op.call { callee := Callee.value (Operand.func 21), args := #[Operand.const (Value.int IntKind.i64 1)], argTypes := #[3] }, type := 23, pos := "more.go:16", after := #[], guard := none }) rfl (fun K hK => ?_) AllReadyH.nil
    go_simp
    with_reducible refine (HO.out _ (TabB.below X26.out hT1)).mono ?_
    rintro e q30 ⟨rfl, hb⟩
    have hT2 : (fun W : World => Below wd28.heap.size wd28 W) q30 := hT1.trans (hb.mono hT1.size)
    have HZ2 := Lib.hid ((hb.block _ (lt_of_block HZ1.out)).trans HZ1.out)
    clear HZ1
    try unfold pairV
    refine hK.out _ _ hT2 (fun _ => ?_)
    clear hK K hb
    try simp only [Act.put, List.setIfInBounds_toArray, List.set_cons_zero, List.set_cons_succ]
    refine wpAnyH_ready (rs := [2]) (by kernel_rfl) (by simp) ?_
    refine AllReadyH.cons (o := { dst := some 32, op := Op.call { callee := Callee.value (Operand.func 13), args := #[Operand.tmp 30, Operand.tmp 31], argTypes := #[23, 23] }, type := 26, pos := "more.go:16", after := #[{ on := 0, ground := Ground.data }, { on := 1, ground := Ground.data }, { on := 1, ground := Ground.chain }], guard := none }) rfl (fun K hK => ?_) AllReadyH.nil
    go_simp
    with_reducible refine (HM1.out _).mono ?_
    rintro e q31 ⟨rfl, hb⟩
    have hT3 : (fun W : World => Below wd28.heap.size wd28 W) q31 := hT2.trans (hb.mono hT2.size)
    have HZ3 := Lib.hid ((hb.block _ (lt_of_block HZ2.out)).trans HZ2.out)
    clear HZ2
    try unfold pairV
    refine hK.out _ _ hT3 (fun _ => ?_)
    clear hK K hb
    refine wpAnyH_take (i := 3) (oi := { dst := some 29, op := Op.move (Operand.tmp 32), type := 26, pos := "more.go:16", after := #[{ on := 2, ground := Ground.data }], guard := none }) (v := ?_) rfl (by kernel_rfl) (by kernel_rfl) (by kernel_rfl) (fun _ _ _ h => h) (Or.inl ⟨by rfl, ?_⟩) (by assumption) ?_
    rotate_left
    · intro w hSw
      try dsimp only at hSw
      go_simp
      try with_reducible rfl
    try simp only [Act.put, List.setIfInBounds_toArray, List.set_cons_zero, List.set_cons_succ]
    refine wpAnyH_take (i := 4) (oi := { dst := some 33, op := Op.extract (Operand.tmp 29) 0, type := 23, pos := "more.go:16", after := #[{ on := 3, ground := Ground.data }], guard := none }) (v := ?_) rfl (by kernel_rfl) (by kernel_rfl) (by kernel_rfl) (fun _ _ _ h => h) (Or.inl ⟨by rfl, ?_⟩) (by assumption) ?_
    rotate_left
    · intro w hSw
      try dsimp only at hSw
      go_simp
      try with_reducible rfl
    try simp only [Act.put, List.setIfInBounds_toArray, List.set_cons_zero, List.set_cons_succ]
    refine wpAnyH_take (i := 5) (oi := { dst := some 34, op := Op.extract (Operand.tmp 29) 1, type := 25, pos := "more.go:16", after := #[{ on := 3, ground := Ground.data }, { on := 7, ground := Ground.gcOnly Departure.lateStores }], guard := none }) (v := ?_) rfl (by kernel_rfl) (by kernel_rfl) (by kernel_rfl) (fun _ _ _ h => h) (Or.inl ⟨by rfl, ?_⟩) (by assumption) ?_
    rotate_left
    · intro w hSw
      try dsimp only at hSw
      go_simp
      try with_reducible rfl
    try simp only [Act.put, List.setIfInBounds_toArray, List.set_cons_zero, List.set_cons_succ]
    refine wpAnyH_ready (rs := [7]) (by kernel_rfl) (by simp) ?_
    refine AllReadyH.cons (o := { dst := none, op := Op.store 23 (Operand.tmp 9) (Operand.tmp 33), type := 0, pos := "more.go:16", after := #[{ on := 6, ground := Ground.data }, { on := 4, ground := Ground.data }, { on := 2, ground := Ground.chain }, { on := 0, ground := Ground.phase }, { on := 1, ground := Ground.phase }, { on := 2, ground := Ground.phase }, { on := 3, ground := Ground.phase }, { on := 4, ground := Ground.phase }, { on := 5, ground := Ground.textOnly Departure.lateStores }, { on := 6, ground := Ground.phase }], guard := none }) rfl (fun K hK => ?_) AllReadyH.nil
    obtain ⟨_, f0, f1, f2⟩ := row3 HZ3.out
    have hS := set3 (v0 := (.bool n)) (v1 := (.string dg)) (v2 := (.int .i64 ex)) HZ3.out HGe.out hT3
    have HS1 := Lib.hid hS.1
    have hT9 : (fun W : World => Below wd28.heap.size wd28 W) _ := hS.2
    clear hS
    go_simp
    refine hK.out _ _ hT9 (fun _ => ?_)
    clear hK K f0 f1 f2 HZ3
    refine wpAnyH_take (i := 8) (oi := { dst := some 10, op := Op.assign (Operand.tmp 34), type := 25, pos := "more.go:16", after := #[{ on := 5, ground := Ground.data }, { on := 7, ground := Ground.chain }, { on := 0, ground := Ground.phase }, { on := 1, ground := Ground.phase }, { on := 2, ground := Ground.phase }, { on := 3, ground := Ground.phase }, { on := 4, ground := Ground.phase }, { on := 5, ground := Ground.phase }, { on := 6, ground := Ground.phase }, { on := 7, ground := Ground.phase }], guard := none }) (v := ?_) rfl (by kernel_rfl) (by kernel_rfl) (by kernel_rfl) (fun _ _ _ h => h) (Or.inl ⟨by rfl, ?_⟩) (by assumption) ?_
    rotate_left
    · intro w hSw
      try dsimp only at hSw
      go_simp
      try with_reducible rfl
    refine wpAnyH_done (by kernel_rfl) ?_ _
    generalize ((q31.setCell ⟨wd28.heap.size, 0, none⟩ (.bool n)).setCell ⟨wd28.heap.size, 1, none⟩ (.string dg)).setCell ⟨wd28.heap.size, 2, none⟩ (.int .i64 ex) = q32 at hT9 HS1 ⊢
    have R33 := Lib.hid ((hT9.block _ (lt_of_block R24.out)).trans R24.out)
    have R34 := Lib.hid ((hT9.block _ (lt_of_block R25.out)).trans R25.out)
    have X35 := Lib.hid (TabB.below X26.out hT9)
    have B36 := Lib.hid (B27.out.trans (hT9.mono B27.out.size))
    clear hT9 hT0 hT1 hT2 hT3 R24 R25 X26 B27
    obtain ⟨⟨c37, c38, c39⟩, _⟩ := row3 R33.out
    go_wp2_with fail
    clear c37 c38 c39
    with_reducible refine (HM0.out _).mono ?_
    rintro e u40 ⟨rfl, hb⟩
    have R41 := Lib.hid ((hb.block _ (lt_of_block R33.out)).trans R33.out)
    have R42 := Lib.hid ((hb.block _ (lt_of_block R34.out)).trans R34.out)
    have R43 := Lib.hid ((hb.block _ (lt_of_block HS1.out)).trans HS1.out)
    have X44 := Lib.hid (TabB.below X35.out hb)
    have B45 := Lib.hid (B36.out.trans (hb.mono B36.out.size))
    clear hb R33 R34 HS1 X35 B36
    unfold pairV Nm.zero
    obtain ⟨u46, hwv, hr, hb⟩ := boxed3 u40 (.bool false) (.string ⟨#[]⟩) (.int .i64 0)
    have R47 := Lib.hid ((hb.block _ (lt_of_block R41.out)).trans R41.out)
    have R48 := Lib.hid ((hb.block _ (lt_of_block R42.out)).trans R42.out)
    have R49 := Lib.hid ((hb.block _ (lt_of_block R43.out)).trans R43.out)
    have X50 := Lib.hid (TabB.below X44.out hb)
    have B51 := Lib.hid (B45.out.trans (hb.mono B45.out.size))
    have R52 := Lib.hid hr
    have HYW := Lib.hid hwv
    clear hb hr hwv R41 R42 R43 X44 B45
    go_upto_region 8 with fail
    rw [← HYW.out]
    clear HYW
    obtain ⟨⟨c53, c54, c55⟩, _⟩ := row3 R47.out
    obtain ⟨u56, hwv, hr, hb⟩ := boxed3 u46 (.bool n) (.string dg) (.int .i64 ex)
    have HYW := Lib.hid hwv
    have hd := (hb.block _ (lt_of_block R47.out)).trans R47.out
    obtain ⟨hr2, hb2⟩ := stepSet (W0 := u46) (B := u46.heap.size) 2 (.int .i64 (ex + k)) (Nat.le_refl _) ⟨hr, hb⟩
    have hr3 : (u56.setCell ⟨u46.heap.size, 2, none⟩ (.int .i64 (ex + k))).heap[u46.heap.size]? = some (.cells #[.bool n, .string dg, .int .i64 (ex + k)] 23 (0, 0)) := hr2
    obtain ⟨⟨e0, e1, e2⟩, g0, g1, g2⟩ := row3 hr
    obtain ⟨⟨i0, i1, i2⟩, _⟩ := row3 hd
    obtain ⟨u57, hV2⟩ : ∃ V, V = u56.setCell ⟨u46.heap.size, 2, none⟩ (.int .i64 (ex + k)) := ⟨_, rfl⟩
    rw [← hV2] at hr3 hb2
    have R58 := Lib.hid ((hb2.block _ (lt_of_block R47.out)).trans R47.out)
    have R59 := Lib.hid ((hb2.block _ (lt_of_block R48.out)).trans R48.out)
    have R60 := Lib.hid ((hb2.block _ (lt_of_block R49.out)).trans R49.out)
    have R61 := Lib.hid ((hb2.block _ (lt_of_block R52.out)).trans R52.out)
    have X62 := Lib.hid (TabB.below X50.out hb2)
    have B63 := Lib.hid (B51.out.trans (hb2.mono B51.out.size))
    have R64 := Lib.hid hr3
    have HY2 := Lib.hid hV2
    clear hb2 hr2 hr3 hb hr hd hwv hV2 R47 R48 R49 R52 X50 B51
    go_upto_region 9 with fail
    rw [← HYW.out]
    clear c53 c54 c55
    obtain ⟨⟨c65, c66, c67⟩, _⟩ := row3 R64.out
    go_wp2_with fail
    try rw [← HY2.out]
    clear e0 e1 e2 g0 g1 g2 i0 i1 i2 HYW HY2
    clear c65 c66 c67
    with_reducible refine (HS2.out _).mono ?_
    rintro e u68 ⟨rfl, hb⟩
    have R69 := Lib.hid ((hb.block _ (lt_of_block R58.out)).trans R58.out)
    have R70 := Lib.hid ((hb.block _ (lt_of_block R59.out)).trans R59.out)
    have R71 := Lib.hid ((hb.block _ (lt_of_block R60.out)).trans R60.out)
    have R72 := Lib.hid ((hb.block _ (lt_of_block R61.out)).trans R61.out)
    have R73 := Lib.hid ((hb.block _ (lt_of_block R64.out)).trans R64.out)
    have X74 := Lib.hid (TabB.below X62.out hb)
    have B75 := Lib.hid (B63.out.trans (hb.mono B63.out.size))
    clear hb R58 R59 R60 R61 R64 X62 B63
    obtain ⟨⟨c76, c77, c78⟩, _⟩ := row3 R69.out
    obtain ⟨⟨c79, c80, c81⟩, _⟩ := row3 R70.out
    obtain ⟨⟨c82, c83, c84⟩, _⟩ := row3 R71.out
    obtain ⟨⟨c85, c86, c87⟩, _⟩ := row3 R72.out
    obtain ⟨⟨c88, c89, c90⟩, _⟩ := row3 R73.out
    go_wp2_with fail
    go_ret
    exact ⟨rfl, B75.out⟩
set_option maxRecDepth 100000 in
set_option maxHeartbeats 4000000 in
theorem shifts_far (w : World) (n : Bool) (dg : ByteArray) (ex x1 k : Int) (hok : dsane n (unstr dg) ex = true) (hz : ¬ dg.size = 0) (b1 : -440 ≤ ex) (b2 : ex ≤ 400) (hk : IntKind.i64.wrap (bits .and .i64 x1 255 - 128) = k) (k1 : -128 ≤ k) (k2 : k ≤ 127) (hm : mulP ⟨n, dg, ex⟩ (tenN k) = (Nm.zero, 4)) (h1 : mulP ⟨n, dg, ex⟩ (tenN 0) = (⟨n, dg, ex⟩, 0)) (h0 : mulP ⟨n, dg, ex⟩ ⟨false, ⟨#[]⟩, 0⟩ = (Nm.zero, 0)) (hw : dsane n (unstr dg) (ex + k) = false) (ht : TabB w) :
    Calls Tryd.prog 8 #[.agg #[.bool n, .string dg, .int .i64 ex], .int .i64 x1] w fun e w' => e = .returned (.bool true) ∧ Below w.heap.size w w' := by
  have HS := Lib.hid (fun v => Sane_all v n dg ex)
  have HM := Lib.hid (fun v => Mul_pair v n dg ex false ⟨#[49]⟩ k (by obtain ⟨a, b, c⟩ := dsane_any hok; omega) (by decide))
  have HM1 := Lib.hid (fun v => Mul_pair v n dg ex false ⟨#[49]⟩ 0 (by obtain ⟨a, b, c⟩ := dsane_any hok; omega) (by decide))
  have HM0 := Lib.hid (fun v => Mul_pair v n dg ex false ⟨#[]⟩ 0 (by obtain ⟨a, b, c⟩ := dsane_any hok; omega) (by decide))
  rw [show (⟨false, ⟨#[49]⟩, k⟩ : Nm) = tenN k from rfl, hm] at HM
  rw [show (⟨false, ⟨#[49]⟩, 0⟩ : Nm) = tenN 0 from rfl, h1] at HM1
  rw [h0] at HM0
  have HO := Lib.hid (fun v h => Of_any v 1 (by decide) (by decide) h)
  rw [of_one] at HO
  rw [hok] at HS
  have HS2 := Lib.hid (fun v => Sane_all v n dg (ex + k))
  rw [hw] at HS2
  have dz := ba_full hz
  have wk : IntKind.i64.wrap (ex + k) = ex + k := by rw [IntKind.wrap_i64]; omega
  clear hw hok hz
  clear hm h1 h0 k1 k2
  have hB : Below w.heap.size w (w.alloc (.cells #[.bool n, .string dg, .int .i64 ex] 23)) := (Below.refl _ _).alloc (Nat.le_refl _) _
  have r1 : (w.alloc (.cells #[.bool n, .string dg, .int .i64 ex] 23)).heap[w.heap.size]? = some (.cells #[.bool n, .string dg, .int .i64 ex] 23 (0, 0)) := heap_alloc_new _ _
  obtain ⟨wa, hwa⟩ : ∃ wa, wa = w.alloc (.cells #[.bool n, .string dg, .int .i64 ex] 23) := ⟨_, rfl⟩
  rw [← hwa] at hB r1
  have HW := Lib.hid hwa
  have HB := Lib.hid hB
  have HR := Lib.hid r1
  have HT := Lib.hid (TabB.below ht hB)
  clear hwa hB r1 ht
  go_enter Tryd.func8, Tryd.ntmps8
  go_upto_region 1 with fail
  rw [← HW.out]
  clear HW
  go_wp2_with fail
  with_reducible refine (awake_any _ HT.out).mono ?_
  rintro e u1 ⟨rfl, hb⟩
  have R2 := Lib.hid ((hb.block _ (lt_of_block HR.out)).trans HR.out)
  have X3 := Lib.hid (TabB.below HT.out hb)
  have B4 := Lib.hid (HB.out.trans (hb.mono HB.out.size))
  clear hb HR HT HB
  obtain ⟨⟨c5, c6, c7⟩, _⟩ := row3 R2.out
  go_wp2_with fail
  clear c5 c6 c7
  with_reducible refine (HS.out _).mono ?_
  rintro e u8 ⟨rfl, hb⟩
  have R9 := Lib.hid ((hb.block _ (lt_of_block R2.out)).trans R2.out)
  have X10 := Lib.hid (TabB.below X3.out hb)
  have B11 := Lib.hid (B4.out.trans (hb.mono B4.out.size))
  clear hb R2 X3 B4
  obtain ⟨⟨c12, c13, c14⟩, _⟩ := row3 R9.out
  go_wp2_with fail
  clear c12 c13 c14
  with_reducible refine (HM.out _).mono ?_
  rintro e u15 ⟨rfl, hb⟩
  have R16 := Lib.hid ((hb.block _ (lt_of_block R9.out)).trans R9.out)
  have X17 := Lib.hid (TabB.below X10.out hb)
  have B18 := Lib.hid (B11.out.trans (hb.mono B11.out.size))
  clear hb R9 X10 B11
  unfold pairV
  unfold Nm.zero
  obtain ⟨u19, hwv, hr, hb⟩ := boxed3 u15 (.bool false) (.string ⟨#[]⟩) (.int .i64 0)
  have R20 := Lib.hid ((hb.block _ (lt_of_block R16.out)).trans R16.out)
  have X21 := Lib.hid (TabB.below X17.out hb)
  have B22 := Lib.hid (B18.out.trans (hb.mono B18.out.size))
  have R23 := Lib.hid hr
  have HYW := Lib.hid hwv
  clear hb hr hwv R16 X17 B18
  go_upto_region 6 with fail
  rw [← HYW.out]
  clear HYW

  have hbd : Below u19.heap.size u19 u19.drew := (Below.refl _ _).drew
  have R24 := Lib.hid ((hbd.block _ (lt_of_block R20.out)).trans R20.out)
  have R25 := Lib.hid ((hbd.block _ (lt_of_block R23.out)).trans R23.out)
  have X26 := Lib.hid (TabB.below X21.out hbd)
  have B27 := Lib.hid (B22.out.trans (hbd.mono B22.out.size))
  clear hbd R20 R23 X21 B22
  have hT0 : (fun W : World => Below u19.drew.heap.size u19.drew W) u19.drew := Below.refl _ _
  refine wp_region_held_drew (S := (fun W : World => Below u19.drew.heap.size u19.drew W)) (by kernel_rfl) hT0 (fun hHeld => ?_)
  clear hHeld
  generalize u19.drew = wd28 at B27 R24 R25 X26 hT0 ⊢
  refine wpAnyH_take (i := 0) (oi := { dst := some 30, op := Op.load 23 (Operand.tmp 2), type := 23, pos := "more.go:16", after := #[], guard := none }) (v := ?_) rfl (by kernel_rfl) (by kernel_rfl) (by kernel_rfl) (fun _ _ _ h => h) (Or.inl ⟨by rfl, ?_⟩) (by assumption) ?_
  rotate_left
  · intro w hSw
    try dsimp only at hSw
    obtain ⟨⟨c0, c1, c2⟩, _⟩ := row3 ((hSw.block _ (lt_of_block R24.out)).trans R24.out)
    go_simp
    try with_reducible rfl
  try simp only [Act.put, List.setIfInBounds_toArray, List.set_cons_zero, List.set_cons_succ]
  refine wpAnyH_ready (rs := [1, 6]) (by kernel_rfl) (by simp) ?_
  refine AllReadyH.cons (o := { dst := some 31, op := Op.call { callee := Callee.value (Operand.func 21), args := #[Operand.const (Value.int IntKind.i64 1)], argTypes := #[3] }, type := 23, pos := "more.go:16", after := #[], guard := none }) rfl (fun K hK => ?_) (AllReadyH.cons (o := { dst := some 9, op := Op.alloc 23, type := 0, pos := "more.go:16", after := #[], guard := none }) rfl (fun K hK => ?_) AllReadyH.nil)
  · go_simp
    with_reducible refine (HO.out _ (TabB.below X26.out hT0)).mono ?_
    rintro e q29 ⟨rfl, hb⟩
    have hT1 : (fun W : World => Below wd28.heap.size wd28 W) q29 := hT0.trans (hb.mono hT0.size)
    try unfold pairV
    refine hK.out _ _ hT1 (fun _ => ?_)
    clear hK K hb
    try simp only [Act.put, List.setIfInBounds_toArray, List.set_cons_zero, List.set_cons_succ]
    refine wpAnyH_ready (rs := [2, 6]) (by kernel_rfl) (by simp) ?_
    refine AllReadyH.cons (o := { dst := some 32, op := Op.call { callee := Callee.value (Operand.func 13), args := #[Operand.tmp 30, Operand.tmp 31], argTypes := #[23, 23] }, type := 26, pos := "more.go:16", after := #[{ on := 0, ground := Ground.data }, { on := 1, ground := Ground.data }, { on := 1, ground := Ground.chain }], guard := none }) rfl (fun K hK => ?_) (AllReadyH.cons (o := { dst := some 9, op := Op.alloc 23, type := 0, pos := "more.go:16", after := #[], guard := none }) rfl (fun K hK => ?_) AllReadyH.nil)
    · go_simp
      with_reducible refine (HM1.out _).mono ?_
      rintro e q30 ⟨rfl, hb⟩
      have hT2 : (fun W : World => Below wd28.heap.size wd28 W) q30 := hT1.trans (hb.mono hT1.size)
      try unfold pairV
      refine hK.out _ _ hT2 (fun _ => ?_)
      clear hK K hb
      refine wpAnyH_take (i := 3) (oi := { dst := some 29, op := Op.move (Operand.tmp 32), type := 26, pos := "more.go:16", after := #[{ on := 2, ground := Ground.data }], guard := none }) (v := ?_) rfl (by kernel_rfl) (by kernel_rfl) (by kernel_rfl) (fun _ _ _ h => h) (Or.inl ⟨by rfl, ?_⟩) (by assumption) ?_
      rotate_left
      · intro w hSw
        try dsimp only at hSw
        go_simp
        try with_reducible rfl
      try simp only [Act.put, List.setIfInBounds_toArray, List.set_cons_zero, List.set_cons_succ]
      refine wpAnyH_take (i := 4) (oi := { dst := some 33, op := Op.extract (Operand.tmp 29) 0, type := 23, pos := "more.go:16", after := #[{ on := 3, ground := Ground.data }], guard := none }) (v := ?_) rfl (by kernel_rfl) (by kernel_rfl) (by kernel_rfl) (fun _ _ _ h => h) (Or.inl ⟨by rfl, ?_⟩) (by assumption) ?_
      rotate_left
      · intro w hSw
        try dsimp only at hSw
        go_simp
        try with_reducible rfl
      try simp only [Act.put, List.setIfInBounds_toArray, List.set_cons_zero, List.set_cons_succ]
      refine wpAnyH_take (i := 5) (oi := { dst := some 34, op := Op.extract (Operand.tmp 29) 1, type := 25, pos := "more.go:16", after := #[{ on := 3, ground := Ground.data }, { on := 7, ground := Ground.gcOnly Departure.lateStores }], guard := none }) (v := ?_) rfl (by kernel_rfl) (by kernel_rfl) (by kernel_rfl) (fun _ _ _ h => h) (Or.inl ⟨by rfl, ?_⟩) (by assumption) ?_
      rotate_left
      · intro w hSw
        try dsimp only at hSw
        go_simp
        try with_reducible rfl
      try simp only [Act.put, List.setIfInBounds_toArray, List.set_cons_zero, List.set_cons_succ]
      refine wpAnyH_ready (rs := [6]) (by kernel_rfl) (by simp) ?_
      refine AllReadyH.cons (o := { dst := some 9, op := Op.alloc 23, type := 0, pos := "more.go:16", after := #[], guard := none }) rfl (fun K hK => ?_) AllReadyH.nil
      go_simp
      have hT3 : (fun W : World => Below wd28.heap.size wd28 W) (q30.alloc (.cells #[.bool false, .string ⟨#[]⟩, .int .i64 0] 23)) := hT2.alloc hT2.size _
      have HZ3 := Lib.hid (heap_alloc_new q30 (.cells #[.bool false, .string ⟨#[]⟩, .int .i64 0] 23))
      have HGe := Lib.hid hT2.size
      generalize q30.alloc (.cells #[.bool false, .string ⟨#[]⟩, .int .i64 0] 23) = q31 at hT3 HZ3 ⊢
      refine hK.out _ _ hT3 (fun _ => ?_)
      clear hK K
      try simp only [Act.put, List.setIfInBounds_toArray, List.set_cons_zero, List.set_cons_succ]
      refine wpAnyH_ready (rs := [7]) (by kernel_rfl) (by simp) ?_
      refine AllReadyH.cons (o := { dst := none, op := Op.store 23 (Operand.tmp 9) (Operand.tmp 33), type := 0, pos := "more.go:16", after := #[{ on := 6, ground := Ground.data }, { on := 4, ground := Ground.data }, { on := 2, ground := Ground.chain }, { on := 0, ground := Ground.phase }, { on := 1, ground := Ground.phase }, { on := 2, ground := Ground.phase }, { on := 3, ground := Ground.phase }, { on := 4, ground := Ground.phase }, { on := 5, ground := Ground.textOnly Departure.lateStores }, { on := 6, ground := Ground.phase }], guard := none }) rfl (fun K hK => ?_) AllReadyH.nil
      obtain ⟨_, f0, f1, f2⟩ := row3 HZ3.out
      have hS := set3 (v0 := (.bool n)) (v1 := (.string dg)) (v2 := (.int .i64 ex)) HZ3.out HGe.out hT3
      have HS1 := Lib.hid hS.1
      have hT9 : (fun W : World => Below wd28.heap.size wd28 W) _ := hS.2
      clear hS
      go_simp
      refine hK.out _ _ hT9 (fun _ => ?_)
      clear hK K f0 f1 f2 HZ3
      refine wpAnyH_take (i := 8) (oi := { dst := some 10, op := Op.assign (Operand.tmp 34), type := 25, pos := "more.go:16", after := #[{ on := 5, ground := Ground.data }, { on := 7, ground := Ground.chain }, { on := 0, ground := Ground.phase }, { on := 1, ground := Ground.phase }, { on := 2, ground := Ground.phase }, { on := 3, ground := Ground.phase }, { on := 4, ground := Ground.phase }, { on := 5, ground := Ground.phase }, { on := 6, ground := Ground.phase }, { on := 7, ground := Ground.phase }], guard := none }) (v := ?_) rfl (by kernel_rfl) (by kernel_rfl) (by kernel_rfl) (fun _ _ _ h => h) (Or.inl ⟨by rfl, ?_⟩) (by assumption) ?_
      rotate_left
      · intro w hSw
        try dsimp only at hSw
        go_simp
        try with_reducible rfl
      refine wpAnyH_done (by kernel_rfl) ?_ _
      generalize ((q31.setCell ⟨q30.heap.size, 0, none⟩ (.bool n)).setCell ⟨q30.heap.size, 1, none⟩ (.string dg)).setCell ⟨q30.heap.size, 2, none⟩ (.int .i64 ex) = q32 at hT9 HS1 ⊢
      have R33 := Lib.hid ((hT9.block _ (lt_of_block R24.out)).trans R24.out)
      have R34 := Lib.hid ((hT9.block _ (lt_of_block R25.out)).trans R25.out)
      have X35 := Lib.hid (TabB.below X26.out hT9)
      have B36 := Lib.hid (B27.out.trans (hT9.mono B27.out.size))
      clear hT9 hT0 hT1 hT2 hT3 R24 R25 X26 B27
      obtain ⟨⟨c37, c38, c39⟩, _⟩ := row3 R33.out
      go_wp2_with fail
      clear c37 c38 c39
      with_reducible refine (HM0.out _).mono ?_
      rintro e u40 ⟨rfl, hb⟩
      have R41 := Lib.hid ((hb.block _ (lt_of_block R33.out)).trans R33.out)
      have R42 := Lib.hid ((hb.block _ (lt_of_block R34.out)).trans R34.out)
      have R43 := Lib.hid ((hb.block _ (lt_of_block HS1.out)).trans HS1.out)
      have X44 := Lib.hid (TabB.below X35.out hb)
      have B45 := Lib.hid (B36.out.trans (hb.mono B36.out.size))
      clear hb R33 R34 HS1 X35 B36
      unfold pairV Nm.zero
      obtain ⟨u46, hwv, hr, hb⟩ := boxed3 u40 (.bool false) (.string ⟨#[]⟩) (.int .i64 0)
      have R47 := Lib.hid ((hb.block _ (lt_of_block R41.out)).trans R41.out)
      have R48 := Lib.hid ((hb.block _ (lt_of_block R42.out)).trans R42.out)
      have R49 := Lib.hid ((hb.block _ (lt_of_block R43.out)).trans R43.out)
      have X50 := Lib.hid (TabB.below X44.out hb)
      have B51 := Lib.hid (B45.out.trans (hb.mono B45.out.size))
      have R52 := Lib.hid hr
      have HYW := Lib.hid hwv
      clear hb hr hwv R41 R42 R43 X44 B45
      go_upto_region 8 with fail
      rw [← HYW.out]
      clear HYW
      obtain ⟨⟨c53, c54, c55⟩, _⟩ := row3 R47.out
      obtain ⟨u56, hwv, hr, hb⟩ := boxed3 u46 (.bool n) (.string dg) (.int .i64 ex)
      have HYW := Lib.hid hwv
      have hd := (hb.block _ (lt_of_block R47.out)).trans R47.out
      obtain ⟨hr2, hb2⟩ := stepSet (W0 := u46) (B := u46.heap.size) 2 (.int .i64 (ex + k)) (Nat.le_refl _) ⟨hr, hb⟩
      have hr3 : (u56.setCell ⟨u46.heap.size, 2, none⟩ (.int .i64 (ex + k))).heap[u46.heap.size]? = some (.cells #[.bool n, .string dg, .int .i64 (ex + k)] 23 (0, 0)) := hr2
      obtain ⟨⟨e0, e1, e2⟩, g0, g1, g2⟩ := row3 hr
      obtain ⟨⟨i0, i1, i2⟩, _⟩ := row3 hd
      obtain ⟨u57, hV2⟩ : ∃ V, V = u56.setCell ⟨u46.heap.size, 2, none⟩ (.int .i64 (ex + k)) := ⟨_, rfl⟩
      rw [← hV2] at hr3 hb2
      have R58 := Lib.hid ((hb2.block _ (lt_of_block R47.out)).trans R47.out)
      have R59 := Lib.hid ((hb2.block _ (lt_of_block R48.out)).trans R48.out)
      have R60 := Lib.hid ((hb2.block _ (lt_of_block R49.out)).trans R49.out)
      have R61 := Lib.hid ((hb2.block _ (lt_of_block R52.out)).trans R52.out)
      have X62 := Lib.hid (TabB.below X50.out hb2)
      have B63 := Lib.hid (B51.out.trans (hb2.mono B51.out.size))
      have R64 := Lib.hid hr3
      have HY2 := Lib.hid hV2
      clear hb2 hr2 hr3 hb hr hd hwv hV2 R47 R48 R49 R52 X50 B51
      go_upto_region 9 with fail
      rw [← HYW.out]
      clear c53 c54 c55
      obtain ⟨⟨c65, c66, c67⟩, _⟩ := row3 R64.out
      go_wp2_with fail
      try rw [← HY2.out]
      clear e0 e1 e2 g0 g1 g2 i0 i1 i2 HYW HY2
      clear c65 c66 c67
      with_reducible refine (HS2.out _).mono ?_
      rintro e u68 ⟨rfl, hb⟩
      have R69 := Lib.hid ((hb.block _ (lt_of_block R58.out)).trans R58.out)
      have R70 := Lib.hid ((hb.block _ (lt_of_block R59.out)).trans R59.out)
      have R71 := Lib.hid ((hb.block _ (lt_of_block R60.out)).trans R60.out)
      have R72 := Lib.hid ((hb.block _ (lt_of_block R61.out)).trans R61.out)
      have R73 := Lib.hid ((hb.block _ (lt_of_block R64.out)).trans R64.out)
      have X74 := Lib.hid (TabB.below X62.out hb)
      have B75 := Lib.hid (B63.out.trans (hb.mono B63.out.size))
      clear hb R58 R59 R60 R61 R64 X62 B63
      obtain ⟨⟨c76, c77, c78⟩, _⟩ := row3 R69.out
      obtain ⟨⟨c79, c80, c81⟩, _⟩ := row3 R70.out
      obtain ⟨⟨c82, c83, c84⟩, _⟩ := row3 R71.out
      obtain ⟨⟨c85, c86, c87⟩, _⟩ := row3 R72.out
      obtain ⟨⟨c88, c89, c90⟩, _⟩ := row3 R73.out
      go_wp2_with fail
      go_ret
      exact ⟨rfl, B75.out⟩
    · go_simp
      have hT2 : (fun W : World => Below wd28.heap.size wd28 W) (q29.alloc (.cells #[.bool false, .string ⟨#[]⟩, .int .i64 0] 23)) := hT1.alloc hT1.size _
      have HZ2 := Lib.hid (heap_alloc_new q29 (.cells #[.bool false, .string ⟨#[]⟩, .int .i64 0] 23))
      have HGe := Lib.hid hT1.size
      generalize q29.alloc (.cells #[.bool false, .string ⟨#[]⟩, .int .i64 0] 23) = q30 at hT2 HZ2 ⊢
      refine hK.out _ _ hT2 (fun _ => ?_)
      clear hK K
      try simp only [Act.put, List.setIfInBounds_toArray, List.set_cons_zero, List.set_cons_succ]
      refine wpAnyH_ready (rs := [2]) (by kernel_rfl) (by simp) ?_
      refine AllReadyH.cons (o := { dst := some 32, op := Op.call { callee := Callee.value (Operand.func 13), args := #[Operand.tmp 30, Operand.tmp 31], argTypes := #[23, 23] }, type := 26, pos := "more.go:16", after := #[{ on := 0, ground := Ground.data }, { on := 1, ground := Ground.data }, { on := 1, ground := Ground.chain }], guard := none }) rfl (fun K hK => ?_) AllReadyH.nil
      go_simp
      with_reducible refine (HM1.out _).mono ?_
      rintro e q31 ⟨rfl, hb⟩
      have hT3 : (fun W : World => Below wd28.heap.size wd28 W) q31 := hT2.trans (hb.mono hT2.size)
      have HZ3 := Lib.hid ((hb.block _ (lt_of_block HZ2.out)).trans HZ2.out)
      clear HZ2
      try unfold pairV
      refine hK.out _ _ hT3 (fun _ => ?_)
      clear hK K hb
      refine wpAnyH_take (i := 3) (oi := { dst := some 29, op := Op.move (Operand.tmp 32), type := 26, pos := "more.go:16", after := #[{ on := 2, ground := Ground.data }], guard := none }) (v := ?_) rfl (by kernel_rfl) (by kernel_rfl) (by kernel_rfl) (fun _ _ _ h => h) (Or.inl ⟨by rfl, ?_⟩) (by assumption) ?_
      rotate_left
      · intro w hSw
        try dsimp only at hSw
        go_simp
        try with_reducible rfl
      try simp only [Act.put, List.setIfInBounds_toArray, List.set_cons_zero, List.set_cons_succ]
      refine wpAnyH_take (i := 4) (oi := { dst := some 33, op := Op.extract (Operand.tmp 29) 0, type := 23, pos := "more.go:16", after := #[{ on := 3, ground := Ground.data }], guard := none }) (v := ?_) rfl (by kernel_rfl) (by kernel_rfl) (by kernel_rfl) (fun _ _ _ h => h) (Or.inl ⟨by rfl, ?_⟩) (by assumption) ?_
      rotate_left
      · intro w hSw
        try dsimp only at hSw
        go_simp
        try with_reducible rfl
      try simp only [Act.put, List.setIfInBounds_toArray, List.set_cons_zero, List.set_cons_succ]
      refine wpAnyH_take (i := 5) (oi := { dst := some 34, op := Op.extract (Operand.tmp 29) 1, type := 25, pos := "more.go:16", after := #[{ on := 3, ground := Ground.data }, { on := 7, ground := Ground.gcOnly Departure.lateStores }], guard := none }) (v := ?_) rfl (by kernel_rfl) (by kernel_rfl) (by kernel_rfl) (fun _ _ _ h => h) (Or.inl ⟨by rfl, ?_⟩) (by assumption) ?_
      rotate_left
      · intro w hSw
        try dsimp only at hSw
        go_simp
        try with_reducible rfl
      try simp only [Act.put, List.setIfInBounds_toArray, List.set_cons_zero, List.set_cons_succ]
      refine wpAnyH_ready (rs := [7]) (by kernel_rfl) (by simp) ?_
      refine AllReadyH.cons (o := { dst := none, op := Op.store 23 (Operand.tmp 9) (Operand.tmp 33), type := 0, pos := "more.go:16", after := #[{ on := 6, ground := Ground.data }, { on := 4, ground := Ground.data }, { on := 2, ground := Ground.chain }, { on := 0, ground := Ground.phase }, { on := 1, ground := Ground.phase }, { on := 2, ground := Ground.phase }, { on := 3, ground := Ground.phase }, { on := 4, ground := Ground.phase }, { on := 5, ground := Ground.textOnly Departure.lateStores }, { on := 6, ground := Ground.phase }], guard := none }) rfl (fun K hK => ?_) AllReadyH.nil
      obtain ⟨_, f0, f1, f2⟩ := row3 HZ3.out
      have hS := set3 (v0 := (.bool n)) (v1 := (.string dg)) (v2 := (.int .i64 ex)) HZ3.out HGe.out hT3
      have HS1 := Lib.hid hS.1
      have hT9 : (fun W : World => Below wd28.heap.size wd28 W) _ := hS.2
      clear hS
      go_simp
      refine hK.out _ _ hT9 (fun _ => ?_)
      clear hK K f0 f1 f2 HZ3
      refine wpAnyH_take (i := 8) (oi := { dst := some 10, op := Op.assign (Operand.tmp 34), type := 25, pos := "more.go:16", after := #[{ on := 5, ground := Ground.data }, { on := 7, ground := Ground.chain }, { on := 0, ground := Ground.phase }, { on := 1, ground := Ground.phase }, { on := 2, ground := Ground.phase }, { on := 3, ground := Ground.phase }, { on := 4, ground := Ground.phase }, { on := 5, ground := Ground.phase }, { on := 6, ground := Ground.phase }, { on := 7, ground := Ground.phase }], guard := none }) (v := ?_) rfl (by kernel_rfl) (by kernel_rfl) (by kernel_rfl) (fun _ _ _ h => h) (Or.inl ⟨by rfl, ?_⟩) (by assumption) ?_
      rotate_left
      · intro w hSw
        try dsimp only at hSw
        go_simp
        try with_reducible rfl
      refine wpAnyH_done (by kernel_rfl) ?_ _
      generalize ((q31.setCell ⟨q29.heap.size, 0, none⟩ (.bool n)).setCell ⟨q29.heap.size, 1, none⟩ (.string dg)).setCell ⟨q29.heap.size, 2, none⟩ (.int .i64 ex) = q32 at hT9 HS1 ⊢
      have R33 := Lib.hid ((hT9.block _ (lt_of_block R24.out)).trans R24.out)
      have R34 := Lib.hid ((hT9.block _ (lt_of_block R25.out)).trans R25.out)
      have X35 := Lib.hid (TabB.below X26.out hT9)
      have B36 := Lib.hid (B27.out.trans (hT9.mono B27.out.size))
      clear hT9 hT0 hT1 hT2 hT3 R24 R25 X26 B27
      obtain ⟨⟨c37, c38, c39⟩, _⟩ := row3 R33.out
      go_wp2_with fail
      clear c37 c38 c39
      with_reducible refine (HM0.out _).mono ?_
      rintro e u40 ⟨rfl, hb⟩
      have R41 := Lib.hid ((hb.block _ (lt_of_block R33.out)).trans R33.out)
      have R42 := Lib.hid ((hb.block _ (lt_of_block R34.out)).trans R34.out)
      have R43 := Lib.hid ((hb.block _ (lt_of_block HS1.out)).trans HS1.out)
      have X44 := Lib.hid (TabB.below X35.out hb)
      have B45 := Lib.hid (B36.out.trans (hb.mono B36.out.size))
      clear hb R33 R34 HS1 X35 B36
      unfold pairV Nm.zero
      obtain ⟨u46, hwv, hr, hb⟩ := boxed3 u40 (.bool false) (.string ⟨#[]⟩) (.int .i64 0)
      have R47 := Lib.hid ((hb.block _ (lt_of_block R41.out)).trans R41.out)
      have R48 := Lib.hid ((hb.block _ (lt_of_block R42.out)).trans R42.out)
      have R49 := Lib.hid ((hb.block _ (lt_of_block R43.out)).trans R43.out)
      have X50 := Lib.hid (TabB.below X44.out hb)
      have B51 := Lib.hid (B45.out.trans (hb.mono B45.out.size))
      have R52 := Lib.hid hr
      have HYW := Lib.hid hwv
      clear hb hr hwv R41 R42 R43 X44 B45
      go_upto_region 8 with fail
      rw [← HYW.out]
      clear HYW
      obtain ⟨⟨c53, c54, c55⟩, _⟩ := row3 R47.out
      obtain ⟨u56, hwv, hr, hb⟩ := boxed3 u46 (.bool n) (.string dg) (.int .i64 ex)
      have HYW := Lib.hid hwv
      have hd := (hb.block _ (lt_of_block R47.out)).trans R47.out
      obtain ⟨hr2, hb2⟩ := stepSet (W0 := u46) (B := u46.heap.size) 2 (.int .i64 (ex + k)) (Nat.le_refl _) ⟨hr, hb⟩
      have hr3 : (u56.setCell ⟨u46.heap.size, 2, none⟩ (.int .i64 (ex + k))).heap[u46.heap.size]? = some (.cells #[.bool n, .string dg, .int .i64 (ex + k)] 23 (0, 0)) := hr2
      obtain ⟨⟨e0, e1, e2⟩, g0, g1, g2⟩ := row3 hr
      obtain ⟨⟨i0, i1, i2⟩, _⟩ := row3 hd
      obtain ⟨u57, hV2⟩ : ∃ V, V = u56.setCell ⟨u46.heap.size, 2, none⟩ (.int .i64 (ex + k)) := ⟨_, rfl⟩
      rw [← hV2] at hr3 hb2
      have R58 := Lib.hid ((hb2.block _ (lt_of_block R47.out)).trans R47.out)
      have R59 := Lib.hid ((hb2.block _ (lt_of_block R48.out)).trans R48.out)
      have R60 := Lib.hid ((hb2.block _ (lt_of_block R49.out)).trans R49.out)
      have R61 := Lib.hid ((hb2.block _ (lt_of_block R52.out)).trans R52.out)
      have X62 := Lib.hid (TabB.below X50.out hb2)
      have B63 := Lib.hid (B51.out.trans (hb2.mono B51.out.size))
      have R64 := Lib.hid hr3
      have HY2 := Lib.hid hV2
      clear hb2 hr2 hr3 hb hr hd hwv hV2 R47 R48 R49 R52 X50 B51
      go_upto_region 9 with fail
      rw [← HYW.out]
      clear c53 c54 c55
      obtain ⟨⟨c65, c66, c67⟩, _⟩ := row3 R64.out
      go_wp2_with fail
      try rw [← HY2.out]
      clear e0 e1 e2 g0 g1 g2 i0 i1 i2 HYW HY2
      clear c65 c66 c67
      with_reducible refine (HS2.out _).mono ?_
      rintro e u68 ⟨rfl, hb⟩
      have R69 := Lib.hid ((hb.block _ (lt_of_block R58.out)).trans R58.out)
      have R70 := Lib.hid ((hb.block _ (lt_of_block R59.out)).trans R59.out)
      have R71 := Lib.hid ((hb.block _ (lt_of_block R60.out)).trans R60.out)
      have R72 := Lib.hid ((hb.block _ (lt_of_block R61.out)).trans R61.out)
      have R73 := Lib.hid ((hb.block _ (lt_of_block R64.out)).trans R64.out)
      have X74 := Lib.hid (TabB.below X62.out hb)
      have B75 := Lib.hid (B63.out.trans (hb.mono B63.out.size))
      clear hb R58 R59 R60 R61 R64 X62 B63
      obtain ⟨⟨c76, c77, c78⟩, _⟩ := row3 R69.out
      obtain ⟨⟨c79, c80, c81⟩, _⟩ := row3 R70.out
      obtain ⟨⟨c82, c83, c84⟩, _⟩ := row3 R71.out
      obtain ⟨⟨c85, c86, c87⟩, _⟩ := row3 R72.out
      obtain ⟨⟨c88, c89, c90⟩, _⟩ := row3 R73.out
      go_wp2_with fail
      go_ret
      exact ⟨rfl, B75.out⟩
  · go_simp
    have hT1 : (fun W : World => Below wd28.heap.size wd28 W) (wd28.alloc (.cells #[.bool false, .string ⟨#[]⟩, .int .i64 0] 23)) := hT0.alloc hT0.size _
    have HZ1 := Lib.hid (heap_alloc_new wd28 (.cells #[.bool false, .string ⟨#[]⟩, .int .i64 0] 23))
    have HGe := Lib.hid hT0.size
    generalize wd28.alloc (.cells #[.bool false, .string ⟨#[]⟩, .int .i64 0] 23) = q29 at hT1 HZ1 ⊢
    refine hK.out _ _ hT1 (fun _ => ?_)
    clear hK K
    try simp only [Act.put, List.setIfInBounds_toArray, List.set_cons_zero, List.set_cons_succ]
    refine wpAnyH_ready (rs := [1]) (by kernel_rfl) (by simp) ?_
    refine AllReadyH.cons (o := { dst := some 31, op := Op.call { callee := Callee.value (Operand.func 21), args := #[Operand.const (Value.int IntKind.i64 1)], argTypes := #[3] }, type := 23, pos := "more.go:16", after := #[], guard := none }) rfl (fun K hK => ?_) AllReadyH.nil
    go_simp
    with_reducible refine (HO.out _ (TabB.below X26.out hT1)).mono ?_
    rintro e q30 ⟨rfl, hb⟩
    have hT2 : (fun W : World => Below wd28.heap.size wd28 W) q30 := hT1.trans (hb.mono hT1.size)
    have HZ2 := Lib.hid ((hb.block _ (lt_of_block HZ1.out)).trans HZ1.out)
    clear HZ1
    try unfold pairV
    refine hK.out _ _ hT2 (fun _ => ?_)
    clear hK K hb
    try simp only [Act.put, List.setIfInBounds_toArray, List.set_cons_zero, List.set_cons_succ]
    refine wpAnyH_ready (rs := [2]) (by kernel_rfl) (by simp) ?_
    refine AllReadyH.cons (o := { dst := some 32, op := Op.call { callee := Callee.value (Operand.func 13), args := #[Operand.tmp 30, Operand.tmp 31], argTypes := #[23, 23] }, type := 26, pos := "more.go:16", after := #[{ on := 0, ground := Ground.data }, { on := 1, ground := Ground.data }, { on := 1, ground := Ground.chain }], guard := none }) rfl (fun K hK => ?_) AllReadyH.nil
    go_simp
    with_reducible refine (HM1.out _).mono ?_
    rintro e q31 ⟨rfl, hb⟩
    have hT3 : (fun W : World => Below wd28.heap.size wd28 W) q31 := hT2.trans (hb.mono hT2.size)
    have HZ3 := Lib.hid ((hb.block _ (lt_of_block HZ2.out)).trans HZ2.out)
    clear HZ2
    try unfold pairV
    refine hK.out _ _ hT3 (fun _ => ?_)
    clear hK K hb
    refine wpAnyH_take (i := 3) (oi := { dst := some 29, op := Op.move (Operand.tmp 32), type := 26, pos := "more.go:16", after := #[{ on := 2, ground := Ground.data }], guard := none }) (v := ?_) rfl (by kernel_rfl) (by kernel_rfl) (by kernel_rfl) (fun _ _ _ h => h) (Or.inl ⟨by rfl, ?_⟩) (by assumption) ?_
    rotate_left
    · intro w hSw
      try dsimp only at hSw
      go_simp
      try with_reducible rfl
    try simp only [Act.put, List.setIfInBounds_toArray, List.set_cons_zero, List.set_cons_succ]
    refine wpAnyH_take (i := 4) (oi := { dst := some 33, op := Op.extract (Operand.tmp 29) 0, type := 23, pos := "more.go:16", after := #[{ on := 3, ground := Ground.data }], guard := none }) (v := ?_) rfl (by kernel_rfl) (by kernel_rfl) (by kernel_rfl) (fun _ _ _ h => h) (Or.inl ⟨by rfl, ?_⟩) (by assumption) ?_
    rotate_left
    · intro w hSw
      try dsimp only at hSw
      go_simp
      try with_reducible rfl
    try simp only [Act.put, List.setIfInBounds_toArray, List.set_cons_zero, List.set_cons_succ]
    refine wpAnyH_take (i := 5) (oi := { dst := some 34, op := Op.extract (Operand.tmp 29) 1, type := 25, pos := "more.go:16", after := #[{ on := 3, ground := Ground.data }, { on := 7, ground := Ground.gcOnly Departure.lateStores }], guard := none }) (v := ?_) rfl (by kernel_rfl) (by kernel_rfl) (by kernel_rfl) (fun _ _ _ h => h) (Or.inl ⟨by rfl, ?_⟩) (by assumption) ?_
    rotate_left
    · intro w hSw
      try dsimp only at hSw
      go_simp
      try with_reducible rfl
    try simp only [Act.put, List.setIfInBounds_toArray, List.set_cons_zero, List.set_cons_succ]
    refine wpAnyH_ready (rs := [7]) (by kernel_rfl) (by simp) ?_
    refine AllReadyH.cons (o := { dst := none, op := Op.store 23 (Operand.tmp 9) (Operand.tmp 33), type := 0, pos := "more.go:16", after := #[{ on := 6, ground := Ground.data }, { on := 4, ground := Ground.data }, { on := 2, ground := Ground.chain }, { on := 0, ground := Ground.phase }, { on := 1, ground := Ground.phase }, { on := 2, ground := Ground.phase }, { on := 3, ground := Ground.phase }, { on := 4, ground := Ground.phase }, { on := 5, ground := Ground.textOnly Departure.lateStores }, { on := 6, ground := Ground.phase }], guard := none }) rfl (fun K hK => ?_) AllReadyH.nil
    obtain ⟨_, f0, f1, f2⟩ := row3 HZ3.out
    have hS := set3 (v0 := (.bool n)) (v1 := (.string dg)) (v2 := (.int .i64 ex)) HZ3.out HGe.out hT3
    have HS1 := Lib.hid hS.1
    have hT9 : (fun W : World => Below wd28.heap.size wd28 W) _ := hS.2
    clear hS
    go_simp
    refine hK.out _ _ hT9 (fun _ => ?_)
    clear hK K f0 f1 f2 HZ3
    refine wpAnyH_take (i := 8) (oi := { dst := some 10, op := Op.assign (Operand.tmp 34), type := 25, pos := "more.go:16", after := #[{ on := 5, ground := Ground.data }, { on := 7, ground := Ground.chain }, { on := 0, ground := Ground.phase }, { on := 1, ground := Ground.phase }, { on := 2, ground := Ground.phase }, { on := 3, ground := Ground.phase }, { on := 4, ground := Ground.phase }, { on := 5, ground := Ground.phase }, { on := 6, ground := Ground.phase }, { on := 7, ground := Ground.phase }], guard := none }) (v := ?_) rfl (by kernel_rfl) (by kernel_rfl) (by kernel_rfl) (fun _ _ _ h => h) (Or.inl ⟨by rfl, ?_⟩) (by assumption) ?_
    rotate_left
    · intro w hSw
      try dsimp only at hSw
      go_simp
      try with_reducible rfl
    refine wpAnyH_done (by kernel_rfl) ?_ _
    generalize ((q31.setCell ⟨wd28.heap.size, 0, none⟩ (.bool n)).setCell ⟨wd28.heap.size, 1, none⟩ (.string dg)).setCell ⟨wd28.heap.size, 2, none⟩ (.int .i64 ex) = q32 at hT9 HS1 ⊢
    have R33 := Lib.hid ((hT9.block _ (lt_of_block R24.out)).trans R24.out)
    have R34 := Lib.hid ((hT9.block _ (lt_of_block R25.out)).trans R25.out)
    have X35 := Lib.hid (TabB.below X26.out hT9)
    have B36 := Lib.hid (B27.out.trans (hT9.mono B27.out.size))
    clear hT9 hT0 hT1 hT2 hT3 R24 R25 X26 B27
    obtain ⟨⟨c37, c38, c39⟩, _⟩ := row3 R33.out
    go_wp2_with fail
    clear c37 c38 c39
    with_reducible refine (HM0.out _).mono ?_
    rintro e u40 ⟨rfl, hb⟩
    have R41 := Lib.hid ((hb.block _ (lt_of_block R33.out)).trans R33.out)
    have R42 := Lib.hid ((hb.block _ (lt_of_block R34.out)).trans R34.out)
    have R43 := Lib.hid ((hb.block _ (lt_of_block HS1.out)).trans HS1.out)
    have X44 := Lib.hid (TabB.below X35.out hb)
    have B45 := Lib.hid (B36.out.trans (hb.mono B36.out.size))
    clear hb R33 R34 HS1 X35 B36
    unfold pairV Nm.zero
    obtain ⟨u46, hwv, hr, hb⟩ := boxed3 u40 (.bool false) (.string ⟨#[]⟩) (.int .i64 0)
    have R47 := Lib.hid ((hb.block _ (lt_of_block R41.out)).trans R41.out)
    have R48 := Lib.hid ((hb.block _ (lt_of_block R42.out)).trans R42.out)
    have R49 := Lib.hid ((hb.block _ (lt_of_block R43.out)).trans R43.out)
    have X50 := Lib.hid (TabB.below X44.out hb)
    have B51 := Lib.hid (B45.out.trans (hb.mono B45.out.size))
    have R52 := Lib.hid hr
    have HYW := Lib.hid hwv
    clear hb hr hwv R41 R42 R43 X44 B45
    go_upto_region 8 with fail
    rw [← HYW.out]
    clear HYW
    obtain ⟨⟨c53, c54, c55⟩, _⟩ := row3 R47.out
    obtain ⟨u56, hwv, hr, hb⟩ := boxed3 u46 (.bool n) (.string dg) (.int .i64 ex)
    have HYW := Lib.hid hwv
    have hd := (hb.block _ (lt_of_block R47.out)).trans R47.out
    obtain ⟨hr2, hb2⟩ := stepSet (W0 := u46) (B := u46.heap.size) 2 (.int .i64 (ex + k)) (Nat.le_refl _) ⟨hr, hb⟩
    have hr3 : (u56.setCell ⟨u46.heap.size, 2, none⟩ (.int .i64 (ex + k))).heap[u46.heap.size]? = some (.cells #[.bool n, .string dg, .int .i64 (ex + k)] 23 (0, 0)) := hr2
    obtain ⟨⟨e0, e1, e2⟩, g0, g1, g2⟩ := row3 hr
    obtain ⟨⟨i0, i1, i2⟩, _⟩ := row3 hd
    obtain ⟨u57, hV2⟩ : ∃ V, V = u56.setCell ⟨u46.heap.size, 2, none⟩ (.int .i64 (ex + k)) := ⟨_, rfl⟩
    rw [← hV2] at hr3 hb2
    have R58 := Lib.hid ((hb2.block _ (lt_of_block R47.out)).trans R47.out)
    have R59 := Lib.hid ((hb2.block _ (lt_of_block R48.out)).trans R48.out)
    have R60 := Lib.hid ((hb2.block _ (lt_of_block R49.out)).trans R49.out)
    have R61 := Lib.hid ((hb2.block _ (lt_of_block R52.out)).trans R52.out)
    have X62 := Lib.hid (TabB.below X50.out hb2)
    have B63 := Lib.hid (B51.out.trans (hb2.mono B51.out.size))
    have R64 := Lib.hid hr3
    have HY2 := Lib.hid hV2
    clear hb2 hr2 hr3 hb hr hd hwv hV2 R47 R48 R49 R52 X50 B51
    go_upto_region 9 with fail
    rw [← HYW.out]
    clear c53 c54 c55
    obtain ⟨⟨c65, c66, c67⟩, _⟩ := row3 R64.out
    go_wp2_with fail
    try rw [← HY2.out]
    clear e0 e1 e2 g0 g1 g2 i0 i1 i2 HYW HY2
    clear c65 c66 c67
    with_reducible refine (HS2.out _).mono ?_
    rintro e u68 ⟨rfl, hb⟩
    have R69 := Lib.hid ((hb.block _ (lt_of_block R58.out)).trans R58.out)
    have R70 := Lib.hid ((hb.block _ (lt_of_block R59.out)).trans R59.out)
    have R71 := Lib.hid ((hb.block _ (lt_of_block R60.out)).trans R60.out)
    have R72 := Lib.hid ((hb.block _ (lt_of_block R61.out)).trans R61.out)
    have R73 := Lib.hid ((hb.block _ (lt_of_block R64.out)).trans R64.out)
    have X74 := Lib.hid (TabB.below X62.out hb)
    have B75 := Lib.hid (B63.out.trans (hb.mono B63.out.size))
    clear hb R58 R59 R60 R61 R64 X62 B63
    obtain ⟨⟨c76, c77, c78⟩, _⟩ := row3 R69.out
    obtain ⟨⟨c79, c80, c81⟩, _⟩ := row3 R70.out
    obtain ⟨⟨c82, c83, c84⟩, _⟩ := row3 R71.out
    obtain ⟨⟨c85, c86, c87⟩, _⟩ := row3 R72.out
    obtain ⟨⟨c88, c89, c90⟩, _⟩ := row3 R73.out
    go_wp2_with fail
    go_ret
    exact ⟨rfl, B75.out⟩
set_option maxRecDepth 100000 in
set_option maxHeartbeats 4000000 in
theorem shifts_zero (w : World) (x1 k : Int) (hk : IntKind.i64.wrap (bits .and .i64 x1 255 - 128) = k) (hm : mulP ⟨false, ⟨#[]⟩, 0⟩ (tenN k) = (Nm.zero, 0)) (h1 : mulP ⟨false, ⟨#[]⟩, 0⟩ (tenN 0) = (⟨false, ⟨#[]⟩, 0⟩, 0)) (h0 : mulP ⟨false, ⟨#[]⟩, 0⟩ ⟨false, ⟨#[]⟩, 0⟩ = (Nm.zero, 0)) (ht : TabB w) :
    Calls Tryd.prog 8 #[.agg #[.bool false, .string ⟨#[]⟩, .int .i64 0], .int .i64 x1] w fun e w' => e = .returned (.bool true) ∧ Below w.heap.size w w' := by
  have HS := Lib.hid (fun v => Sane_all v false ⟨#[]⟩ 0)
  have HM := Lib.hid (fun v => Mul_pair v false ⟨#[]⟩ 0 false ⟨#[49]⟩ k (by decide) (by decide))
  have HM1 := Lib.hid (fun v => Mul_pair v false ⟨#[]⟩ 0 false ⟨#[49]⟩ 0 (by decide) (by decide))
  have HM0 := Lib.hid (fun v => Mul_pair v false ⟨#[]⟩ 0 false ⟨#[]⟩ 0 (by decide) (by decide))
  rw [show (⟨false, ⟨#[49]⟩, k⟩ : Nm) = tenN k from rfl, hm] at HM
  rw [show (⟨false, ⟨#[49]⟩, 0⟩ : Nm) = tenN 0 from rfl, h1] at HM1
  rw [h0] at HM0
  have HO := Lib.hid (fun v h => Of_any v 1 (by decide) (by decide) h)
  rw [of_one] at HO
  rw [show dsane false (unstr ⟨#[]⟩) 0 = true from rfl] at HS
  have HS2 := HS
  clear hm h1 h0
  have hB : Below w.heap.size w (w.alloc (.cells #[.bool false, .string ⟨#[]⟩, .int .i64 0] 23)) := (Below.refl _ _).alloc (Nat.le_refl _) _
  have r1 : (w.alloc (.cells #[.bool false, .string ⟨#[]⟩, .int .i64 0] 23)).heap[w.heap.size]? = some (.cells #[.bool false, .string ⟨#[]⟩, .int .i64 0] 23 (0, 0)) := heap_alloc_new _ _
  obtain ⟨wa, hwa⟩ : ∃ wa, wa = w.alloc (.cells #[.bool false, .string ⟨#[]⟩, .int .i64 0] 23) := ⟨_, rfl⟩
  rw [← hwa] at hB r1
  have HW := Lib.hid hwa
  have HB := Lib.hid hB
  have HR := Lib.hid r1
  have HT := Lib.hid (TabB.below ht hB)
  clear hwa hB r1 ht
  go_enter Tryd.func8, Tryd.ntmps8
  go_upto_region 1 with fail
  rw [← HW.out]
  clear HW
  go_wp2_with fail
  with_reducible refine (awake_any _ HT.out).mono ?_
  rintro e u1 ⟨rfl, hb⟩
  have R2 := Lib.hid ((hb.block _ (lt_of_block HR.out)).trans HR.out)
  have X3 := Lib.hid (TabB.below HT.out hb)
  have B4 := Lib.hid (HB.out.trans (hb.mono HB.out.size))
  clear hb HR HT HB
  obtain ⟨⟨c5, c6, c7⟩, _⟩ := row3 R2.out
  go_wp2_with fail
  clear c5 c6 c7
  with_reducible refine (HS.out _).mono ?_
  rintro e u8 ⟨rfl, hb⟩
  have R9 := Lib.hid ((hb.block _ (lt_of_block R2.out)).trans R2.out)
  have X10 := Lib.hid (TabB.below X3.out hb)
  have B11 := Lib.hid (B4.out.trans (hb.mono B4.out.size))
  clear hb R2 X3 B4
  obtain ⟨⟨c12, c13, c14⟩, _⟩ := row3 R9.out
  go_wp2_with fail
  clear c12 c13 c14
  with_reducible refine (HM.out _).mono ?_
  rintro e u15 ⟨rfl, hb⟩
  have R16 := Lib.hid ((hb.block _ (lt_of_block R9.out)).trans R9.out)
  have X17 := Lib.hid (TabB.below X10.out hb)
  have B18 := Lib.hid (B11.out.trans (hb.mono B11.out.size))
  clear hb R9 X10 B11
  unfold pairV
  unfold Nm.zero
  obtain ⟨u19, hwv, hr, hb⟩ := boxed3 u15 (.bool false) (.string ⟨#[]⟩) (.int .i64 0)
  have R20 := Lib.hid ((hb.block _ (lt_of_block R16.out)).trans R16.out)
  have X21 := Lib.hid (TabB.below X17.out hb)
  have B22 := Lib.hid (B18.out.trans (hb.mono B18.out.size))
  have R23 := Lib.hid hr
  have HYW := Lib.hid hwv
  clear hb hr hwv R16 X17 B18
  go_upto_region 6 with fail
  rw [← HYW.out]
  clear HYW

  have hbd : Below u19.heap.size u19 u19.drew := (Below.refl _ _).drew
  have R24 := Lib.hid ((hbd.block _ (lt_of_block R20.out)).trans R20.out)
  have R25 := Lib.hid ((hbd.block _ (lt_of_block R23.out)).trans R23.out)
  have X26 := Lib.hid (TabB.below X21.out hbd)
  have B27 := Lib.hid (B22.out.trans (hbd.mono B22.out.size))
  clear hbd R20 R23 X21 B22
  have hT0 : (fun W : World => Below u19.drew.heap.size u19.drew W) u19.drew := Below.refl _ _
  refine wp_region_held_drew (S := (fun W : World => Below u19.drew.heap.size u19.drew W)) (by kernel_rfl) hT0 (fun hHeld => ?_)
  clear hHeld
  generalize u19.drew = wd28 at B27 R24 R25 X26 hT0 ⊢
  refine wpAnyH_take (i := 0) (oi := { dst := some 30, op := Op.load 23 (Operand.tmp 2), type := 23, pos := "more.go:16", after := #[], guard := none }) (v := ?_) rfl (by kernel_rfl) (by kernel_rfl) (by kernel_rfl) (fun _ _ _ h => h) (Or.inl ⟨by rfl, ?_⟩) (by assumption) ?_
  rotate_left
  · intro w hSw
    try dsimp only at hSw
    obtain ⟨⟨c0, c1, c2⟩, _⟩ := row3 ((hSw.block _ (lt_of_block R24.out)).trans R24.out)
    go_simp
    try with_reducible rfl
  try simp only [Act.put, List.setIfInBounds_toArray, List.set_cons_zero, List.set_cons_succ]
  refine wpAnyH_ready (rs := [1, 6]) (by kernel_rfl) (by simp) ?_
  refine AllReadyH.cons (o := { dst := some 31, op := Op.call { callee := Callee.value (Operand.func 21), args := #[Operand.const (Value.int IntKind.i64 1)], argTypes := #[3] }, type := 23, pos := "more.go:16", after := #[], guard := none }) rfl (fun K hK => ?_) (AllReadyH.cons (o := { dst := some 9, op := Op.alloc 23, type := 0, pos := "more.go:16", after := #[], guard := none }) rfl (fun K hK => ?_) AllReadyH.nil)
  · go_simp
    with_reducible refine (HO.out _ (TabB.below X26.out hT0)).mono ?_
    rintro e q29 ⟨rfl, hb⟩
    have hT1 : (fun W : World => Below wd28.heap.size wd28 W) q29 := hT0.trans (hb.mono hT0.size)
    try unfold pairV
    refine hK.out _ _ hT1 (fun _ => ?_)
    clear hK K hb
    try simp only [Act.put, List.setIfInBounds_toArray, List.set_cons_zero, List.set_cons_succ]
    refine wpAnyH_ready (rs := [2, 6]) (by kernel_rfl) (by simp) ?_
    refine AllReadyH.cons (o := { dst := some 32, op := Op.call { callee := Callee.value (Operand.func 13), args := #[Operand.tmp 30, Operand.tmp 31], argTypes := #[23, 23] }, type := 26, pos := "more.go:16", after := #[{ on := 0, ground := Ground.data }, { on := 1, ground := Ground.data }, { on := 1, ground := Ground.chain }], guard := none }) rfl (fun K hK => ?_) (AllReadyH.cons (o := { dst := some 9, op := Op.alloc 23, type := 0, pos := "more.go:16", after := #[], guard := none }) rfl (fun K hK => ?_) AllReadyH.nil)
    · go_simp
      with_reducible refine (HM1.out _).mono ?_
      rintro e q30 ⟨rfl, hb⟩
      have hT2 : (fun W : World => Below wd28.heap.size wd28 W) q30 := hT1.trans (hb.mono hT1.size)
      try unfold pairV
      refine hK.out _ _ hT2 (fun _ => ?_)
      clear hK K hb
      refine wpAnyH_take (i := 3) (oi := { dst := some 29, op := Op.move (Operand.tmp 32), type := 26, pos := "more.go:16", after := #[{ on := 2, ground := Ground.data }], guard := none }) (v := ?_) rfl (by kernel_rfl) (by kernel_rfl) (by kernel_rfl) (fun _ _ _ h => h) (Or.inl ⟨by rfl, ?_⟩) (by assumption) ?_
      rotate_left
      · intro w hSw
        try dsimp only at hSw
        go_simp
        try with_reducible rfl
      try simp only [Act.put, List.setIfInBounds_toArray, List.set_cons_zero, List.set_cons_succ]
      refine wpAnyH_take (i := 4) (oi := { dst := some 33, op := Op.extract (Operand.tmp 29) 0, type := 23, pos := "more.go:16", after := #[{ on := 3, ground := Ground.data }], guard := none }) (v := ?_) rfl (by kernel_rfl) (by kernel_rfl) (by kernel_rfl) (fun _ _ _ h => h) (Or.inl ⟨by rfl, ?_⟩) (by assumption) ?_
      rotate_left
      · intro w hSw
        try dsimp only at hSw
        go_simp
        try with_reducible rfl
      try simp only [Act.put, List.setIfInBounds_toArray, List.set_cons_zero, List.set_cons_succ]
      refine wpAnyH_take (i := 5) (oi := { dst := some 34, op := Op.extract (Operand.tmp 29) 1, type := 25, pos := "more.go:16", after := #[{ on := 3, ground := Ground.data }, { on := 7, ground := Ground.gcOnly Departure.lateStores }], guard := none }) (v := ?_) rfl (by kernel_rfl) (by kernel_rfl) (by kernel_rfl) (fun _ _ _ h => h) (Or.inl ⟨by rfl, ?_⟩) (by assumption) ?_
      rotate_left
      · intro w hSw
        try dsimp only at hSw
        go_simp
        try with_reducible rfl
      try simp only [Act.put, List.setIfInBounds_toArray, List.set_cons_zero, List.set_cons_succ]
      refine wpAnyH_ready (rs := [6]) (by kernel_rfl) (by simp) ?_
      refine AllReadyH.cons (o := { dst := some 9, op := Op.alloc 23, type := 0, pos := "more.go:16", after := #[], guard := none }) rfl (fun K hK => ?_) AllReadyH.nil
      go_simp
      have hT3 : (fun W : World => Below wd28.heap.size wd28 W) (q30.alloc (.cells #[.bool false, .string ⟨#[]⟩, .int .i64 0] 23)) := hT2.alloc hT2.size _
      have HZ3 := Lib.hid (heap_alloc_new q30 (.cells #[.bool false, .string ⟨#[]⟩, .int .i64 0] 23))
      have HGe := Lib.hid hT2.size
      generalize q30.alloc (.cells #[.bool false, .string ⟨#[]⟩, .int .i64 0] 23) = q31 at hT3 HZ3 ⊢
      refine hK.out _ _ hT3 (fun _ => ?_)
      clear hK K
      try simp only [Act.put, List.setIfInBounds_toArray, List.set_cons_zero, List.set_cons_succ]
      refine wpAnyH_ready (rs := [7]) (by kernel_rfl) (by simp) ?_
      refine AllReadyH.cons (o := { dst := none, op := Op.store 23 (Operand.tmp 9) (Operand.tmp 33), type := 0, pos := "more.go:16", after := #[{ on := 6, ground := Ground.data }, { on := 4, ground := Ground.data }, { on := 2, ground := Ground.chain }, { on := 0, ground := Ground.phase }, { on := 1, ground := Ground.phase }, { on := 2, ground := Ground.phase }, { on := 3, ground := Ground.phase }, { on := 4, ground := Ground.phase }, { on := 5, ground := Ground.textOnly Departure.lateStores }, { on := 6, ground := Ground.phase }], guard := none }) rfl (fun K hK => ?_) AllReadyH.nil
      obtain ⟨_, f0, f1, f2⟩ := row3 HZ3.out
      have hS := set3 (v0 := (.bool false)) (v1 := (.string ⟨#[]⟩)) (v2 := (.int .i64 0)) HZ3.out HGe.out hT3
      have HS1 := Lib.hid hS.1
      have hT9 : (fun W : World => Below wd28.heap.size wd28 W) _ := hS.2
      clear hS
      go_simp
      refine hK.out _ _ hT9 (fun _ => ?_)
      clear hK K f0 f1 f2 HZ3
      refine wpAnyH_take (i := 8) (oi := { dst := some 10, op := Op.assign (Operand.tmp 34), type := 25, pos := "more.go:16", after := #[{ on := 5, ground := Ground.data }, { on := 7, ground := Ground.chain }, { on := 0, ground := Ground.phase }, { on := 1, ground := Ground.phase }, { on := 2, ground := Ground.phase }, { on := 3, ground := Ground.phase }, { on := 4, ground := Ground.phase }, { on := 5, ground := Ground.phase }, { on := 6, ground := Ground.phase }, { on := 7, ground := Ground.phase }], guard := none }) (v := ?_) rfl (by kernel_rfl) (by kernel_rfl) (by kernel_rfl) (fun _ _ _ h => h) (Or.inl ⟨by rfl, ?_⟩) (by assumption) ?_
      rotate_left
      · intro w hSw
        try dsimp only at hSw
        go_simp
        try with_reducible rfl
      refine wpAnyH_done (by kernel_rfl) ?_ _
      generalize ((q31.setCell ⟨q30.heap.size, 0, none⟩ (.bool false)).setCell ⟨q30.heap.size, 1, none⟩ (.string ⟨#[]⟩)).setCell ⟨q30.heap.size, 2, none⟩ (.int .i64 0) = q32 at hT9 HS1 ⊢
      have R33 := Lib.hid ((hT9.block _ (lt_of_block R24.out)).trans R24.out)
      have R34 := Lib.hid ((hT9.block _ (lt_of_block R25.out)).trans R25.out)
      have X35 := Lib.hid (TabB.below X26.out hT9)
      have B36 := Lib.hid (B27.out.trans (hT9.mono B27.out.size))
      clear hT9 hT0 hT1 hT2 hT3 R24 R25 X26 B27
      obtain ⟨⟨c37, c38, c39⟩, _⟩ := row3 R33.out
      go_wp2_with fail
      clear c37 c38 c39
      with_reducible refine (HM0.out _).mono ?_
      rintro e u40 ⟨rfl, hb⟩
      have R41 := Lib.hid ((hb.block _ (lt_of_block R33.out)).trans R33.out)
      have R42 := Lib.hid ((hb.block _ (lt_of_block R34.out)).trans R34.out)
      have R43 := Lib.hid ((hb.block _ (lt_of_block HS1.out)).trans HS1.out)
      have X44 := Lib.hid (TabB.below X35.out hb)
      have B45 := Lib.hid (B36.out.trans (hb.mono B36.out.size))
      clear hb R33 R34 HS1 X35 B36
      unfold pairV Nm.zero
      obtain ⟨u46, hwv, hr, hb⟩ := boxed3 u40 (.bool false) (.string ⟨#[]⟩) (.int .i64 0)
      have R47 := Lib.hid ((hb.block _ (lt_of_block R41.out)).trans R41.out)
      have R48 := Lib.hid ((hb.block _ (lt_of_block R42.out)).trans R42.out)
      have R49 := Lib.hid ((hb.block _ (lt_of_block R43.out)).trans R43.out)
      have X50 := Lib.hid (TabB.below X44.out hb)
      have B51 := Lib.hid (B45.out.trans (hb.mono B45.out.size))
      have R52 := Lib.hid hr
      have HYW := Lib.hid hwv
      clear hb hr hwv R41 R42 R43 X44 B45
      go_upto_region 8 with fail
      rw [← HYW.out]
      clear HYW
      obtain ⟨⟨c53, c54, c55⟩, _⟩ := row3 R47.out
      obtain ⟨u56, hwv, hr, hb⟩ := boxed3 u46 (.bool false) (.string ⟨#[]⟩) (.int .i64 0)
      have R57 := Lib.hid ((hb.block _ (lt_of_block R47.out)).trans R47.out)
      have R58 := Lib.hid ((hb.block _ (lt_of_block R48.out)).trans R48.out)
      have R59 := Lib.hid ((hb.block _ (lt_of_block R49.out)).trans R49.out)
      have R60 := Lib.hid ((hb.block _ (lt_of_block R52.out)).trans R52.out)
      have X61 := Lib.hid (TabB.below X50.out hb)
      have B62 := Lib.hid (B51.out.trans (hb.mono B51.out.size))
      have R63 := Lib.hid hr
      have HYW := Lib.hid hwv
      clear hb hr hwv R47 R48 R49 R52 X50 B51
      go_upto_region 9 with fail
      rw [← HYW.out]
      clear HYW
      clear c53 c54 c55
      obtain ⟨⟨c64, c65, c66⟩, _⟩ := row3 R57.out
      obtain ⟨⟨c67, c68, c69⟩, _⟩ := row3 R63.out
      go_wp2_with fail
      clear c64 c65 c66 c67 c68 c69
      with_reducible refine (HS2.out _).mono ?_
      rintro e u70 ⟨rfl, hb⟩
      have R71 := Lib.hid ((hb.block _ (lt_of_block R57.out)).trans R57.out)
      have R72 := Lib.hid ((hb.block _ (lt_of_block R58.out)).trans R58.out)
      have R73 := Lib.hid ((hb.block _ (lt_of_block R59.out)).trans R59.out)
      have R74 := Lib.hid ((hb.block _ (lt_of_block R60.out)).trans R60.out)
      have R75 := Lib.hid ((hb.block _ (lt_of_block R63.out)).trans R63.out)
      have X76 := Lib.hid (TabB.below X61.out hb)
      have B77 := Lib.hid (B62.out.trans (hb.mono B62.out.size))
      clear hb R57 R58 R59 R60 R63 X61 B62
      obtain ⟨⟨c78, c79, c80⟩, _⟩ := row3 R71.out
      obtain ⟨⟨c81, c82, c83⟩, _⟩ := row3 R72.out
      obtain ⟨⟨c84, c85, c86⟩, _⟩ := row3 R73.out
      obtain ⟨⟨c87, c88, c89⟩, _⟩ := row3 R74.out
      obtain ⟨⟨c90, c91, c92⟩, _⟩ := row3 R75.out
      go_wp2_with fail
      go_ret
      exact ⟨rfl, B77.out⟩
    · go_simp
      have hT2 : (fun W : World => Below wd28.heap.size wd28 W) (q29.alloc (.cells #[.bool false, .string ⟨#[]⟩, .int .i64 0] 23)) := hT1.alloc hT1.size _
      have HZ2 := Lib.hid (heap_alloc_new q29 (.cells #[.bool false, .string ⟨#[]⟩, .int .i64 0] 23))
      have HGe := Lib.hid hT1.size
      generalize q29.alloc (.cells #[.bool false, .string ⟨#[]⟩, .int .i64 0] 23) = q30 at hT2 HZ2 ⊢
      refine hK.out _ _ hT2 (fun _ => ?_)
      clear hK K
      try simp only [Act.put, List.setIfInBounds_toArray, List.set_cons_zero, List.set_cons_succ]
      refine wpAnyH_ready (rs := [2]) (by kernel_rfl) (by simp) ?_
      refine AllReadyH.cons (o := { dst := some 32, op := Op.call { callee := Callee.value (Operand.func 13), args := #[Operand.tmp 30, Operand.tmp 31], argTypes := #[23, 23] }, type := 26, pos := "more.go:16", after := #[{ on := 0, ground := Ground.data }, { on := 1, ground := Ground.data }, { on := 1, ground := Ground.chain }], guard := none }) rfl (fun K hK => ?_) AllReadyH.nil
      go_simp
      with_reducible refine (HM1.out _).mono ?_
      rintro e q31 ⟨rfl, hb⟩
      have hT3 : (fun W : World => Below wd28.heap.size wd28 W) q31 := hT2.trans (hb.mono hT2.size)
      have HZ3 := Lib.hid ((hb.block _ (lt_of_block HZ2.out)).trans HZ2.out)
      clear HZ2
      try unfold pairV
      refine hK.out _ _ hT3 (fun _ => ?_)
      clear hK K hb
      refine wpAnyH_take (i := 3) (oi := { dst := some 29, op := Op.move (Operand.tmp 32), type := 26, pos := "more.go:16", after := #[{ on := 2, ground := Ground.data }], guard := none }) (v := ?_) rfl (by kernel_rfl) (by kernel_rfl) (by kernel_rfl) (fun _ _ _ h => h) (Or.inl ⟨by rfl, ?_⟩) (by assumption) ?_
      rotate_left
      · intro w hSw
        try dsimp only at hSw
        go_simp
        try with_reducible rfl
      try simp only [Act.put, List.setIfInBounds_toArray, List.set_cons_zero, List.set_cons_succ]
      refine wpAnyH_take (i := 4) (oi := { dst := some 33, op := Op.extract (Operand.tmp 29) 0, type := 23, pos := "more.go:16", after := #[{ on := 3, ground := Ground.data }], guard := none }) (v := ?_) rfl (by kernel_rfl) (by kernel_rfl) (by kernel_rfl) (fun _ _ _ h => h) (Or.inl ⟨by rfl, ?_⟩) (by assumption) ?_
      rotate_left
      · intro w hSw
        try dsimp only at hSw
        go_simp
        try with_reducible rfl
      try simp only [Act.put, List.setIfInBounds_toArray, List.set_cons_zero, List.set_cons_succ]
      refine wpAnyH_take (i := 5) (oi := { dst := some 34, op := Op.extract (Operand.tmp 29) 1, type := 25, pos := "more.go:16", after := #[{ on := 3, ground := Ground.data }, { on := 7, ground := Ground.gcOnly Departure.lateStores }], guard := none }) (v := ?_) rfl (by kernel_rfl) (by kernel_rfl) (by kernel_rfl) (fun _ _ _ h => h) (Or.inl ⟨by rfl, ?_⟩) (by assumption) ?_
      rotate_left
      · intro w hSw
        try dsimp only at hSw
        go_simp
        try with_reducible rfl
      try simp only [Act.put, List.setIfInBounds_toArray, List.set_cons_zero, List.set_cons_succ]
      refine wpAnyH_ready (rs := [7]) (by kernel_rfl) (by simp) ?_
      refine AllReadyH.cons (o := { dst := none, op := Op.store 23 (Operand.tmp 9) (Operand.tmp 33), type := 0, pos := "more.go:16", after := #[{ on := 6, ground := Ground.data }, { on := 4, ground := Ground.data }, { on := 2, ground := Ground.chain }, { on := 0, ground := Ground.phase }, { on := 1, ground := Ground.phase }, { on := 2, ground := Ground.phase }, { on := 3, ground := Ground.phase }, { on := 4, ground := Ground.phase }, { on := 5, ground := Ground.textOnly Departure.lateStores }, { on := 6, ground := Ground.phase }], guard := none }) rfl (fun K hK => ?_) AllReadyH.nil
      obtain ⟨_, f0, f1, f2⟩ := row3 HZ3.out
      have hS := set3 (v0 := (.bool false)) (v1 := (.string ⟨#[]⟩)) (v2 := (.int .i64 0)) HZ3.out HGe.out hT3
      have HS1 := Lib.hid hS.1
      have hT9 : (fun W : World => Below wd28.heap.size wd28 W) _ := hS.2
      clear hS
      go_simp
      refine hK.out _ _ hT9 (fun _ => ?_)
      clear hK K f0 f1 f2 HZ3
      refine wpAnyH_take (i := 8) (oi := { dst := some 10, op := Op.assign (Operand.tmp 34), type := 25, pos := "more.go:16", after := #[{ on := 5, ground := Ground.data }, { on := 7, ground := Ground.chain }, { on := 0, ground := Ground.phase }, { on := 1, ground := Ground.phase }, { on := 2, ground := Ground.phase }, { on := 3, ground := Ground.phase }, { on := 4, ground := Ground.phase }, { on := 5, ground := Ground.phase }, { on := 6, ground := Ground.phase }, { on := 7, ground := Ground.phase }], guard := none }) (v := ?_) rfl (by kernel_rfl) (by kernel_rfl) (by kernel_rfl) (fun _ _ _ h => h) (Or.inl ⟨by rfl, ?_⟩) (by assumption) ?_
      rotate_left
      · intro w hSw
        try dsimp only at hSw
        go_simp
        try with_reducible rfl
      refine wpAnyH_done (by kernel_rfl) ?_ _
      generalize ((q31.setCell ⟨q29.heap.size, 0, none⟩ (.bool false)).setCell ⟨q29.heap.size, 1, none⟩ (.string ⟨#[]⟩)).setCell ⟨q29.heap.size, 2, none⟩ (.int .i64 0) = q32 at hT9 HS1 ⊢
      have R33 := Lib.hid ((hT9.block _ (lt_of_block R24.out)).trans R24.out)
      have R34 := Lib.hid ((hT9.block _ (lt_of_block R25.out)).trans R25.out)
      have X35 := Lib.hid (TabB.below X26.out hT9)
      have B36 := Lib.hid (B27.out.trans (hT9.mono B27.out.size))
      clear hT9 hT0 hT1 hT2 hT3 R24 R25 X26 B27
      obtain ⟨⟨c37, c38, c39⟩, _⟩ := row3 R33.out
      go_wp2_with fail
      clear c37 c38 c39
      with_reducible refine (HM0.out _).mono ?_
      rintro e u40 ⟨rfl, hb⟩
      have R41 := Lib.hid ((hb.block _ (lt_of_block R33.out)).trans R33.out)
      have R42 := Lib.hid ((hb.block _ (lt_of_block R34.out)).trans R34.out)
      have R43 := Lib.hid ((hb.block _ (lt_of_block HS1.out)).trans HS1.out)
      have X44 := Lib.hid (TabB.below X35.out hb)
      have B45 := Lib.hid (B36.out.trans (hb.mono B36.out.size))
      clear hb R33 R34 HS1 X35 B36
      unfold pairV Nm.zero
      obtain ⟨u46, hwv, hr, hb⟩ := boxed3 u40 (.bool false) (.string ⟨#[]⟩) (.int .i64 0)
      have R47 := Lib.hid ((hb.block _ (lt_of_block R41.out)).trans R41.out)
      have R48 := Lib.hid ((hb.block _ (lt_of_block R42.out)).trans R42.out)
      have R49 := Lib.hid ((hb.block _ (lt_of_block R43.out)).trans R43.out)
      have X50 := Lib.hid (TabB.below X44.out hb)
      have B51 := Lib.hid (B45.out.trans (hb.mono B45.out.size))
      have R52 := Lib.hid hr
      have HYW := Lib.hid hwv
      clear hb hr hwv R41 R42 R43 X44 B45
      go_upto_region 8 with fail
      rw [← HYW.out]
      clear HYW
      obtain ⟨⟨c53, c54, c55⟩, _⟩ := row3 R47.out
      obtain ⟨u56, hwv, hr, hb⟩ := boxed3 u46 (.bool false) (.string ⟨#[]⟩) (.int .i64 0)
      have R57 := Lib.hid ((hb.block _ (lt_of_block R47.out)).trans R47.out)
      have R58 := Lib.hid ((hb.block _ (lt_of_block R48.out)).trans R48.out)
      have R59 := Lib.hid ((hb.block _ (lt_of_block R49.out)).trans R49.out)
      have R60 := Lib.hid ((hb.block _ (lt_of_block R52.out)).trans R52.out)
      have X61 := Lib.hid (TabB.below X50.out hb)
      have B62 := Lib.hid (B51.out.trans (hb.mono B51.out.size))
      have R63 := Lib.hid hr
      have HYW := Lib.hid hwv
      clear hb hr hwv R47 R48 R49 R52 X50 B51
      go_upto_region 9 with fail
      rw [← HYW.out]
      clear HYW
      clear c53 c54 c55
      obtain ⟨⟨c64, c65, c66⟩, _⟩ := row3 R57.out
      obtain ⟨⟨c67, c68, c69⟩, _⟩ := row3 R63.out
      go_wp2_with fail
      clear c64 c65 c66 c67 c68 c69
      with_reducible refine (HS2.out _).mono ?_
      rintro e u70 ⟨rfl, hb⟩
      have R71 := Lib.hid ((hb.block _ (lt_of_block R57.out)).trans R57.out)
      have R72 := Lib.hid ((hb.block _ (lt_of_block R58.out)).trans R58.out)
      have R73 := Lib.hid ((hb.block _ (lt_of_block R59.out)).trans R59.out)
      have R74 := Lib.hid ((hb.block _ (lt_of_block R60.out)).trans R60.out)
      have R75 := Lib.hid ((hb.block _ (lt_of_block R63.out)).trans R63.out)
      have X76 := Lib.hid (TabB.below X61.out hb)
      have B77 := Lib.hid (B62.out.trans (hb.mono B62.out.size))
      clear hb R57 R58 R59 R60 R63 X61 B62
      obtain ⟨⟨c78, c79, c80⟩, _⟩ := row3 R71.out
      obtain ⟨⟨c81, c82, c83⟩, _⟩ := row3 R72.out
      obtain ⟨⟨c84, c85, c86⟩, _⟩ := row3 R73.out
      obtain ⟨⟨c87, c88, c89⟩, _⟩ := row3 R74.out
      obtain ⟨⟨c90, c91, c92⟩, _⟩ := row3 R75.out
      go_wp2_with fail
      go_ret
      exact ⟨rfl, B77.out⟩
  · go_simp
    have hT1 : (fun W : World => Below wd28.heap.size wd28 W) (wd28.alloc (.cells #[.bool false, .string ⟨#[]⟩, .int .i64 0] 23)) := hT0.alloc hT0.size _
    have HZ1 := Lib.hid (heap_alloc_new wd28 (.cells #[.bool false, .string ⟨#[]⟩, .int .i64 0] 23))
    have HGe := Lib.hid hT0.size
    generalize wd28.alloc (.cells #[.bool false, .string ⟨#[]⟩, .int .i64 0] 23) = q29 at hT1 HZ1 ⊢
    refine hK.out _ _ hT1 (fun _ => ?_)
    clear hK K
    try simp only [Act.put, List.setIfInBounds_toArray, List.set_cons_zero, List.set_cons_succ]
    refine wpAnyH_ready (rs := [1]) (by kernel_rfl) (by simp) ?_
    refine AllReadyH.cons (o := { dst := some 31, op := Op.call { callee := Callee.value (Operand.func 21), args := #[Operand.const (Value.int IntKind.i64 1)], argTypes := #[3] }, type := 23, pos := "more.go:16", after := #[], guard := none }) rfl (fun K hK => ?_) AllReadyH.nil
    go_simp
    with_reducible refine (HO.out _ (TabB.below X26.out hT1)).mono ?_
    rintro e q30 ⟨rfl, hb⟩
    have hT2 : (fun W : World => Below wd28.heap.size wd28 W) q30 := hT1.trans (hb.mono hT1.size)
    have HZ2 := Lib.hid ((hb.block _ (lt_of_block HZ1.out)).trans HZ1.out)
    clear HZ1
    try unfold pairV
    refine hK.out _ _ hT2 (fun _ => ?_)
    clear hK K hb
    try simp only [Act.put, List.setIfInBounds_toArray, List.set_cons_zero, List.set_cons_succ]
    refine wpAnyH_ready (rs := [2]) (by kernel_rfl) (by simp) ?_
    refine AllReadyH.cons (o := { dst := some 32, op := Op.call { callee := Callee.value (Operand.func 13), args := #[Operand.tmp 30, Operand.tmp 31], argTypes := #[23, 23] }, type := 26, pos := "more.go:16", after := #[{ on := 0, ground := Ground.data }, { on := 1, ground := Ground.data }, { on := 1, ground := Ground.chain }], guard := none }) rfl (fun K hK => ?_) AllReadyH.nil
    go_simp
    with_reducible refine (HM1.out _).mono ?_
    rintro e q31 ⟨rfl, hb⟩
    have hT3 : (fun W : World => Below wd28.heap.size wd28 W) q31 := hT2.trans (hb.mono hT2.size)
    have HZ3 := Lib.hid ((hb.block _ (lt_of_block HZ2.out)).trans HZ2.out)
    clear HZ2
    try unfold pairV
    refine hK.out _ _ hT3 (fun _ => ?_)
    clear hK K hb
    refine wpAnyH_take (i := 3) (oi := { dst := some 29, op := Op.move (Operand.tmp 32), type := 26, pos := "more.go:16", after := #[{ on := 2, ground := Ground.data }], guard := none }) (v := ?_) rfl (by kernel_rfl) (by kernel_rfl) (by kernel_rfl) (fun _ _ _ h => h) (Or.inl ⟨by rfl, ?_⟩) (by assumption) ?_
    rotate_left
    · intro w hSw
      try dsimp only at hSw
      go_simp
      try with_reducible rfl
    try simp only [Act.put, List.setIfInBounds_toArray, List.set_cons_zero, List.set_cons_succ]
    refine wpAnyH_take (i := 4) (oi := { dst := some 33, op := Op.extract (Operand.tmp 29) 0, type := 23, pos := "more.go:16", after := #[{ on := 3, ground := Ground.data }], guard := none }) (v := ?_) rfl (by kernel_rfl) (by kernel_rfl) (by kernel_rfl) (fun _ _ _ h => h) (Or.inl ⟨by rfl, ?_⟩) (by assumption) ?_
    rotate_left
    · intro w hSw
      try dsimp only at hSw
      go_simp
      try with_reducible rfl
    try simp only [Act.put, List.setIfInBounds_toArray, List.set_cons_zero, List.set_cons_succ]
    refine wpAnyH_take (i := 5) (oi := { dst := some 34, op := Op.extract (Operand.tmp 29) 1, type := 25, pos := "more.go:16", after := #[{ on := 3, ground := Ground.data }, { on := 7, ground := Ground.gcOnly Departure.lateStores }], guard := none }) (v := ?_) rfl (by kernel_rfl) (by kernel_rfl) (by kernel_rfl) (fun _ _ _ h => h) (Or.inl ⟨by rfl, ?_⟩) (by assumption) ?_
    rotate_left
    · intro w hSw
      try dsimp only at hSw
      go_simp
      try with_reducible rfl
    try simp only [Act.put, List.setIfInBounds_toArray, List.set_cons_zero, List.set_cons_succ]
    refine wpAnyH_ready (rs := [7]) (by kernel_rfl) (by simp) ?_
    refine AllReadyH.cons (o := { dst := none, op := Op.store 23 (Operand.tmp 9) (Operand.tmp 33), type := 0, pos := "more.go:16", after := #[{ on := 6, ground := Ground.data }, { on := 4, ground := Ground.data }, { on := 2, ground := Ground.chain }, { on := 0, ground := Ground.phase }, { on := 1, ground := Ground.phase }, { on := 2, ground := Ground.phase }, { on := 3, ground := Ground.phase }, { on := 4, ground := Ground.phase }, { on := 5, ground := Ground.textOnly Departure.lateStores }, { on := 6, ground := Ground.phase }], guard := none }) rfl (fun K hK => ?_) AllReadyH.nil
    obtain ⟨_, f0, f1, f2⟩ := row3 HZ3.out
    have hS := set3 (v0 := (.bool false)) (v1 := (.string ⟨#[]⟩)) (v2 := (.int .i64 0)) HZ3.out HGe.out hT3
    have HS1 := Lib.hid hS.1
    have hT9 : (fun W : World => Below wd28.heap.size wd28 W) _ := hS.2
    clear hS
    go_simp
    refine hK.out _ _ hT9 (fun _ => ?_)
    clear hK K f0 f1 f2 HZ3
    refine wpAnyH_take (i := 8) (oi := { dst := some 10, op := Op.assign (Operand.tmp 34), type := 25, pos := "more.go:16", after := #[{ on := 5, ground := Ground.data }, { on := 7, ground := Ground.chain }, { on := 0, ground := Ground.phase }, { on := 1, ground := Ground.phase }, { on := 2, ground := Ground.phase }, { on := 3, ground := Ground.phase }, { on := 4, ground := Ground.phase }, { on := 5, ground := Ground.phase }, { on := 6, ground := Ground.phase }, { on := 7, ground := Ground.phase }], guard := none }) (v := ?_) rfl (by kernel_rfl) (by kernel_rfl) (by kernel_rfl) (fun _ _ _ h => h) (Or.inl ⟨by rfl, ?_⟩) (by assumption) ?_
    rotate_left
    · intro w hSw
      try dsimp only at hSw
      go_simp
      try with_reducible rfl
    refine wpAnyH_done (by kernel_rfl) ?_ _
    generalize ((q31.setCell ⟨wd28.heap.size, 0, none⟩ (.bool false)).setCell ⟨wd28.heap.size, 1, none⟩ (.string ⟨#[]⟩)).setCell ⟨wd28.heap.size, 2, none⟩ (.int .i64 0) = q32 at hT9 HS1 ⊢
    have R33 := Lib.hid ((hT9.block _ (lt_of_block R24.out)).trans R24.out)
    have R34 := Lib.hid ((hT9.block _ (lt_of_block R25.out)).trans R25.out)
    have X35 := Lib.hid (TabB.below X26.out hT9)
    have B36 := Lib.hid (B27.out.trans (hT9.mono B27.out.size))
    clear hT9 hT0 hT1 hT2 hT3 R24 R25 X26 B27
    obtain ⟨⟨c37, c38, c39⟩, _⟩ := row3 R33.out
    go_wp2_with fail
    clear c37 c38 c39
    with_reducible refine (HM0.out _).mono ?_
    rintro e u40 ⟨rfl, hb⟩
    have R41 := Lib.hid ((hb.block _ (lt_of_block R33.out)).trans R33.out)
    have R42 := Lib.hid ((hb.block _ (lt_of_block R34.out)).trans R34.out)
    have R43 := Lib.hid ((hb.block _ (lt_of_block HS1.out)).trans HS1.out)
    have X44 := Lib.hid (TabB.below X35.out hb)
    have B45 := Lib.hid (B36.out.trans (hb.mono B36.out.size))
    clear hb R33 R34 HS1 X35 B36
    unfold pairV Nm.zero
    obtain ⟨u46, hwv, hr, hb⟩ := boxed3 u40 (.bool false) (.string ⟨#[]⟩) (.int .i64 0)
    have R47 := Lib.hid ((hb.block _ (lt_of_block R41.out)).trans R41.out)
    have R48 := Lib.hid ((hb.block _ (lt_of_block R42.out)).trans R42.out)
    have R49 := Lib.hid ((hb.block _ (lt_of_block R43.out)).trans R43.out)
    have X50 := Lib.hid (TabB.below X44.out hb)
    have B51 := Lib.hid (B45.out.trans (hb.mono B45.out.size))
    have R52 := Lib.hid hr
    have HYW := Lib.hid hwv
    clear hb hr hwv R41 R42 R43 X44 B45
    go_upto_region 8 with fail
    rw [← HYW.out]
    clear HYW
    obtain ⟨⟨c53, c54, c55⟩, _⟩ := row3 R47.out
    obtain ⟨u56, hwv, hr, hb⟩ := boxed3 u46 (.bool false) (.string ⟨#[]⟩) (.int .i64 0)
    have R57 := Lib.hid ((hb.block _ (lt_of_block R47.out)).trans R47.out)
    have R58 := Lib.hid ((hb.block _ (lt_of_block R48.out)).trans R48.out)
    have R59 := Lib.hid ((hb.block _ (lt_of_block R49.out)).trans R49.out)
    have R60 := Lib.hid ((hb.block _ (lt_of_block R52.out)).trans R52.out)
    have X61 := Lib.hid (TabB.below X50.out hb)
    have B62 := Lib.hid (B51.out.trans (hb.mono B51.out.size))
    have R63 := Lib.hid hr
    have HYW := Lib.hid hwv
    clear hb hr hwv R47 R48 R49 R52 X50 B51
    go_upto_region 9 with fail
    rw [← HYW.out]
    clear HYW
    clear c53 c54 c55
    obtain ⟨⟨c64, c65, c66⟩, _⟩ := row3 R57.out
    obtain ⟨⟨c67, c68, c69⟩, _⟩ := row3 R63.out
    go_wp2_with fail
    clear c64 c65 c66 c67 c68 c69
    with_reducible refine (HS2.out _).mono ?_
    rintro e u70 ⟨rfl, hb⟩
    have R71 := Lib.hid ((hb.block _ (lt_of_block R57.out)).trans R57.out)
    have R72 := Lib.hid ((hb.block _ (lt_of_block R58.out)).trans R58.out)
    have R73 := Lib.hid ((hb.block _ (lt_of_block R59.out)).trans R59.out)
    have R74 := Lib.hid ((hb.block _ (lt_of_block R60.out)).trans R60.out)
    have R75 := Lib.hid ((hb.block _ (lt_of_block R63.out)).trans R63.out)
    have X76 := Lib.hid (TabB.below X61.out hb)
    have B77 := Lib.hid (B62.out.trans (hb.mono B62.out.size))
    clear hb R57 R58 R59 R60 R63 X61 B62
    obtain ⟨⟨c78, c79, c80⟩, _⟩ := row3 R71.out
    obtain ⟨⟨c81, c82, c83⟩, _⟩ := row3 R72.out
    obtain ⟨⟨c84, c85, c86⟩, _⟩ := row3 R73.out
    obtain ⟨⟨c87, c88, c89⟩, _⟩ := row3 R74.out
    obtain ⟨⟨c90, c91, c92⟩, _⟩ := row3 R75.out
    go_wp2_with fail
    go_ret
    exact ⟨rfl, B77.out⟩
end Go.Proofs.YtpnhgggdjlglnaaDoor.dk
