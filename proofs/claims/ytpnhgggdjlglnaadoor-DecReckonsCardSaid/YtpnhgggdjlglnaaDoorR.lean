/- Print of a number that may be. -/
import Derived.Test.YtpnhgggdjlglnaaDoorQ
import Derived.Deep.DeepCutAuto
import Derived.Deep.CutBlock
namespace Go.Proofs.YtpnhgggdjlglnaaDoor.dk
open Go.PlainAid Go.ChangeShapes Go.WideShapes Go.ChangeAt Go.RowKit

theorem sizeT_le (dg : ByteArray) (h : Int) (b1 : -1000000 ≤ h) (b2 : h ≤ 1000000) : (sizeT dg h).size ≤ dg.size + 30 := by
  unfold sizeT
  split
  · rw [ByteArray.size_append, zers_size]
    omega
  split
  · rw [ByteArray.size_append, ByteArray.size_append, ByteArray.size_extract, ByteArray.size_extract]
    show _ + 1 + _ ≤ _
    omega
  split
  · rw [ByteArray.size_append, ByteArray.size_append, zers_size]
    show 2 + _ + _ ≤ _
    omega
  · unfold expT
    have h1 := headT_size dg
    have h2 := Lib.itoa_length_le (h - 1) (by omega) (by omega)
    have h3 : (⟨(Lib.itoa (h - 1)).toArray⟩ : ByteArray).size ≤ 21 := by
      show (List.toArray _).size ≤ 21
      rw [List.size_toArray]
      exact h2
    rw [ByteArray.size_append, ByteArray.size_append]
    split
    · show _ + 2 + _ ≤ _
      omega
    · show _ + 1 + _ ≤ _
      omega
abbrev TabB (w : World) : Prop := Lib.TabBelow Tryd.prog w.heap.size w "internal/strconv.uint64pow10" .u64 Lib.pow10Tab
theorem TabB.at {w w' : World} (h : TabB w) (hb : Below w.heap.size w w') : Tab w' := h w' hb
set_option maxRecDepth 100000 in
set_option maxHeartbeats 1000000 in
theorem Print_num (w : World) (neg : Bool) (dg : ByteArray) (ex : Int) (hs : dg.size ≤ 1000000) (hn : dsane neg (unstr dg) ex = true) (h0 : ¬ dg.size = 0) (b1 : -1000 ≤ (dg.size : Int) + ex) (b2 : (dg.size : Int) + ex ≤ 1000) (b3 : -1000000 ≤ ex) (b4 : ex ≤ 1000000) (ht : TabB w) :
    Calls Tryd.prog 18 #[.agg #[.bool neg, .string dg, .int .i64 ex]] w fun e w' => e = .returned (.string ((if neg then ⟨#[45]⟩ else ⟨#[]⟩) ++ sizeT dg ((dg.size : Int) + ex))) ∧ Below w.heap.size w w' := by
  have h1 : (w.alloc (.cells #[.bool neg, .string dg, .int .i64 ex] 23)).heap[w.heap.size]? = some (.cells #[.bool neg, .string dg, .int .i64 ex] 23 (0, 0)) := heap_alloc_new _ _
  have hb : Below w.heap.size w (w.alloc (.cells #[.bool neg, .string dg, .int .i64 ex] 23)) := (Below.refl _ _).alloc (Nat.le_refl _) _
  have H1 := Lib.hid h1
  have HB := Lib.hid hb
  have HTab := Lib.hid ht
  have HS := Lib.hid (fun (v : World) => Sane_any v neg dg ex (by omega))
  rw [hn] at HS
  have dz := ba_full h0
  have hle := sizeT_le dg ((dg.size : Int) + ex) (by omega) (by omega)
  have hc1 : ¬ 9223372036854775807 < 1 + (sizeT dg ((dg.size : Int) + ex)).size := by omega
  have hc2 : ¬ 9223372036854775807 < (sizeT dg ((dg.size : Int) + ex)).size := by omega
  clear h1 hn hb ht hle
  go_enter Tryd.func18, Tryd.ntmps18
  go_wp2_with fail
  with_reducible refine (HS.out _).mono ?_
  rintro e w2 ⟨rfl, hb2⟩
  have k1 := (hb2.block _ (lt_of_block H1.out)).trans H1.out
  obtain ⟨⟨x0, x1, x2⟩, _⟩ := row3 k1
  have HB2 := Lib.hid (HB.out.trans (hb2.mono HB.out.size))
  have HK1 := Lib.hid k1
  clear k1 hb2 HS HB H1
  cases neg with
  | true =>
    go_upto_region 8 with fail
    have hbd : Below w2.heap.size w2 w2.drew := (Below.refl _ _).drew
    have HBd := Lib.hid (HB2.out.trans (hbd.mono HB2.out.size))
    have HRd := Lib.hid ((hbd.block _ (lt_of_block HK1.out)).trans HK1.out)
    have hT : (fun W : World => Below w2.drew.heap.size w2.drew W) w2.drew := Below.refl _ _
    clear hbd HB2 HK1 x0 x1 x2
    refine wp_region_held_drew (S := (fun W : World => Below w2.drew.heap.size w2.drew W)) (by kernel_rfl) hT (fun hHeld => ?_)
    clear hHeld
    generalize w2.drew = wd at HBd HRd hT ⊢
    refine wpAnyH_take (i := 0) (oi := { dst := some 12, op := Op.move (Operand.tmp 3), type := 9, pos := "dec.go:138", after := #[], guard := none }) (v := ?_) rfl (by kernel_rfl) (by kernel_rfl) (by kernel_rfl) (fun _ _ _ h => h) (Or.inl ⟨by rfl, ?_⟩) (by assumption) ?_
    rotate_left
    · intro w hSw
      try dsimp only at hSw
      go_simp
      try with_reducible rfl
    try simp only [Act.put, List.setIfInBounds_toArray, List.set_cons_zero, List.set_cons_succ]
    refine wpAnyH_take (i := 1) (oi := { dst := some 13, op := Op.fieldAddr 23 (Operand.tmp 1) 1, type := 0, pos := "dec.go:138", after := #[], guard := none }) (v := ?_) rfl (by kernel_rfl) (by kernel_rfl) (by kernel_rfl) (fun _ _ _ h => h) (Or.inl ⟨by rfl, ?_⟩) (by assumption) ?_
    rotate_left
    · intro w hSw
      try dsimp only at hSw
      go_simp
      try with_reducible rfl
    try simp only [Act.put, List.setIfInBounds_toArray, List.set_cons_zero, List.set_cons_succ]
    refine wpAnyH_take (i := 2) (oi := { dst := some 14, op := Op.load 9 (Operand.tmp 13), type := 9, pos := "dec.go:138", after := #[{ on := 1, ground := Ground.data }], guard := none }) (v := ?_) rfl (by kernel_rfl) (by kernel_rfl) (by kernel_rfl) (fun _ _ _ h => h) (Or.inl ⟨by rfl, ?_⟩) (by assumption) ?_
    rotate_left
    · intro w hSw
      try dsimp only at hSw
      obtain ⟨⟨c0, c1, c2⟩, _⟩ := row3 ((hSw.block _ (lt_of_block HRd.out)).trans HRd.out)
      go_simp
      try with_reducible rfl
    try simp only [Act.put, List.setIfInBounds_toArray, List.set_cons_zero, List.set_cons_succ]
    refine wpAnyH_take (i := 3) (oi := { dst := some 15, op := Op.load 23 (Operand.tmp 1), type := 23, pos := "dec.go:138", after := #[], guard := none }) (v := ?_) rfl (by kernel_rfl) (by kernel_rfl) (by kernel_rfl) (fun _ _ _ h => h) (Or.inl ⟨by rfl, ?_⟩) (by assumption) ?_
    rotate_left
    · intro w hSw
      try dsimp only at hSw
      obtain ⟨⟨c0, c1, c2⟩, _⟩ := row3 ((hSw.block _ (lt_of_block HRd.out)).trans HRd.out)
      go_simp
      try with_reducible rfl
    try simp only [Act.put, List.setIfInBounds_toArray, List.set_cons_zero, List.set_cons_succ]
    refine wpAnyH_ready (rs := [4]) (by kernel_rfl) (by simp) ?_
    refine AllReadyH.cons (o := { dst := some 16, op := Op.call { callee := Callee.value (Operand.func 41), args := #[Operand.tmp 15], argTypes := #[23] }, type := 3, pos := "dec.go:138", after := #[{ on := 3, ground := Ground.data }], guard := none }) rfl (fun K hK => ?_) AllReadyH.nil
    go_simp
    with_reducible refine (height_any wd true dg ex (by omega) (by omega) (by omega)).mono ?_
    rintro e w4 ⟨rfl, hb4⟩
    have hT4 : (fun W : World => Below wd.heap.size wd W) w4 := hb4
    have HB4 := Lib.hid hb4
    refine hK.out _ _ hT4 (fun _ => ?_)
    clear hK K hT hb4
    try simp only [Act.put, List.setIfInBounds_toArray, List.set_cons_zero, List.set_cons_succ]
    refine wpAnyH_ready (rs := [5]) (by kernel_rfl) (by simp) ?_
    refine AllReadyH.cons (o := { dst := some 17, op := Op.call { callee := Callee.value (Operand.func 40), args := #[Operand.tmp 14, Operand.tmp 16], argTypes := #[9, 3] }, type := 9, pos := "dec.go:138", after := #[{ on := 2, ground := Ground.data }, { on := 4, ground := Ground.data }, { on := 4, ground := Ground.chain }], guard := none }) rfl (fun K hK => ?_) AllReadyH.nil
    go_simp
    with_reducible refine (size_any w4 dg ((dg.size : Int) + ex) hs (by omega) (by omega) (by omega) (TabB.at HTab.out (HBd.out.trans (HB4.out.mono HBd.out.size)))).mono ?_
    rintro e w5 ⟨rfl, hb5⟩
    have hT5 : (fun W : World => Below wd.heap.size wd W) w5 := HB4.out.trans (hb5.mono HB4.out.size)
    have HB5 := Lib.hid (HBd.out.trans (hT5.mono HBd.out.size))
    refine hK.out _ _ hT5 (fun _ => ?_)
    clear hK K hT4 hb5 HB4
    try simp only [Act.put, List.setIfInBounds_toArray, List.set_cons_zero, List.set_cons_succ]
    refine wpAnyH_take (i := 6) (oi := { dst := some 18, op := Op.binOp BinOp.add 9 (Operand.tmp 12) (Operand.tmp 17) 9, type := 9, pos := "dec.go:138", after := #[{ on := 0, ground := Ground.data }, { on := 5, ground := Ground.data }], guard := none }) (v := ?_) rfl (by kernel_rfl) (by kernel_rfl) (by kernel_rfl) (fun _ _ _ h => h) (Or.inl ⟨by rfl, ?_⟩) (by assumption) ?_
    rotate_left
    · intro w hSw
      try dsimp only at hSw
      go_simp
      try with_reducible rfl
    try simp only [Act.put, List.setIfInBounds_toArray, List.set_cons_zero, List.set_cons_succ]
    refine wpAnyH_take (i := 7) (oi := { dst := some 2, op := Op.assign (Operand.tmp 18), type := 9, pos := "dec.go:138", after := #[{ on := 6, ground := Ground.data }, { on := 5, ground := Ground.chain }, { on := 0, ground := Ground.phase }, { on := 1, ground := Ground.phase }, { on := 2, ground := Ground.phase }, { on := 3, ground := Ground.phase }, { on := 4, ground := Ground.phase }, { on := 5, ground := Ground.phase }, { on := 6, ground := Ground.phase }], guard := none }) (v := ?_) rfl (by kernel_rfl) (by kernel_rfl) (by kernel_rfl) (fun _ _ _ h => h) (Or.inl ⟨by rfl, ?_⟩) (by assumption) ?_
    rotate_left
    · intro w hSw
      try dsimp only at hSw
      go_simp
      try with_reducible rfl
    try simp only [Act.put, List.setIfInBounds_toArray, List.set_cons_zero, List.set_cons_succ]
    refine wpAnyH_done (by kernel_rfl) ?_ _
    go_wp2_with fail
    go_ret
    exact ⟨rfl, HB5.out⟩
  | false =>
    go_upto_region 8 with fail
    have hbd : Below w2.heap.size w2 w2.drew := (Below.refl _ _).drew
    have HBd := Lib.hid (HB2.out.trans (hbd.mono HB2.out.size))
    have HRd := Lib.hid ((hbd.block _ (lt_of_block HK1.out)).trans HK1.out)
    have hT : (fun W : World => Below w2.drew.heap.size w2.drew W) w2.drew := Below.refl _ _
    clear hbd HB2 HK1 x0 x1 x2
    refine wp_region_held_drew (S := (fun W : World => Below w2.drew.heap.size w2.drew W)) (by kernel_rfl) hT (fun hHeld => ?_)
    clear hHeld
    generalize w2.drew = wd at HBd HRd hT ⊢
    refine wpAnyH_take (i := 0) (oi := { dst := some 12, op := Op.move (Operand.tmp 3), type := 9, pos := "dec.go:138", after := #[], guard := none }) (v := ?_) rfl (by kernel_rfl) (by kernel_rfl) (by kernel_rfl) (fun _ _ _ h => h) (Or.inl ⟨by rfl, ?_⟩) (by assumption) ?_
    rotate_left
    · intro w hSw
      try dsimp only at hSw
      go_simp
      try with_reducible rfl
    try simp only [Act.put, List.setIfInBounds_toArray, List.set_cons_zero, List.set_cons_succ]
    refine wpAnyH_take (i := 1) (oi := { dst := some 13, op := Op.fieldAddr 23 (Operand.tmp 1) 1, type := 0, pos := "dec.go:138", after := #[], guard := none }) (v := ?_) rfl (by kernel_rfl) (by kernel_rfl) (by kernel_rfl) (fun _ _ _ h => h) (Or.inl ⟨by rfl, ?_⟩) (by assumption) ?_
    rotate_left
    · intro w hSw
      try dsimp only at hSw
      go_simp
      try with_reducible rfl
    try simp only [Act.put, List.setIfInBounds_toArray, List.set_cons_zero, List.set_cons_succ]
    refine wpAnyH_take (i := 2) (oi := { dst := some 14, op := Op.load 9 (Operand.tmp 13), type := 9, pos := "dec.go:138", after := #[{ on := 1, ground := Ground.data }], guard := none }) (v := ?_) rfl (by kernel_rfl) (by kernel_rfl) (by kernel_rfl) (fun _ _ _ h => h) (Or.inl ⟨by rfl, ?_⟩) (by assumption) ?_
    rotate_left
    · intro w hSw
      try dsimp only at hSw
      obtain ⟨⟨c0, c1, c2⟩, _⟩ := row3 ((hSw.block _ (lt_of_block HRd.out)).trans HRd.out)
      go_simp
      try with_reducible rfl
    try simp only [Act.put, List.setIfInBounds_toArray, List.set_cons_zero, List.set_cons_succ]
    refine wpAnyH_take (i := 3) (oi := { dst := some 15, op := Op.load 23 (Operand.tmp 1), type := 23, pos := "dec.go:138", after := #[], guard := none }) (v := ?_) rfl (by kernel_rfl) (by kernel_rfl) (by kernel_rfl) (fun _ _ _ h => h) (Or.inl ⟨by rfl, ?_⟩) (by assumption) ?_
    rotate_left
    · intro w hSw
      try dsimp only at hSw
      obtain ⟨⟨c0, c1, c2⟩, _⟩ := row3 ((hSw.block _ (lt_of_block HRd.out)).trans HRd.out)
      go_simp
      try with_reducible rfl
    try simp only [Act.put, List.setIfInBounds_toArray, List.set_cons_zero, List.set_cons_succ]
    refine wpAnyH_ready (rs := [4]) (by kernel_rfl) (by simp) ?_
    refine AllReadyH.cons (o := { dst := some 16, op := Op.call { callee := Callee.value (Operand.func 41), args := #[Operand.tmp 15], argTypes := #[23] }, type := 3, pos := "dec.go:138", after := #[{ on := 3, ground := Ground.data }], guard := none }) rfl (fun K hK => ?_) AllReadyH.nil
    go_simp
    with_reducible refine (height_any wd false dg ex (by omega) (by omega) (by omega)).mono ?_
    rintro e w4 ⟨rfl, hb4⟩
    have hT4 : (fun W : World => Below wd.heap.size wd W) w4 := hb4
    have HB4 := Lib.hid hb4
    refine hK.out _ _ hT4 (fun _ => ?_)
    clear hK K hT hb4
    try simp only [Act.put, List.setIfInBounds_toArray, List.set_cons_zero, List.set_cons_succ]
    refine wpAnyH_ready (rs := [5]) (by kernel_rfl) (by simp) ?_
    refine AllReadyH.cons (o := { dst := some 17, op := Op.call { callee := Callee.value (Operand.func 40), args := #[Operand.tmp 14, Operand.tmp 16], argTypes := #[9, 3] }, type := 9, pos := "dec.go:138", after := #[{ on := 2, ground := Ground.data }, { on := 4, ground := Ground.data }, { on := 4, ground := Ground.chain }], guard := none }) rfl (fun K hK => ?_) AllReadyH.nil
    go_simp
    with_reducible refine (size_any w4 dg ((dg.size : Int) + ex) hs (by omega) (by omega) (by omega) (TabB.at HTab.out (HBd.out.trans (HB4.out.mono HBd.out.size)))).mono ?_
    rintro e w5 ⟨rfl, hb5⟩
    have hT5 : (fun W : World => Below wd.heap.size wd W) w5 := HB4.out.trans (hb5.mono HB4.out.size)
    have HB5 := Lib.hid (HBd.out.trans (hT5.mono HBd.out.size))
    refine hK.out _ _ hT5 (fun _ => ?_)
    clear hK K hT4 hb5 HB4
    try simp only [Act.put, List.setIfInBounds_toArray, List.set_cons_zero, List.set_cons_succ]
    refine wpAnyH_take (i := 6) (oi := { dst := some 18, op := Op.binOp BinOp.add 9 (Operand.tmp 12) (Operand.tmp 17) 9, type := 9, pos := "dec.go:138", after := #[{ on := 0, ground := Ground.data }, { on := 5, ground := Ground.data }], guard := none }) (v := ?_) rfl (by kernel_rfl) (by kernel_rfl) (by kernel_rfl) (fun _ _ _ h => h) (Or.inl ⟨by rfl, ?_⟩) (by assumption) ?_
    rotate_left
    · intro w hSw
      try dsimp only at hSw
      go_simp
      try with_reducible rfl
    try simp only [Act.put, List.setIfInBounds_toArray, List.set_cons_zero, List.set_cons_succ]
    refine wpAnyH_take (i := 7) (oi := { dst := some 2, op := Op.assign (Operand.tmp 18), type := 9, pos := "dec.go:138", after := #[{ on := 6, ground := Ground.data }, { on := 5, ground := Ground.chain }, { on := 0, ground := Ground.phase }, { on := 1, ground := Ground.phase }, { on := 2, ground := Ground.phase }, { on := 3, ground := Ground.phase }, { on := 4, ground := Ground.phase }, { on := 5, ground := Ground.phase }, { on := 6, ground := Ground.phase }], guard := none }) (v := ?_) rfl (by kernel_rfl) (by kernel_rfl) (by kernel_rfl) (fun _ _ _ h => h) (Or.inl ⟨by rfl, ?_⟩) (by assumption) ?_
    rotate_left
    · intro w hSw
      try dsimp only at hSw
      go_simp
      try with_reducible rfl
    try simp only [Act.put, List.setIfInBounds_toArray, List.set_cons_zero, List.set_cons_succ]
    refine wpAnyH_done (by kernel_rfl) ?_ _
    go_wp2_with fail
    go_ret
    exact ⟨rfl, HB5.out⟩
end Go.Proofs.YtpnhgggdjlglnaaDoor.dk
