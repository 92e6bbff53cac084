/- KeysCode: the walk. -/
import Derived.Test.YtebhbcbcnjdgjaaDoorMc
namespace Go.Proofs.YtebhbcbcnjdgjaaDoor.dk
open Go.PlainAid Go.ChangeShapes Go.WideShapes Go.ChangeAt Go.RowKit

theorem wpAnyH_turn {P : Program} {ops : Array Oper} {Q : Exit → Act → World → Prop} {md : Region.Mode} {S T : World → Prop} (hST : ∀ w, T w → S w) :
    ∀ (fuel : Nat) (listed : Array Bool) (a : Act) (w : World), wpAnyH P md ops Q T fuel listed a w → wpAnyH P md ops Q S fuel listed a w
  | 0, _, _, _, h => h
  | fuel + 1, _, _, _, h => ⟨h.1, fun i hi => wpOp_mono (fun a' w' h' => ⟨hST _ h'.1, wpAnyH_turn hST fuel _ a' w' h'.2⟩) (h.2 i hi)⟩
set_option maxHeartbeats 4000000 in
set_option maxRecDepth 100000 in
theorem code_in (w : World) (p q : Option Addr) (n c m d : Nat) (la : List Pt) (b : List Int) (mx : Int) (k : Int) (vb neg : Bool) (dg : ByteArray) (ex : Int) (s : ByteArray) (x6 x7 : Value) (ha : RdP w p n la) (hb : Rd w q m b) (hy : Bys b) (hmd : m ≤ d) (hmx : w.cell? ⟨0, 0, none⟩ = some (.int .i64 mx)) (hfa : fewP la = true) (hm : m ≤ 1000) :
    Calls Tryd.prog 3 #[.slice p n c, .slice q m d, .agg #[.int .i64 k, .bool vb, .bool neg, .string dg, .int .i64 ex, .string s, x6, x7]] w fun e w' => e = .returned (.bool true) ∧ Below w.heap.size w w' := by
  have h0 : 0 < w.heap.size := World.block_lt_of_cell? _ _ hmx
  have fsa := few_small hfa
  have hna : n ≤ 40 := by have := fsa.1; rw [ha.1] at this; exact this
  have dm : decide ((1000 : Int) < (m : Int)) = false := decide_eq_false (by omega)
  have dmn : decide (1000 < m) = false := decide_eq_false (by omega)
  have hbv : Below w.heap.size w (w.alloc (.cells #[.int .i64 k, .bool vb, .bool neg, .string dg, .int .i64 ex, .string s, x6, x7] 29)) := (Below.refl _ _).alloc (Nat.le_refl _) _
  have hvv := heap_alloc_new w (.cells #[.int .i64 k, .bool vb, .bool neg, .string dg, .int .i64 ex, .string s, x6, x7] 29)
  have hsv := box_size w (.cells #[.int .i64 k, .bool vb, .bool neg, .string dg, .int .i64 ex, .string s, x6, x7] 29)
  obtain ⟨wv, hwv⟩ : ∃ wv, wv = w.alloc (.cells #[.int .i64 k, .bool vb, .bool neg, .string dg, .int .i64 ex, .string s, x6, x7] 29) := ⟨_, rfl⟩
  rw [← hwv] at hbv hvv hsv
  have hlen := ha.1
  have HRa := Lib.hid ha
  have HRb := Lib.hid hb
  have HM := Lib.hid hmx
  have H0 := Lib.hid h0
  have HFa := Lib.hid (And.intro hfa fsa)
  have HMd := Lib.hid hmd
  have HM1 := Lib.hid hm
  have HNa := Lib.hid hna
  have HY := Lib.hid hy
  have HBv := Lib.hid hbv
  have HVv := Lib.hid (And.intro hvv hsv)
  have HWv := Lib.hid hwv
  have HLen := Lib.hid hlen
  have HA := Lib.hid (awake_any wv)
  clear ha hb hmx h0 hna fsa hfa hmd hm hy hbv hvv hsv hwv hlen
  go_enter Tryd.func3, Tryd.ntmps3
  go_wp2_with fail
  rw [← HWv.out]
  with_reducible refine HA.out.mono ?_
  clear HA
  rintro e w0 ⟨rfl, hb0⟩
  have HB0 := Lib.hid (HBv.out.trans (hb0.mono HBv.out.size))
  have HV0 := Lib.hid ((hb0.block w.heap.size (by have := HVv.out.2; omega)).trans HVv.out.1)
  clear hb0
  go_wp2_with fail
  with_reducible refine (Few_any w0 n c p la (HRa.out.below HB0.out (Nat.le_refl _))).mono ?_
  rintro e w1 ⟨rfl, rfl⟩
  rw [HFa.out.1]
  go_wp2_with fail
  with_reducible refine (ours_any w1 n c p la (HRa.out.below HB0.out (Nat.le_refl _)) HNa.out).mono ?_
  rintro e w3 ⟨p3, c3, rfl, hr3, hb3⟩
  have HB3 := Lib.hid (HB0.out.trans (hb3.mono HB0.out.size))
  have HV3 := Lib.hid ((hb3.block _ (Array.getElem?_eq_some_iff.1 HV0.out).1).trans HV0.out)
  have HR3 := Lib.hid hr3
  have HE3 := Lib.hid ((Encode_any w3 n c3 p3 la mx HR3.out HFa.out.2.2 (Nat.lt_of_lt_of_le H0.out HB3.out.size) (by rw [cell_kept HB3.out H0.out]; exact HM.out)).mono fun e w' h => eb_of HLen.out h)
  clear hb3 hr3 HB0 HV0
  go_wp2_with fail
  with_reducible refine HE3.out.mono ?_
  clear HE3
  rintro e w4 ⟨hb4, p4, c4, rfl, hr4⟩
  have HB4 := Lib.hid (HB3.out.trans (hb4.mono HB3.out.size))
  have HV4 := Lib.hid ((hb4.block _ (Array.getElem?_eq_some_iff.1 HV3.out).1).trans HV3.out)
  have HX4 := Lib.hid hr4
  have HE4 := Lib.hid ((Encode_ref w4 n c p la (HRa.out.below HB4.out (Nat.le_refl _)) HFa.out.2.2).mono fun e w' h => eb_of HLen.out h)
  clear hb4 hr4 HB3 HR3 HV3
  generalize encR la = ER at HX4 HE4 ⊢
  obtain ⟨EL, ee⟩ := ER
  dsimp only at HX4 HE4 ⊢
  go_wp2_with fail
  with_reducible refine HE4.out.mono ?_
  clear HE4
  rintro e w5 ⟨hb5, p5, c5, rfl, hr5⟩
  have HB5 := Lib.hid (HB4.out.trans (hb5.mono HB4.out.size))
  have HV5 := Lib.hid ((hb5.block _ (Array.getElem?_eq_some_iff.1 HV4.out).1).trans HV4.out)
  have HX5 := Lib.hid (HX4.out.below hb5)
  have HY5 := Lib.hid hr5
  have hm1000 := HM1.out
  have HD5 := Lib.hid ((Decode_any w5 q m d b (HRb.out.below HB5.out) HY.out HMd.out (by omega)).mono fun e w' h => db2_ours h)
  clear hb5 hr5 HB4 HX4 HV4
  go_wp2_with fail
  with_reducible refine HD5.out.mono ?_
  clear HD5
  rintro e w6 ⟨hb6, qs, p6, c6, ec, hd6, rfl, hr6⟩
  have HB6 := Lib.hid (HB5.out.trans (hb6.mono HB5.out.size))
  have HV6 := Lib.hid ((hb6.block _ (Array.getElem?_eq_some_iff.1 HV5.out).1).trans HV5.out)
  have HX6 := Lib.hid (HX5.out.below hb6)
  have HY6 := Lib.hid (HY5.out.below hb6)
  have HQ6 := Lib.hid hr6
  have HDR := Lib.hid hd6
  have HD6 := Lib.hid ((Decode_ref w6 q m d b (HRb.out.below HB6.out) HY.out HMd.out (by omega)).mono fun e w' h => db2_ref h)
  clear hb6 hr6 HB5 HX5 HY5 HV5 hd6
  go_wp2_with fail
  with_reducible refine HD6.out.mono ?_
  clear HD6
  rintro e w7 ⟨hb7, qs', p7, c7, ec', hd7, rfl, hr7⟩
  obtain ⟨rfl, rfl⟩ := dec_one HDR.out hd7
  have HB7 := Lib.hid (HB6.out.trans (hb7.mono HB6.out.size))
  have HV7 := Lib.hid ((hb7.block _ (Array.getElem?_eq_some_iff.1 HV6.out).1).trans HV6.out)
  have HX7 := Lib.hid (HX6.out.below hb7)
  have HY7 := Lib.hid (HY6.out.below hb7)
  have HQ7 := Lib.hid (HQ6.out.below hb7 (Nat.le_refl _))
  have HQR7 := Lib.hid hr7
  have hq16 := decRel_len HDR.out
  have HQn := Lib.hid hq16
  have hrow7 := HV7.out
  have r0 := cell_of_row _ _ 0 _ _ _ hrow7
  have r1 := cell_of_row _ _ 1 _ _ _ hrow7
  have r2 := cell_of_row _ _ 2 _ _ _ hrow7
  have r3 := cell_of_row _ _ 3 _ _ _ hrow7
  have r4 := cell_of_row _ _ 4 _ _ _ hrow7
  have r5 := cell_of_row _ _ 5 _ _ _ hrow7
  have r6 := cell_of_row _ _ 6 _ _ _ hrow7
  have r7 := cell_of_row _ _ 7 _ _ _ hrow7
  simp at r0 r1 r2 r3 r4 r5 r6 r7
  have HS7 := Lib.hid (Scalar_ours w7 k vb neg dg ex s x6 x7)
  clear hb7 hr7 HB6 HX6 HY6 HQ6 HV6 hd7 hq16 hrow7 HDR
  generalize hln : qs.length = ln at HQ7 HQR7 HQn ⊢
  have HLn := Lib.hid hln
  clear hln
  go_wp2_with fail
  with_reducible refine HS7.out.mono ?_
  clear HS7
  rintro e w8 ⟨rfl, hb8⟩
  have HSR := Lib.hid (fun (v : World) => Scalar_ref v k vb neg dg ex s x6 x7)
  generalize scal k vb neg dg ex s = sc at HSR ⊢
  obtain ⟨⟨k9, xb, ng, dg9, ex9, s9, i9⟩, ok⟩ := sc
  dsimp only [parr] at HSR ⊢
  have hrow8 := (hb8.block _ (Array.getElem?_eq_some_iff.1 HV7.out).1).trans HV7.out
  have HB8 := Lib.hid (HB7.out.trans (hb8.mono HB7.out.size))
  have HX8 := Lib.hid (HX7.out.below hb8)
  have HY8 := Lib.hid (HY7.out.below hb8)
  have HQ8 := Lib.hid (HQ7.out.below hb8 (Nat.le_refl _))
  have HQR8 := Lib.hid (HQR7.out.below hb8 (Nat.le_refl _))
  clear hb8 HB7 HX7 HY7 HQ7 HQR7 r0 r1 r2 r3 r4 r5 r6 r7
  obtain ⟨w9, hw9⟩ : ∃ w9, w9 = w8.alloc (.cells #[.int .i64 k9, .bool xb, .bool ng, .string dg9, .int .i64 ex9, .string s9, .int .i64 i9] 43) := ⟨_, rfl⟩
  have hb9 : Below w8.heap.size w8 w9 := by rw [hw9]; exact (Below.refl _ _).alloc (Nat.le_refl _) _
  have hn9 : w9.heap[w8.heap.size]? = some (.cells #[.int .i64 k9, .bool xb, .bool ng, .string dg9, .int .i64 ex9, .string s9, .int .i64 i9] 43 (0, 0)) := by rw [hw9]; exact heap_alloc_new _ _
  have hs9 : w9.heap.size = w8.heap.size + 1 := by rw [hw9, box_size]
  have hrow9 := (hb9.block _ (Array.getElem?_eq_some_iff.1 hrow8).1).trans hrow8
  have r0 := cell_of_row _ _ 0 _ _ _ hrow9
  have r1 := cell_of_row _ _ 1 _ _ _ hrow9
  have r2 := cell_of_row _ _ 2 _ _ _ hrow9
  have r3 := cell_of_row _ _ 3 _ _ _ hrow9
  have r4 := cell_of_row _ _ 4 _ _ _ hrow9
  have r5 := cell_of_row _ _ 5 _ _ _ hrow9
  have r6 := cell_of_row _ _ 6 _ _ _ hrow9
  have r7 := cell_of_row _ _ 7 _ _ _ hrow9
  simp at r0 r1 r2 r3 r4 r5 r6 r7
  have HB9 := Lib.hid (HB8.out.trans (hb9.mono HB8.out.size))
  have HX9 := Lib.hid (HX8.out.below hb9)
  have HY9 := Lib.hid (HY8.out.below hb9)
  have HQ9 := Lib.hid (HQ8.out.below hb9 (Nat.le_refl _))
  have HQR9 := Lib.hid (HQR8.out.below hb9 (Nat.le_refl _))
  have HN9 := Lib.hid (And.intro hn9 hs9)
  have HW9 := Lib.hid hw9
  rw [hw9] at r0 r1 r2 r3 r4 r5 r6 r7
  have HS9 := Lib.hid (HSR.out w9)
  clear hb9 hn9 hs9 hrow8 hrow9 HB8 HX8 HY8 HQ8 HQR8 HSR hw9
  go_wp2_with fail
  rw [← HW9.out]
  with_reducible refine HS9.out.mono ?_
  clear HS9 r0 r1 r2 r3 r4 r5 r6 r7 HW9
  rintro e wA ⟨rfl, hbA⟩
  dsimp only
  have hA43 := (hbA.block w8.heap.size (by have := HN9.out.2; omega)).trans HN9.out.1
  have HBA := Lib.hid (HB9.out.trans (hbA.mono HB9.out.size))
  have HXA := Lib.hid (HX9.out.below hbA)
  have HYA := Lib.hid (HY9.out.below hbA)
  have HQA := Lib.hid (HQ9.out.below hbA (Nat.le_refl _))
  have HQRA := Lib.hid (HQR9.out.below hbA (Nat.le_refl _))
  obtain ⟨wB, hwB⟩ : ∃ wB, wB = wA.alloc (.cells #[.int .i64 k9, .bool xb, .bool ng, .string dg9, .int .i64 ex9, .string s9, .int .i64 i9] 46) := ⟨_, rfl⟩
  have hbB : Below wA.heap.size wA wB := by rw [hwB]; exact (Below.refl _ _).alloc (Nat.le_refl _) _
  have hnB : wB.heap[wA.heap.size]? = some (.cells #[.int .i64 k9, .bool xb, .bool ng, .string dg9, .int .i64 ex9, .string s9, .int .i64 i9] 46 (0, 0)) := by rw [hwB]; exact heap_alloc_new _ _
  have hA43B := (hbB.block _ (Array.getElem?_eq_some_iff.1 hA43).1).trans hA43
  have HFB := Lib.hid (HBA.out.trans (hbB.mono HBA.out.size))
  have HXB := Lib.hid (HXA.out.below hbB)
  have HYB := Lib.hid (HYA.out.below hbB)
  have HQB := Lib.hid (HQA.out.below hbB (Nat.le_refl _))
  have HQRB := Lib.hid (HQRA.out.below hbB (Nat.le_refl _))
  have HP1 := Lib.hid hA43B
  have HP2 := Lib.hid hnB
  have HWB := Lib.hid hwB
  generalize hAo : w8.heap.size = Ao at HP1
  generalize hAr : wA.heap.size = Ar at HP2
  clear hA43 hbA hbB hnB hA43B hwB HB9 HX9 HY9 HQ9 HQR9 HN9 HXA HYA HQA HQRA HVv HBv HWv HLen HBA
  go_upto_region 10 with fail
  clear hAo hAr
  rw [← HWB.out]
  clear HWB
  have hbd : Below wB.heap.size wB wB.drew := (Below.refl _ _).drew
  have HFd := Lib.hid (HFB.out.trans (hbd.mono HFB.out.size))
  have HXd := Lib.hid (HXB.out.below hbd)
  have HYd := Lib.hid (HYB.out.below hbd)
  have HQd := Lib.hid (HQB.out.below hbd (Nat.le_refl _))
  have HQRd := Lib.hid (HQRB.out.below hbd (Nat.le_refl _))
  have HP1d : Hid (wB.drew.heap[Ao]? = _) := Lib.hid HP1.out
  have HP2d : Hid (wB.drew.heap[Ar]? = _) := Lib.hid HP2.out
  have hT : (fun W : World => Below wB.drew.heap.size wB.drew W) wB.drew := Below.refl _ _
  clear hbd HFB HXB HYB HQB HQRB HP1 HP2
  refine wp_region_held_drew (S := (fun W : World => Below wB.drew.heap.size wB.drew W)) (by kernel_rfl) hT (fun hHeld => ?_)
  clear hHeld
  generalize wB.drew = wd at HFd HXd HYd HQd HQRd HP1d HP2d hT ⊢
  have V3 : ∀ W, Below wd.heap.size wd W → (convert 23 9 (.slice p4 EL.length c4)).run Tryd.prog W = .ok (.string (strOf EL)) W := fun W h => conv_rd (HXd.out.below h)
  have V5 : ∀ W, Below wd.heap.size wd W → (convert 23 9 (.slice p5 EL.length c5)).run Tryd.prog W = .ok (.string (strOf EL)) W := fun W h => conv_rd (HYd.out.below h)
  generalize strOf EL = sx at V3 V5
  generalize EL.length = nx at V3 V5 ⊢
  have HV3 := Lib.hid V3
  have HV5 := Lib.hid V5
  clear V3 V5
  refine wpAnyH_take (i := 0) (oi := { dst := some 61, op := Op.move (Operand.tmp 7), type := 4, pos := "law.go:47", after := #[], guard := none }) (v := ?_) rfl (by kernel_rfl) (by kernel_rfl) (by kernel_rfl) (fun _ _ _ h => h) (Or.inl ⟨by rfl, ?_⟩) (by assumption) ?_
  rotate_left
  · intro w hSw
    try dsimp only at hSw
    go_simp
    try with_reducible rfl
  try simp only [Act.put, List.setIfInBounds_toArray, List.set_cons_zero, List.set_cons_succ]
  refine wpAnyH_take (i := 1) (oi := { dst := some 62, op := Op.move (Operand.tmp 61), type := 4, pos := "law.go:47", after := #[{ on := 0, ground := Ground.data }], guard := none }) (v := ?_) rfl (by kernel_rfl) (by kernel_rfl) (by kernel_rfl) (fun _ _ _ h => h) (Or.inl ⟨by rfl, ?_⟩) (by assumption) ?_
  rotate_left
  · intro w hSw
    try dsimp only at hSw
    go_simp
    try with_reducible rfl
  try simp only [Act.put, List.setIfInBounds_toArray, List.set_cons_zero, List.set_cons_succ]
  refine wpAnyH_take (i := 2) (oi := { dst := some 63, op := Op.move (Operand.tmp 8), type := 23, pos := "law.go:47", after := #[{ on := 1, ground := Ground.guard }], guard := some (1, true) }) (v := ?_) rfl (by kernel_rfl) (by kernel_rfl) (by kernel_rfl) (fun _ _ _ h => h) (Or.inl ⟨by rfl, ?_⟩) (by assumption) ?_
  rotate_left
  · intro w hSw
    try dsimp only at hSw
    go_simp
    try with_reducible rfl
  try simp only [Act.put, List.setIfInBounds_toArray, List.set_cons_zero, List.set_cons_succ]
  refine wpAnyH_take (i := 3) (oi := { dst := some 64, op := Op.convert 23 9 (Operand.tmp 63), type := 9, pos := "law.go:47", after := #[{ on := 2, ground := Ground.data }, { on := 1, ground := Ground.guard }], guard := some (1, true) }) (v := ?_) rfl (by kernel_rfl) (by kernel_rfl) (by kernel_rfl) (fun _ _ _ h => h) (Or.inl ⟨by rfl, ?_⟩) (by assumption) ?_
  rotate_left
  · intro w hSw
    try dsimp only at hSw
    have V := HV3.out w hSw
    go_simp
    try with_reducible rfl
  try simp only [Act.put, List.setIfInBounds_toArray, List.set_cons_zero, List.set_cons_succ]
  refine wpAnyH_take (i := 4) (oi := { dst := some 65, op := Op.move (Operand.tmp 10), type := 23, pos := "law.go:47", after := #[{ on := 1, ground := Ground.guard }], guard := some (1, true) }) (v := ?_) rfl (by kernel_rfl) (by kernel_rfl) (by kernel_rfl) (fun _ _ _ h => h) (Or.inl ⟨by rfl, ?_⟩) (by assumption) ?_
  rotate_left
  · intro w hSw
    try dsimp only at hSw
    go_simp
    try with_reducible rfl
  try simp only [Act.put, List.setIfInBounds_toArray, List.set_cons_zero, List.set_cons_succ]
  refine wpAnyH_take (i := 5) (oi := { dst := some 66, op := Op.convert 23 9 (Operand.tmp 65), type := 9, pos := "law.go:47", after := #[{ on := 4, ground := Ground.data }, { on := 1, ground := Ground.guard }], guard := some (1, true) }) (v := ?_) rfl (by kernel_rfl) (by kernel_rfl) (by kernel_rfl) (fun _ _ _ h => h) (Or.inl ⟨by rfl, ?_⟩) (by assumption) ?_
  rotate_left
  · intro w hSw
    try dsimp only at hSw
    have V := HV5.out w hSw
    go_simp
    try with_reducible rfl
  try simp only [Act.put, List.setIfInBounds_toArray, List.set_cons_zero, List.set_cons_succ]
  refine wpAnyH_take (i := 6) (oi := { dst := some 67, op := Op.binOp BinOp.eql 9 (Operand.tmp 64) (Operand.tmp 66) 9, type := 4, pos := "law.go:47", after := #[{ on := 3, ground := Ground.data }, { on := 5, ground := Ground.data }, { on := 1, ground := Ground.guard }], guard := some (1, true) }) (v := ?_) rfl (by kernel_rfl) (by kernel_rfl) (by kernel_rfl) (fun _ _ _ h => h) (Or.inl ⟨by rfl, ?_⟩) (by assumption) ?_
  rotate_left
  · intro w hSw
    try dsimp only at hSw
    go_simp
    try with_reducible rfl
  try simp only [Act.put, List.setIfInBounds_toArray, List.set_cons_zero, List.set_cons_succ]
  refine wpAnyH_take (i := 7) (oi := { dst := some 68, op := Op.pick (Operand.tmp 62) (Operand.tmp 67) (Operand.const (Value.bool false)), type := 4, pos := "law.go:47", after := #[{ on := 1, ground := Ground.data }, { on := 6, ground := Ground.data }], guard := none }) (v := ?_) rfl (by kernel_rfl) (by kernel_rfl) (by kernel_rfl) (fun _ _ _ h => h) (Or.inl ⟨by rfl, ?_⟩) (by assumption) ?_
  rotate_left
  · intro w hSw
    try dsimp only at hSw
    go_simp
    try with_reducible rfl
  try simp only [Act.put, List.setIfInBounds_toArray, List.set_cons_zero, List.set_cons_succ]
  refine wpAnyH_take (i := 8) (oi := { dst := some 69, op := Op.move (Operand.tmp 68), type := 4, pos := "law.go:47", after := #[{ on := 7, ground := Ground.data }, { on := 1, ground := Ground.chain }], guard := none }) (v := ?_) rfl (by kernel_rfl) (by kernel_rfl) (by kernel_rfl) (fun _ _ _ h => h) (Or.inl ⟨by rfl, ?_⟩) (by assumption) ?_
  rotate_left
  · intro w hSw
    try dsimp only at hSw
    go_simp
    try with_reducible rfl
  try simp only [Act.put, List.setIfInBounds_toArray, List.set_cons_zero, List.set_cons_succ]
  refine wpAnyH_take (i := 9) (oi := { dst := some 70, op := Op.move (Operand.tmp 9), type := 32, pos := "law.go:47", after := #[{ on := 8, ground := Ground.guard }], guard := some (8, true) }) (v := ?_) rfl (by kernel_rfl) (by kernel_rfl) (by kernel_rfl) (fun _ _ _ h => h) (Or.inl ⟨by rfl, ?_⟩) (by assumption) ?_
  rotate_left
  · intro w hSw
    try dsimp only at hSw
    go_simp
    try with_reducible rfl
  try simp only [Act.put, List.setIfInBounds_toArray, List.set_cons_zero, List.set_cons_succ]
  refine wpAnyH_take (i := 10) (oi := { dst := some 71, op := Op.move (Operand.tmp 11), type := 32, pos := "law.go:47", after := #[{ on := 8, ground := Ground.guard }], guard := some (8, true) }) (v := ?_) rfl (by kernel_rfl) (by kernel_rfl) (by kernel_rfl) (fun _ _ _ h => h) (Or.inl ⟨by rfl, ?_⟩) (by assumption) ?_
  rotate_left
  · intro w hSw
    try dsimp only at hSw
    go_simp
    try with_reducible rfl
  try simp only [Act.put, List.setIfInBounds_toArray, List.set_cons_zero, List.set_cons_succ]
  refine wpAnyH_take (i := 11) (oi := { dst := some 72, op := Op.binOp BinOp.eql 32 (Operand.tmp 70) (Operand.tmp 71) 32, type := 4, pos := "law.go:47", after := #[{ on := 9, ground := Ground.data }, { on := 10, ground := Ground.data }, { on := 8, ground := Ground.guard }], guard := some (8, true) }) (v := ?_) rfl (by kernel_rfl) (by kernel_rfl) (by kernel_rfl) (fun _ _ _ h => h) (Or.inl ⟨by rfl, ?_⟩) (by assumption) ?_
  rotate_left
  · intro w hSw
    try dsimp only at hSw
    go_simp
    try with_reducible rfl
  try simp only [Act.put, List.setIfInBounds_toArray, List.set_cons_zero, List.set_cons_succ]
  refine wpAnyH_take (i := 12) (oi := { dst := some 73, op := Op.pick (Operand.tmp 69) (Operand.tmp 72) (Operand.const (Value.bool false)), type := 4, pos := "law.go:47", after := #[{ on := 8, ground := Ground.data }, { on := 11, ground := Ground.data }], guard := none }) (v := ?_) rfl (by kernel_rfl) (by kernel_rfl) (by kernel_rfl) (fun _ _ _ h => h) (Or.inl ⟨by rfl, ?_⟩) (by assumption) ?_
  rotate_left
  · intro w hSw
    try dsimp only at hSw
    go_simp
    try with_reducible rfl
  try simp only [Act.put, List.setIfInBounds_toArray, List.set_cons_zero, List.set_cons_succ]
  refine wpAnyH_take (i := 13) (oi := { dst := some 74, op := Op.move (Operand.tmp 73), type := 4, pos := "law.go:47", after := #[{ on := 12, ground := Ground.data }, { on := 8, ground := Ground.chain }], guard := none }) (v := ?_) rfl (by kernel_rfl) (by kernel_rfl) (by kernel_rfl) (fun _ _ _ h => h) (Or.inl ⟨by rfl, ?_⟩) (by assumption) ?_
  rotate_left
  · intro w hSw
    try dsimp only at hSw
    go_simp
    try with_reducible rfl
  try simp only [Act.put, List.setIfInBounds_toArray, List.set_cons_zero, List.set_cons_succ]
  refine wpAnyH_take (i := 14) (oi := { dst := some 75, op := Op.move (Operand.tmp 12), type := 35, pos := "law.go:47", after := #[{ on := 13, ground := Ground.guard }], guard := some (13, true) }) (v := ?_) rfl (by kernel_rfl) (by kernel_rfl) (by kernel_rfl) (fun _ _ _ h => h) (Or.inl ⟨by rfl, ?_⟩) (by assumption) ?_
  rotate_left
  · intro w hSw
    try dsimp only at hSw
    go_simp
    try with_reducible rfl
  try simp only [Act.put, List.setIfInBounds_toArray, List.set_cons_zero, List.set_cons_succ]
  refine wpAnyH_take (i := 16) (oi := { dst := some 77, op := Op.move (Operand.tmp 14), type := 22, pos := "law.go:47", after := #[{ on := 13, ground := Ground.guard }], guard := some (13, true) }) (v := ?_) rfl (by kernel_rfl) (by kernel_rfl) (by kernel_rfl) (fun _ _ _ h => h) (Or.inl ⟨by rfl, ?_⟩) (by assumption) ?_
  rotate_left
  · intro w hSw
    try dsimp only at hSw
    go_simp
    try with_reducible rfl
  try simp only [Act.put, List.setIfInBounds_toArray, List.set_cons_zero, List.set_cons_succ]
  clear HV3 HV5
  refine wpAnyH_ready (rs := [15]) (by kernel_rfl) (by simp) ?_
  refine AllReadyH.cons (o := { dst := some 76, op := Op.call { callee := Callee.value (Operand.func 18), args := #[Operand.tmp 75], argTypes := #[35] }, type := 22, pos := "law.go:47", after := #[{ on := 14, ground := Ground.data }, { on := 13, ground := Ground.chain }, { on := 13, ground := Ground.guard }], guard := some (13, true) }) rfl (fun K hK => ?_) AllReadyH.nil
  go_simp
  with_reducible refine (theirs_any wd ln c6 p6 qs HQd.out (Nat.le_trans HQn.out (by decide))).mono ?_
  rintro e w15 ⟨p15, c15, rfl, hr15, hb15⟩
  have hT15 : (fun W : World => Below wd.heap.size wd W) w15 := hb15
  have HR15 := Lib.hid hr15
  have HB15 := Lib.hid hb15
  refine hK.out _ _ hT15 (fun _ => ?_)
  clear hK K hr15 hb15 hT
  refine wpAnyH_ready (rs := [17]) (by kernel_rfl) (by simp) ?_
  refine AllReadyH.cons (o := { dst := some 78, op := Op.call { callee := Callee.value (Operand.func 17), args := #[Operand.tmp 76, Operand.tmp 77], argTypes := #[22, 22] }, type := 4, pos := "law.go:47", after := #[{ on := 15, ground := Ground.data }, { on := 16, ground := Ground.data }, { on := 15, ground := Ground.chain }, { on := 13, ground := Ground.guard }], guard := some (13, true) }) rfl (fun K hK => ?_) AllReadyH.nil
  go_simp
  with_reducible refine (Same_any w15 ln c15 ln c7 p15 p7 qs qs HR15.out (HQRd.out.below HB15.out (Nat.le_refl _)) rfl (Nat.le_trans HQn.out (by decide)) true ⟨fun _ => rfl, fun _ => rfl⟩).mono ?_
  rintro e w17 ⟨rfl, z17, hz17⟩
  have hb17 : Below wd.heap.size wd w17 := by rw [hz17]; exact below_drewN HB15.out z17
  clear hz17
  have hT17 : (fun W : World => Below wd.heap.size wd W) w17 := hb17
  have HB17 := Lib.hid hb17
  refine hK.out _ _ hT17 (fun _ => ?_)
  clear hK K hb17 hT15 HR15 HB15
  refine wpAnyH_take (i := 18) (oi := { dst := some 79, op := Op.pick (Operand.tmp 74) (Operand.tmp 78) (Operand.const (Value.bool false)), type := 4, pos := "law.go:47", after := #[{ on := 13, ground := Ground.data }, { on := 17, ground := Ground.data }], guard := none }) (v := ?_) rfl (by kernel_rfl) (by kernel_rfl) (by kernel_rfl) (fun _ _ _ h => h) (Or.inl ⟨by rfl, ?_⟩) (by assumption) ?_
  rotate_left
  · intro w hSw
    try dsimp only at hSw
    go_simp
    try with_reducible rfl
  try simp only [Act.put, List.setIfInBounds_toArray, List.set_cons_zero, List.set_cons_succ]
  refine wpAnyH_take (i := 19) (oi := { dst := some 80, op := Op.move (Operand.tmp 79), type := 4, pos := "law.go:47", after := #[{ on := 18, ground := Ground.data }, { on := 17, ground := Ground.chain }], guard := none }) (v := ?_) rfl (by kernel_rfl) (by kernel_rfl) (by kernel_rfl) (fun _ _ _ h => h) (Or.inl ⟨by rfl, ?_⟩) (by assumption) ?_
  rotate_left
  · intro w hSw
    try dsimp only at hSw
    go_simp
    try with_reducible rfl
  try simp only [Act.put, List.setIfInBounds_toArray, List.set_cons_zero, List.set_cons_succ]
  refine wpAnyH_take (i := 20) (oi := { dst := some 81, op := Op.move (Operand.tmp 13), type := 32, pos := "law.go:47", after := #[{ on := 19, ground := Ground.guard }], guard := some (19, true) }) (v := ?_) rfl (by kernel_rfl) (by kernel_rfl) (by kernel_rfl) (fun _ _ _ h => h) (Or.inl ⟨by rfl, ?_⟩) (by assumption) ?_
  rotate_left
  · intro w hSw
    try dsimp only at hSw
    go_simp
    try with_reducible rfl
  try simp only [Act.put, List.setIfInBounds_toArray, List.set_cons_zero, List.set_cons_succ]
  refine wpAnyH_take (i := 21) (oi := { dst := some 82, op := Op.move (Operand.tmp 15), type := 32, pos := "law.go:47", after := #[{ on := 19, ground := Ground.guard }], guard := some (19, true) }) (v := ?_) rfl (by kernel_rfl) (by kernel_rfl) (by kernel_rfl) (fun _ _ _ h => h) (Or.inl ⟨by rfl, ?_⟩) (by assumption) ?_
  rotate_left
  · intro w hSw
    try dsimp only at hSw
    go_simp
    try with_reducible rfl
  try simp only [Act.put, List.setIfInBounds_toArray, List.set_cons_zero, List.set_cons_succ]
  refine wpAnyH_take (i := 22) (oi := { dst := some 83, op := Op.binOp BinOp.eql 32 (Operand.tmp 81) (Operand.tmp 82) 32, type := 4, pos := "law.go:47", after := #[{ on := 20, ground := Ground.data }, { on := 21, ground := Ground.data }, { on := 19, ground := Ground.guard }], guard := some (19, true) }) (v := ?_) rfl (by kernel_rfl) (by kernel_rfl) (by kernel_rfl) (fun _ _ _ h => h) (Or.inl ⟨by rfl, ?_⟩) (by assumption) ?_
  rotate_left
  · intro w hSw
    try dsimp only at hSw
    go_simp
    try with_reducible rfl
  try simp only [Act.put, List.setIfInBounds_toArray, List.set_cons_zero, List.set_cons_succ]
  refine wpAnyH_take (i := 23) (oi := { dst := some 84, op := Op.pick (Operand.tmp 80) (Operand.tmp 83) (Operand.const (Value.bool false)), type := 4, pos := "law.go:47", after := #[{ on := 19, ground := Ground.data }, { on := 22, ground := Ground.data }], guard := none }) (v := ?_) rfl (by kernel_rfl) (by kernel_rfl) (by kernel_rfl) (fun _ _ _ h => h) (Or.inl ⟨by rfl, ?_⟩) (by assumption) ?_
  rotate_left
  · intro w hSw
    try dsimp only at hSw
    go_simp
    try with_reducible rfl
  try simp only [Act.put, List.setIfInBounds_toArray, List.set_cons_zero, List.set_cons_succ]
  refine wpAnyH_take (i := 24) (oi := { dst := some 85, op := Op.move (Operand.tmp 84), type := 4, pos := "law.go:47", after := #[{ on := 23, ground := Ground.data }, { on := 19, ground := Ground.chain }], guard := none }) (v := ?_) rfl (by kernel_rfl) (by kernel_rfl) (by kernel_rfl) (fun _ _ _ h => h) (Or.inl ⟨by rfl, ?_⟩) (by assumption) ?_
  rotate_left
  · intro w hSw
    try dsimp only at hSw
    go_simp
    try with_reducible rfl
  try simp only [Act.put, List.setIfInBounds_toArray, List.set_cons_zero, List.set_cons_succ]
  refine wpAnyH_take (i := 25) (oi := { dst := some 86, op := Op.move (Operand.tmp 1), type := 23, pos := "law.go:47", after := #[{ on := 24, ground := Ground.guard }], guard := some (24, true) }) (v := ?_) rfl (by kernel_rfl) (by kernel_rfl) (by kernel_rfl) (fun _ _ _ h => h) (Or.inl ⟨by rfl, ?_⟩) (by assumption) ?_
  rotate_left
  · intro w hSw
    try dsimp only at hSw
    go_simp
    try with_reducible rfl
  try simp only [Act.put, List.setIfInBounds_toArray, List.set_cons_zero, List.set_cons_succ]
  refine wpAnyH_take (i := 28) (oi := { dst := some 89, op := Op.move (Operand.tmp 1), type := 23, pos := "law.go:47", after := #[{ on := 24, ground := Ground.guard }], guard := some (24, true) }) (v := ?_) rfl (by kernel_rfl) (by kernel_rfl) (by kernel_rfl) (fun _ _ _ h => h) (Or.inl ⟨by rfl, ?_⟩) (by assumption) ?_
  rotate_left
  · intro w hSw
    try dsimp only at hSw
    go_simp
    try with_reducible rfl
  try simp only [Act.put, List.setIfInBounds_toArray, List.set_cons_zero, List.set_cons_succ]
  refine wpAnyH_ready (rs := [26]) (by kernel_rfl) (by simp) ?_
  refine AllReadyH.cons (o := { dst := some 87, op := Op.call { callee := Callee.value (Operand.func 19), args := #[Operand.tmp 86], argTypes := #[23] }, type := 23, pos := "law.go:47", after := #[{ on := 25, ground := Ground.data }, { on := 24, ground := Ground.chain }, { on := 24, ground := Ground.guard }], guard := some (24, true) }) rfl (fun K hK => ?_) AllReadyH.nil
  go_simp
  have HFw := Lib.hid (HFd.out.trans (HB17.out.mono HFd.out.size))
  with_reducible refine (After_ours w17 q m d b (HRb.out.below HFw.out) HY.out HMd.out (Nat.le_trans HM1.out (by decide))).mono ?_
  rintro e w26 ⟨hb26, p26, c26, rfl, hr26⟩
  have HB26 := Lib.hid (HB17.out.trans (hb26.mono HB17.out.size))
  have HF26 := Lib.hid (HFw.out.trans (hb26.mono HFw.out.size))
  have hT26 : (fun W : World => Below wd.heap.size wd W) w26 := HB26.out
  have HR26 := Lib.hid hr26
  refine hK.out _ _ hT26 (fun _ => ?_)
  clear hK K hT17 hb26 hr26 HFw HB17 hT26
  refine wpAnyH_turn (T := (fun W : World => Below w26.heap.size w26 W)) (fun W h => HB26.out.trans (Below.mono h HB26.out.size)) _ _ _ _ ?_
  have hT27 : (fun W : World => Below w26.heap.size w26 W) w26 := Below.refl _ _
  have V27 : ∀ W, Below w26.heap.size w26 W → (convert 23 9 (.slice p26 (aft b).length c26)).run Tryd.prog W = .ok (.string (strOf (aft b))) W := fun W h => conv_rd (HR26.out.below h)
  have HV27 := Lib.hid V27
  clear V27
  refine wpAnyH_take (i := 27) (oi := { dst := some 88, op := Op.convert 23 9 (Operand.tmp 87), type := 9, pos := "law.go:47", after := #[{ on := 26, ground := Ground.data }, { on := 24, ground := Ground.guard }], guard := some (24, true) }) (v := ?_) rfl (by kernel_rfl) (by kernel_rfl) (by kernel_rfl) (fun _ _ _ h => h) (Or.inl ⟨by rfl, ?_⟩) (by assumption) ?_
  rotate_left
  · intro w hSw
    try dsimp only at hSw
    have V := HV27.out w hSw
    go_simp
    try with_reducible rfl
  try simp only [Act.put, List.setIfInBounds_toArray, List.set_cons_zero, List.set_cons_succ]
  refine wpAnyH_ready (rs := [29]) (by kernel_rfl) (by simp) ?_
  refine AllReadyH.cons (o := { dst := some 90, op := Op.call { callee := Callee.value (Operand.func 20), args := #[Operand.tmp 89], argTypes := #[23] }, type := 23, pos := "law.go:47", after := #[{ on := 28, ground := Ground.data }, { on := 26, ground := Ground.chain }, { on := 24, ground := Ground.guard }], guard := some (24, true) }) rfl (fun K hK => ?_) AllReadyH.nil
  go_simp
  with_reducible refine (After_ref w26 q m d b (HRb.out.below HF26.out) HY.out HMd.out (Nat.le_trans HM1.out (by decide))).mono ?_
  rintro e w29 ⟨hb29, p29, c29, rfl, hr29⟩
  have HB29 := Lib.hid (HB26.out.trans (hb29.mono HB26.out.size))
  have HF29 := Lib.hid (HF26.out.trans (hb29.mono HF26.out.size))
  have HC29 := Lib.hid hb29
  have hT29 : (fun W : World => Below w26.heap.size w26 W) w29 := hb29
  have HR29 := Lib.hid hr29
  refine hK.out _ _ hT29 (fun _ => ?_)
  clear hK K hT27 hb29 hr29 hT29
  refine wpAnyH_turn (T := (fun W : World => Below w29.heap.size w29 W)) (fun W h => HC29.out.trans (Below.mono h HC29.out.size)) _ _ _ _ ?_
  have hT30 : (fun W : World => Below w29.heap.size w29 W) w29 := Below.refl _ _
  have V30 : ∀ W, Below w29.heap.size w29 W → (convert 23 9 (.slice p29 (aft b).length c29)).run Tryd.prog W = .ok (.string (strOf (aft b))) W := fun W h => conv_rd (HR29.out.below h)
  have HV30 := Lib.hid V30
  have hp1 : ∀ W, Below w29.heap.size w29 W → W.heap[Ao]? = some (.cells #[.int .i64 k9, .bool xb, .bool ng, .string dg9, .int .i64 ex9, .string s9, .int .i64 i9] 43 (0, 0)) := fun W h => by
    have hlt := (Array.getElem?_eq_some_iff.1 HP1d.out).1
    exact ((h.block Ao (Nat.lt_of_lt_of_le hlt HB29.out.size)).trans (HB29.out.block Ao hlt)).trans HP1d.out
  have hp2 : ∀ W, Below w29.heap.size w29 W → W.heap[Ar]? = some (.cells #[.int .i64 k9, .bool xb, .bool ng, .string dg9, .int .i64 ex9, .string s9, .int .i64 i9] 46 (0, 0)) := fun W h => by
    have hlt := (Array.getElem?_eq_some_iff.1 HP2d.out).1
    exact ((h.block Ar (Nat.lt_of_lt_of_le hlt HB29.out.size)).trans (HB29.out.block Ar hlt)).trans HP2d.out
  have HPA := Lib.hid hp1
  have HPB := Lib.hid hp2
  clear V30 hp1 hp2 HV27 HP1d HP2d HB26 HF26 HR26 HC29 HR29
  refine wpAnyH_take (i := 30) (oi := { dst := some 91, op := Op.convert 23 9 (Operand.tmp 90), type := 9, pos := "law.go:47", after := #[{ on := 29, ground := Ground.data }, { on := 24, ground := Ground.guard }], guard := some (24, true) }) (v := ?_) rfl (by kernel_rfl) (by kernel_rfl) (by kernel_rfl) (fun _ _ _ h => h) (Or.inl ⟨by rfl, ?_⟩) (by assumption) ?_
  rotate_left
  · intro w hSw
    try dsimp only at hSw
    have V := HV30.out w hSw
    go_simp
    try with_reducible rfl
  try simp only [Act.put, List.setIfInBounds_toArray, List.set_cons_zero, List.set_cons_succ]
  refine wpAnyH_take (i := 31) (oi := { dst := some 92, op := Op.binOp BinOp.eql 9 (Operand.tmp 88) (Operand.tmp 91) 9, type := 4, pos := "law.go:47", after := #[{ on := 27, ground := Ground.data }, { on := 30, ground := Ground.data }, { on := 24, ground := Ground.guard }], guard := some (24, true) }) (v := ?_) rfl (by kernel_rfl) (by kernel_rfl) (by kernel_rfl) (fun _ _ _ h => h) (Or.inl ⟨by rfl, ?_⟩) (by assumption) ?_
  rotate_left
  · intro w hSw
    try dsimp only at hSw
    go_simp
    try with_reducible rfl
  try simp only [Act.put, List.setIfInBounds_toArray, List.set_cons_zero, List.set_cons_succ]
  refine wpAnyH_take (i := 32) (oi := { dst := some 93, op := Op.pick (Operand.tmp 85) (Operand.tmp 92) (Operand.const (Value.bool false)), type := 4, pos := "law.go:47", after := #[{ on := 24, ground := Ground.data }, { on := 31, ground := Ground.data }], guard := none }) (v := ?_) rfl (by kernel_rfl) (by kernel_rfl) (by kernel_rfl) (fun _ _ _ h => h) (Or.inl ⟨by rfl, ?_⟩) (by assumption) ?_
  rotate_left
  · intro w hSw
    try dsimp only at hSw
    go_simp
    try with_reducible rfl
  try simp only [Act.put, List.setIfInBounds_toArray, List.set_cons_zero, List.set_cons_succ]
  refine wpAnyH_take (i := 33) (oi := { dst := some 94, op := Op.move (Operand.tmp 93), type := 4, pos := "law.go:47", after := #[{ on := 32, ground := Ground.data }, { on := 29, ground := Ground.chain }], guard := none }) (v := ?_) rfl (by kernel_rfl) (by kernel_rfl) (by kernel_rfl) (fun _ _ _ h => h) (Or.inl ⟨by rfl, ?_⟩) (by assumption) ?_
  rotate_left
  · intro w hSw
    try dsimp only at hSw
    go_simp
    try with_reducible rfl
  try simp only [Act.put, List.setIfInBounds_toArray, List.set_cons_zero, List.set_cons_succ]
  refine wpAnyH_take (i := 34) (oi := { dst := some 95, op := Op.load 43 (Operand.tmp 16), type := 43, pos := "law.go:47", after := #[{ on := 33, ground := Ground.guard }], guard := some (33, true) }) (v := ?_) rfl (by kernel_rfl) (by kernel_rfl) (by kernel_rfl) (fun _ _ _ h => h) (Or.inl ⟨by rfl, ?_⟩) (by assumption) ?_
  rotate_left
  · intro w hSw
    try dsimp only at hSw
    have hrw := HPA.out w hSw
    have q0 := cell_of_row _ _ 0 _ _ _ hrw
    have q1 := cell_of_row _ _ 1 _ _ _ hrw
    have q2 := cell_of_row _ _ 2 _ _ _ hrw
    have q3 := cell_of_row _ _ 3 _ _ _ hrw
    have q4 := cell_of_row _ _ 4 _ _ _ hrw
    have q5 := cell_of_row _ _ 5 _ _ _ hrw
    have q6 := cell_of_row _ _ 6 _ _ _ hrw
    clear hrw
    simp at q0 q1 q2 q3 q4 q5 q6
    go_simp
    try with_reducible rfl
  try simp only [Act.put, List.setIfInBounds_toArray, List.set_cons_zero, List.set_cons_succ]
  refine wpAnyH_take (i := 37) (oi := { dst := some 98, op := Op.load 46 (Operand.tmp 18), type := 46, pos := "law.go:47", after := #[{ on := 33, ground := Ground.guard }], guard := some (33, true) }) (v := ?_) rfl (by kernel_rfl) (by kernel_rfl) (by kernel_rfl) (fun _ _ _ h => h) (Or.inl ⟨by rfl, ?_⟩) (by assumption) ?_
  rotate_left
  · intro w hSw
    try dsimp only at hSw
    have hrw := HPB.out w hSw
    have q0 := cell_of_row _ _ 0 _ _ _ hrw
    have q1 := cell_of_row _ _ 1 _ _ _ hrw
    have q2 := cell_of_row _ _ 2 _ _ _ hrw
    have q3 := cell_of_row _ _ 3 _ _ _ hrw
    have q4 := cell_of_row _ _ 4 _ _ _ hrw
    have q5 := cell_of_row _ _ 5 _ _ _ hrw
    have q6 := cell_of_row _ _ 6 _ _ _ hrw
    clear hrw
    simp at q0 q1 q2 q3 q4 q5 q6
    go_simp
    try with_reducible rfl
  try simp only [Act.put, List.setIfInBounds_toArray, List.set_cons_zero, List.set_cons_succ]
  clear HPA HPB HV30
  refine wpAnyH_ready (rs := [35, 38]) (by kernel_rfl) (by simp) ?_
  refine AllReadyH.cons (o := { dst := some 96, op := Op.buildSlice 35 1 #[(0, Operand.tmp 95)], type := 35, pos := "law.go:47", after := #[{ on := 34, ground := Ground.data }, { on := 33, ground := Ground.guard }], guard := some (33, true) }) rfl (fun K hK => ?_) (AllReadyH.cons (o := { dst := some 99, op := Op.buildSlice 22 1 #[(0, Operand.tmp 98)], type := 22, pos := "law.go:47", after := #[{ on := 37, ground := Ground.data }, { on := 33, ground := Ground.guard }], guard := some (33, true) }) rfl (fun K hK => ?_) AllReadyH.nil)
  · go_simp
    have hb1 : Below w29.heap.size w29 (w29.alloc (.cells #[.int .i64 k9, .bool xb, .bool ng, .string dg9, .int .i64 ex9, .string s9, .int .i64 i9] 43)) := (Below.refl _ _).alloc (Nat.le_refl _) _
    have hr1 : RdP (w29.alloc (.cells #[.int .i64 k9, .bool xb, .bool ng, .string dg9, .int .i64 ex9, .string s9, .int .i64 i9] 43)) (some ⟨w29.heap.size, 0, none⟩) 1 [(⟨k9, xb, ng, dg9, ex9, s9, i9⟩ : Pt)] := rdP_new w29 ⟨k9, xb, ng, dg9, ex9, s9, i9⟩ 43
    have hs1 : Below w29.heap.size w29 (w29.alloc (.cells #[.int .i64 k9, .bool xb, .bool ng, .string dg9, .int .i64 ex9, .string s9, .int .i64 i9] 43)) := (Below.refl w29.heap.size w29).trans (hb1.mono (Below.refl w29.heap.size w29).size)
    have hT1 : (fun W : World => Below w29.heap.size w29 W) (w29.alloc (.cells #[.int .i64 k9, .bool xb, .bool ng, .string dg9, .int .i64 ex9, .string s9, .int .i64 i9] 43)) := hs1
    refine hK.out _ _ hT1 (fun _ => ?_)
    clear hK K
    try simp only [Act.put, List.setIfInBounds_toArray, List.set_cons_zero, List.set_cons_succ]
    clear hb1
    generalize w29.alloc (.cells #[.int .i64 k9, .bool xb, .bool ng, .string dg9, .int .i64 ex9, .string s9, .int .i64 i9] 43) = v1 at hr1 hs1 hT1 ⊢
    refine wpAnyH_ready (rs := [36, 38]) (by kernel_rfl) (by simp) ?_
    refine AllReadyH.cons (o := { dst := some 97, op := Op.call { callee := Callee.value (Operand.func 18), args := #[Operand.tmp 96], argTypes := #[35] }, type := 22, pos := "law.go:47", after := #[{ on := 35, ground := Ground.data }, { on := 33, ground := Ground.chain }, { on := 33, ground := Ground.guard }], guard := some (33, true) }) rfl (fun K hK => ?_) (AllReadyH.cons (o := { dst := some 99, op := Op.buildSlice 22 1 #[(0, Operand.tmp 98)], type := 22, pos := "law.go:47", after := #[{ on := 37, ground := Ground.data }, { on := 33, ground := Ground.guard }], guard := some (33, true) }) rfl (fun K hK => ?_) AllReadyH.nil)
    · go_simp
      with_reducible refine (theirs_any v1 1 1 (some ⟨w29.heap.size, 0, none⟩) [(⟨k9, xb, ng, dg9, ex9, s9, i9⟩ : Pt)] hr1 (by decide)).mono ?_
      rintro e v2 ⟨p2, c2, rfl, hr2, hb2⟩
      have hs2 : Below w29.heap.size w29 v2 := hs1.trans (hb2.mono hs1.size)
      have hT2 : (fun W : World => Below w29.heap.size w29 W) v2 := hs2
      refine hK.out _ _ hT2 (fun _ => ?_)
      clear hK K hb2
      refine wpAnyH_ready (rs := [38]) (by kernel_rfl) (by simp) ?_
      refine AllReadyH.cons (o := { dst := some 99, op := Op.buildSlice 22 1 #[(0, Operand.tmp 98)], type := 22, pos := "law.go:47", after := #[{ on := 37, ground := Ground.data }, { on := 33, ground := Ground.guard }], guard := some (33, true) }) rfl (fun K hK => ?_) AllReadyH.nil
      go_simp
      have hb3 : Below v2.heap.size v2 (v2.alloc (.cells #[.int .i64 k9, .bool xb, .bool ng, .string dg9, .int .i64 ex9, .string s9, .int .i64 i9] 46)) := (Below.refl _ _).alloc (Nat.le_refl _) _
      have hr3 : RdP (v2.alloc (.cells #[.int .i64 k9, .bool xb, .bool ng, .string dg9, .int .i64 ex9, .string s9, .int .i64 i9] 46)) (some ⟨v2.heap.size, 0, none⟩) 1 [(⟨k9, xb, ng, dg9, ex9, s9, i9⟩ : Pt)] := rdP_new v2 ⟨k9, xb, ng, dg9, ex9, s9, i9⟩ 46
      have hs3 : Below w29.heap.size w29 (v2.alloc (.cells #[.int .i64 k9, .bool xb, .bool ng, .string dg9, .int .i64 ex9, .string s9, .int .i64 i9] 46)) := hs2.trans (hb3.mono hs2.size)
      have mr363 := RdP.below hr2 hb3 (Nat.le_refl _)
      have hT3 : (fun W : World => Below w29.heap.size w29 W) (v2.alloc (.cells #[.int .i64 k9, .bool xb, .bool ng, .string dg9, .int .i64 ex9, .string s9, .int .i64 i9] 46)) := hs3
      refine hK.out _ _ hT3 (fun _ => ?_)
      clear hK K
      try simp only [Act.put, List.setIfInBounds_toArray, List.set_cons_zero, List.set_cons_succ]
      clear hb3
      generalize v2.alloc (.cells #[.int .i64 k9, .bool xb, .bool ng, .string dg9, .int .i64 ex9, .string s9, .int .i64 i9] 46) = v3 at hr3 hs3 hT3 mr363 ⊢
      refine wpAnyH_ready (rs := [39]) (by kernel_rfl) (by simp) ?_
      refine AllReadyH.cons (o := { dst := some 100, op := Op.call { callee := Callee.value (Operand.func 17), args := #[Operand.tmp 97, Operand.tmp 99], argTypes := #[22, 22] }, type := 4, pos := "law.go:47", after := #[{ on := 36, ground := Ground.data }, { on := 38, ground := Ground.data }, { on := 36, ground := Ground.chain }, { on := 33, ground := Ground.guard }], guard := some (33, true) }) rfl (fun K hK => ?_) AllReadyH.nil
      go_simp
      with_reducible refine (Same_any v3 1 c2 1 1 p2 (some ⟨v2.heap.size, 0, none⟩) [(⟨k9, xb, ng, dg9, ex9, s9, i9⟩ : Pt)] [(⟨k9, xb, ng, dg9, ex9, s9, i9⟩ : Pt)] mr363 hr3 rfl (by decide) true ⟨fun _ => rfl, fun _ => rfl⟩).mono ?_
      rintro e v4 ⟨rfl, z4, hz4⟩
      have hs4 : Below w29.heap.size w29 v4 := by rw [hz4]; exact below_drewN hs3 z4
      clear hz4
      have hT4 : (fun W : World => Below w29.heap.size w29 W) v4 := hs4
      refine hK.out _ _ hT4 (fun _ => ?_)
      clear hK K
      refine wpAnyH_take (i := 40) (oi := { dst := some 101, op := Op.pick (Operand.tmp 94) (Operand.tmp 100) (Operand.const (Value.bool false)), type := 4, pos := "law.go:47", after := #[{ on := 33, ground := Ground.data }, { on := 39, ground := Ground.data }], guard := none }) (v := ?_) rfl (by kernel_rfl) (by kernel_rfl) (by kernel_rfl) (fun _ _ _ h => h) (Or.inl ⟨by rfl, ?_⟩) (by assumption) ?_
      rotate_left
      · intro w hSw
        try dsimp only at hSw
        go_simp
        try with_reducible rfl
      try simp only [Act.put, List.setIfInBounds_toArray, List.set_cons_zero, List.set_cons_succ]
      refine wpAnyH_take (i := 41) (oi := { dst := some 102, op := Op.move (Operand.tmp 101), type := 4, pos := "law.go:47", after := #[{ on := 40, ground := Ground.data }, { on := 39, ground := Ground.chain }], guard := none }) (v := ?_) rfl (by kernel_rfl) (by kernel_rfl) (by kernel_rfl) (fun _ _ _ h => h) (Or.inl ⟨by rfl, ?_⟩) (by assumption) ?_
      rotate_left
      · intro w hSw
        try dsimp only at hSw
        go_simp
        try with_reducible rfl
      try simp only [Act.put, List.setIfInBounds_toArray, List.set_cons_zero, List.set_cons_succ]
      refine wpAnyH_take (i := 42) (oi := { dst := some 103, op := Op.move (Operand.tmp 17), type := 4, pos := "law.go:47", after := #[{ on := 41, ground := Ground.guard }], guard := some (41, true) }) (v := ?_) rfl (by kernel_rfl) (by kernel_rfl) (by kernel_rfl) (fun _ _ _ h => h) (Or.inl ⟨by rfl, ?_⟩) (by assumption) ?_
      rotate_left
      · intro w hSw
        try dsimp only at hSw
        go_simp
        try with_reducible rfl
      try simp only [Act.put, List.setIfInBounds_toArray, List.set_cons_zero, List.set_cons_succ]
      refine wpAnyH_take (i := 43) (oi := { dst := some 104, op := Op.move (Operand.tmp 19), type := 4, pos := "law.go:47", after := #[{ on := 41, ground := Ground.guard }], guard := some (41, true) }) (v := ?_) rfl (by kernel_rfl) (by kernel_rfl) (by kernel_rfl) (fun _ _ _ h => h) (Or.inl ⟨by rfl, ?_⟩) (by assumption) ?_
      rotate_left
      · intro w hSw
        try dsimp only at hSw
        go_simp
        try with_reducible rfl
      try simp only [Act.put, List.setIfInBounds_toArray, List.set_cons_zero, List.set_cons_succ]
      refine wpAnyH_take (i := 44) (oi := { dst := some 105, op := Op.binOp BinOp.eql 4 (Operand.tmp 103) (Operand.tmp 104) 4, type := 4, pos := "law.go:47", after := #[{ on := 42, ground := Ground.data }, { on := 43, ground := Ground.data }, { on := 41, ground := Ground.guard }], guard := some (41, true) }) (v := ?_) rfl (by kernel_rfl) (by kernel_rfl) (by kernel_rfl) (fun _ _ _ h => h) (Or.inl ⟨by rfl, ?_⟩) (by assumption) ?_
      rotate_left
      · intro w hSw
        try dsimp only at hSw
        go_simp
        try with_reducible rfl
      try simp only [Act.put, List.setIfInBounds_toArray, List.set_cons_zero, List.set_cons_succ]
      refine wpAnyH_take (i := 45) (oi := { dst := some 106, op := Op.pick (Operand.tmp 102) (Operand.tmp 105) (Operand.const (Value.bool false)), type := 4, pos := "law.go:47", after := #[{ on := 41, ground := Ground.data }, { on := 44, ground := Ground.data }], guard := none }) (v := ?_) rfl (by kernel_rfl) (by kernel_rfl) (by kernel_rfl) (fun _ _ _ h => h) (Or.inl ⟨by rfl, ?_⟩) (by assumption) ?_
      rotate_left
      · intro w hSw
        try dsimp only at hSw
        go_simp
        try with_reducible rfl
      try simp only [Act.put, List.setIfInBounds_toArray, List.set_cons_zero, List.set_cons_succ]
      refine wpAnyH_take (i := 46) (oi := { dst := some 6, op := Op.assign (Operand.tmp 106), type := 4, pos := "law.go:47", after := #[{ on := 45, ground := Ground.data }, { on := 41, ground := Ground.chain }, { on := 0, ground := Ground.phase }, { on := 1, ground := Ground.phase }, { on := 2, ground := Ground.phase }, { on := 3, ground := Ground.phase }, { on := 4, ground := Ground.phase }, { on := 5, ground := Ground.phase }, { on := 6, ground := Ground.phase }, { on := 7, ground := Ground.phase }, { on := 8, ground := Ground.phase }, { on := 9, ground := Ground.phase }, { on := 10, ground := Ground.phase }, { on := 11, ground := Ground.phase }, { on := 12, ground := Ground.phase }, { on := 13, ground := Ground.phase }, { on := 14, ground := Ground.phase }, { on := 15, ground := Ground.phase }, { on := 16, ground := Ground.phase }, { on := 17, ground := Ground.phase }, { on := 18, ground := Ground.phase }, { on := 19, ground := Ground.phase }, { on := 20, ground := Ground.phase }, { on := 21, ground := Ground.phase }, { on := 22, ground := Ground.phase }, { on := 23, ground := Ground.phase }, { on := 24, ground := Ground.phase }, { on := 25, ground := Ground.phase }, { on := 26, ground := Ground.phase }, { on := 27, ground := Ground.phase }, { on := 28, ground := Ground.phase }, { on := 29, ground := Ground.phase }, { on := 30, ground := Ground.phase }, { on := 31, ground := Ground.phase }, { on := 32, ground := Ground.phase }, { on := 33, ground := Ground.phase }, { on := 34, ground := Ground.phase }, { on := 35, ground := Ground.phase }, { on := 36, ground := Ground.phase }, { on := 37, ground := Ground.phase }, { on := 38, ground := Ground.phase }, { on := 39, ground := Ground.phase }, { on := 40, ground := Ground.phase }, { on := 41, ground := Ground.phase }, { on := 42, ground := Ground.phase }, { on := 43, ground := Ground.phase }, { on := 44, ground := Ground.phase }, { on := 45, ground := Ground.phase }], guard := none }) (v := ?_) rfl (by kernel_rfl) (by kernel_rfl) (by kernel_rfl) (fun _ _ _ h => h) (Or.inl ⟨by rfl, ?_⟩) (by assumption) ?_
      rotate_left
      · intro w hSw
        try dsimp only at hSw
        go_simp
        try with_reducible rfl
      try simp only [Act.put, List.setIfInBounds_toArray, List.set_cons_zero, List.set_cons_succ]
      refine wpAnyH_done (by kernel_rfl) ?_ _
      have HFin := Lib.hid (HF29.out.trans (hs4.mono HF29.out.size))
      go_wp2_with fail
      go_ret
      exact ⟨rfl, HFin.out⟩
    · go_simp
      have hb2 : Below v1.heap.size v1 (v1.alloc (.cells #[.int .i64 k9, .bool xb, .bool ng, .string dg9, .int .i64 ex9, .string s9, .int .i64 i9] 46)) := (Below.refl _ _).alloc (Nat.le_refl _) _
      have hr2 : RdP (v1.alloc (.cells #[.int .i64 k9, .bool xb, .bool ng, .string dg9, .int .i64 ex9, .string s9, .int .i64 i9] 46)) (some ⟨v1.heap.size, 0, none⟩) 1 [(⟨k9, xb, ng, dg9, ex9, s9, i9⟩ : Pt)] := rdP_new v1 ⟨k9, xb, ng, dg9, ex9, s9, i9⟩ 46
      have hs2 : Below w29.heap.size w29 (v1.alloc (.cells #[.int .i64 k9, .bool xb, .bool ng, .string dg9, .int .i64 ex9, .string s9, .int .i64 i9] 46)) := hs1.trans (hb2.mono hs1.size)
      have mr352 := RdP.below hr1 hb2 (Nat.le_refl _)
      have hT2 : (fun W : World => Below w29.heap.size w29 W) (v1.alloc (.cells #[.int .i64 k9, .bool xb, .bool ng, .string dg9, .int .i64 ex9, .string s9, .int .i64 i9] 46)) := hs2
      refine hK.out _ _ hT2 (fun _ => ?_)
      clear hK K
      try simp only [Act.put, List.setIfInBounds_toArray, List.set_cons_zero, List.set_cons_succ]
      clear hb2
      generalize v1.alloc (.cells #[.int .i64 k9, .bool xb, .bool ng, .string dg9, .int .i64 ex9, .string s9, .int .i64 i9] 46) = v2 at hr2 hs2 hT2 mr352 ⊢
      refine wpAnyH_ready (rs := [36]) (by kernel_rfl) (by simp) ?_
      refine AllReadyH.cons (o := { dst := some 97, op := Op.call { callee := Callee.value (Operand.func 18), args := #[Operand.tmp 96], argTypes := #[35] }, type := 22, pos := "law.go:47", after := #[{ on := 35, ground := Ground.data }, { on := 33, ground := Ground.chain }, { on := 33, ground := Ground.guard }], guard := some (33, true) }) rfl (fun K hK => ?_) AllReadyH.nil
      go_simp
      with_reducible refine (theirs_any v2 1 1 (some ⟨w29.heap.size, 0, none⟩) [(⟨k9, xb, ng, dg9, ex9, s9, i9⟩ : Pt)] mr352 (by decide)).mono ?_
      rintro e v3 ⟨p3, c3, rfl, hr3, hb3⟩
      have hs3 : Below w29.heap.size w29 v3 := hs2.trans (hb3.mono hs2.size)
      have mr383 := RdP.below hr2 hb3 (Nat.le_refl _)
      have hT3 : (fun W : World => Below w29.heap.size w29 W) v3 := hs3
      refine hK.out _ _ hT3 (fun _ => ?_)
      clear hK K hb3
      refine wpAnyH_ready (rs := [39]) (by kernel_rfl) (by simp) ?_
      refine AllReadyH.cons (o := { dst := some 100, op := Op.call { callee := Callee.value (Operand.func 17), args := #[Operand.tmp 97, Operand.tmp 99], argTypes := #[22, 22] }, type := 4, pos := "law.go:47", after := #[{ on := 36, ground := Ground.data }, { on := 38, ground := Ground.data }, { on := 36, ground := Ground.chain }, { on := 33, ground := Ground.guard }], guard := some (33, true) }) rfl (fun K hK => ?_) AllReadyH.nil
      go_simp
      with_reducible refine (Same_any v3 1 c3 1 1 p3 (some ⟨v1.heap.size, 0, none⟩) [(⟨k9, xb, ng, dg9, ex9, s9, i9⟩ : Pt)] [(⟨k9, xb, ng, dg9, ex9, s9, i9⟩ : Pt)] hr3 mr383 rfl (by decide) true ⟨fun _ => rfl, fun _ => rfl⟩).mono ?_
      rintro e v4 ⟨rfl, z4, hz4⟩
      have hs4 : Below w29.heap.size w29 v4 := by rw [hz4]; exact below_drewN hs3 z4
      clear hz4
      have hT4 : (fun W : World => Below w29.heap.size w29 W) v4 := hs4
      refine hK.out _ _ hT4 (fun _ => ?_)
      clear hK K
      refine wpAnyH_take (i := 40) (oi := { dst := some 101, op := Op.pick (Operand.tmp 94) (Operand.tmp 100) (Operand.const (Value.bool false)), type := 4, pos := "law.go:47", after := #[{ on := 33, ground := Ground.data }, { on := 39, ground := Ground.data }], guard := none }) (v := ?_) rfl (by kernel_rfl) (by kernel_rfl) (by kernel_rfl) (fun _ _ _ h => h) (Or.inl ⟨by rfl, ?_⟩) (by assumption) ?_
      rotate_left
      · intro w hSw
        try dsimp only at hSw
        go_simp
        try with_reducible rfl
      try simp only [Act.put, List.setIfInBounds_toArray, List.set_cons_zero, List.set_cons_succ]
      refine wpAnyH_take (i := 41) (oi := { dst := some 102, op := Op.move (Operand.tmp 101), type := 4, pos := "law.go:47", after := #[{ on := 40, ground := Ground.data }, { on := 39, ground := Ground.chain }], guard := none }) (v := ?_) rfl (by kernel_rfl) (by kernel_rfl) (by kernel_rfl) (fun _ _ _ h => h) (Or.inl ⟨by rfl, ?_⟩) (by assumption) ?_
      rotate_left
      · intro w hSw
        try dsimp only at hSw
        go_simp
        try with_reducible rfl
      try simp only [Act.put, List.setIfInBounds_toArray, List.set_cons_zero, List.set_cons_succ]
      refine wpAnyH_take (i := 42) (oi := { dst := some 103, op := Op.move (Operand.tmp 17), type := 4, pos := "law.go:47", after := #[{ on := 41, ground := Ground.guard }], guard := some (41, true) }) (v := ?_) rfl (by kernel_rfl) (by kernel_rfl) (by kernel_rfl) (fun _ _ _ h => h) (Or.inl ⟨by rfl, ?_⟩) (by assumption) ?_
      rotate_left
      · intro w hSw
        try dsimp only at hSw
        go_simp
        try with_reducible rfl
      try simp only [Act.put, List.setIfInBounds_toArray, List.set_cons_zero, List.set_cons_succ]
      refine wpAnyH_take (i := 43) (oi := { dst := some 104, op := Op.move (Operand.tmp 19), type := 4, pos := "law.go:47", after := #[{ on := 41, ground := Ground.guard }], guard := some (41, true) }) (v := ?_) rfl (by kernel_rfl) (by kernel_rfl) (by kernel_rfl) (fun _ _ _ h => h) (Or.inl ⟨by rfl, ?_⟩) (by assumption) ?_
      rotate_left
      · intro w hSw
        try dsimp only at hSw
        go_simp
        try with_reducible rfl
      try simp only [Act.put, List.setIfInBounds_toArray, List.set_cons_zero, List.set_cons_succ]
      refine wpAnyH_take (i := 44) (oi := { dst := some 105, op := Op.binOp BinOp.eql 4 (Operand.tmp 103) (Operand.tmp 104) 4, type := 4, pos := "law.go:47", after := #[{ on := 42, ground := Ground.data }, { on := 43, ground := Ground.data }, { on := 41, ground := Ground.guard }], guard := some (41, true) }) (v := ?_) rfl (by kernel_rfl) (by kernel_rfl) (by kernel_rfl) (fun _ _ _ h => h) (Or.inl ⟨by rfl, ?_⟩) (by assumption) ?_
      rotate_left
      · intro w hSw
        try dsimp only at hSw
        go_simp
        try with_reducible rfl
      try simp only [Act.put, List.setIfInBounds_toArray, List.set_cons_zero, List.set_cons_succ]
      refine wpAnyH_take (i := 45) (oi := { dst := some 106, op := Op.pick (Operand.tmp 102) (Operand.tmp 105) (Operand.const (Value.bool false)), type := 4, pos := "law.go:47", after := #[{ on := 41, ground := Ground.data }, { on := 44, ground := Ground.data }], guard := none }) (v := ?_) rfl (by kernel_rfl) (by kernel_rfl) (by kernel_rfl) (fun _ _ _ h => h) (Or.inl ⟨by rfl, ?_⟩) (by assumption) ?_
      rotate_left
      · intro w hSw
        try dsimp only at hSw
        go_simp
        try with_reducible rfl
      try simp only [Act.put, List.setIfInBounds_toArray, List.set_cons_zero, List.set_cons_succ]
      refine wpAnyH_take (i := 46) (oi := { dst := some 6, op := Op.assign (Operand.tmp 106), type := 4, pos := "law.go:47", after := #[{ on := 45, ground := Ground.data }, { on := 41, ground := Ground.chain }, { on := 0, ground := Ground.phase }, { on := 1, ground := Ground.phase }, { on := 2, ground := Ground.phase }, { on := 3, ground := Ground.phase }, { on := 4, ground := Ground.phase }, { on := 5, ground := Ground.phase }, { on := 6, ground := Ground.phase }, { on := 7, ground := Ground.phase }, { on := 8, ground := Ground.phase }, { on := 9, ground := Ground.phase }, { on := 10, ground := Ground.phase }, { on := 11, ground := Ground.phase }, { on := 12, ground := Ground.phase }, { on := 13, ground := Ground.phase }, { on := 14, ground := Ground.phase }, { on := 15, ground := Ground.phase }, { on := 16, ground := Ground.phase }, { on := 17, ground := Ground.phase }, { on := 18, ground := Ground.phase }, { on := 19, ground := Ground.phase }, { on := 20, ground := Ground.phase }, { on := 21, ground := Ground.phase }, { on := 22, ground := Ground.phase }, { on := 23, ground := Ground.phase }, { on := 24, ground := Ground.phase }, { on := 25, ground := Ground.phase }, { on := 26, ground := Ground.phase }, { on := 27, ground := Ground.phase }, { on := 28, ground := Ground.phase }, { on := 29, ground := Ground.phase }, { on := 30, ground := Ground.phase }, { on := 31, ground := Ground.phase }, { on := 32, ground := Ground.phase }, { on := 33, ground := Ground.phase }, { on := 34, ground := Ground.phase }, { on := 35, ground := Ground.phase }, { on := 36, ground := Ground.phase }, { on := 37, ground := Ground.phase }, { on := 38, ground := Ground.phase }, { on := 39, ground := Ground.phase }, { on := 40, ground := Ground.phase }, { on := 41, ground := Ground.phase }, { on := 42, ground := Ground.phase }, { on := 43, ground := Ground.phase }, { on := 44, ground := Ground.phase }, { on := 45, ground := Ground.phase }], guard := none }) (v := ?_) rfl (by kernel_rfl) (by kernel_rfl) (by kernel_rfl) (fun _ _ _ h => h) (Or.inl ⟨by rfl, ?_⟩) (by assumption) ?_
      rotate_left
      · intro w hSw
        try dsimp only at hSw
        go_simp
        try with_reducible rfl
      try simp only [Act.put, List.setIfInBounds_toArray, List.set_cons_zero, List.set_cons_succ]
      refine wpAnyH_done (by kernel_rfl) ?_ _
      have HFin := Lib.hid (HF29.out.trans (hs4.mono HF29.out.size))
      go_wp2_with fail
      go_ret
      exact ⟨rfl, HFin.out⟩
  · go_simp
    have hb1 : Below w29.heap.size w29 (w29.alloc (.cells #[.int .i64 k9, .bool xb, .bool ng, .string dg9, .int .i64 ex9, .string s9, .int .i64 i9] 46)) := (Below.refl _ _).alloc (Nat.le_refl _) _
    have hr1 : RdP (w29.alloc (.cells #[.int .i64 k9, .bool xb, .bool ng, .string dg9, .int .i64 ex9, .string s9, .int .i64 i9] 46)) (some ⟨w29.heap.size, 0, none⟩) 1 [(⟨k9, xb, ng, dg9, ex9, s9, i9⟩ : Pt)] := rdP_new w29 ⟨k9, xb, ng, dg9, ex9, s9, i9⟩ 46
    have hs1 : Below w29.heap.size w29 (w29.alloc (.cells #[.int .i64 k9, .bool xb, .bool ng, .string dg9, .int .i64 ex9, .string s9, .int .i64 i9] 46)) := (Below.refl w29.heap.size w29).trans (hb1.mono (Below.refl w29.heap.size w29).size)
    have hT1 : (fun W : World => Below w29.heap.size w29 W) (w29.alloc (.cells #[.int .i64 k9, .bool xb, .bool ng, .string dg9, .int .i64 ex9, .string s9, .int .i64 i9] 46)) := hs1
    refine hK.out _ _ hT1 (fun _ => ?_)
    clear hK K
    try simp only [Act.put, List.setIfInBounds_toArray, List.set_cons_zero, List.set_cons_succ]
    clear hb1
    generalize w29.alloc (.cells #[.int .i64 k9, .bool xb, .bool ng, .string dg9, .int .i64 ex9, .string s9, .int .i64 i9] 46) = v1 at hr1 hs1 hT1 ⊢
    refine wpAnyH_ready (rs := [35]) (by kernel_rfl) (by simp) ?_
    refine AllReadyH.cons (o := { dst := some 96, op := Op.buildSlice 35 1 #[(0, Operand.tmp 95)], type := 35, pos := "law.go:47", after := #[{ on := 34, ground := Ground.data }, { on := 33, ground := Ground.guard }], guard := some (33, true) }) rfl (fun K hK => ?_) AllReadyH.nil
    go_simp
    have hb2 : Below v1.heap.size v1 (v1.alloc (.cells #[.int .i64 k9, .bool xb, .bool ng, .string dg9, .int .i64 ex9, .string s9, .int .i64 i9] 43)) := (Below.refl _ _).alloc (Nat.le_refl _) _
    have hr2 : RdP (v1.alloc (.cells #[.int .i64 k9, .bool xb, .bool ng, .string dg9, .int .i64 ex9, .string s9, .int .i64 i9] 43)) (some ⟨v1.heap.size, 0, none⟩) 1 [(⟨k9, xb, ng, dg9, ex9, s9, i9⟩ : Pt)] := rdP_new v1 ⟨k9, xb, ng, dg9, ex9, s9, i9⟩ 43
    have hs2 : Below w29.heap.size w29 (v1.alloc (.cells #[.int .i64 k9, .bool xb, .bool ng, .string dg9, .int .i64 ex9, .string s9, .int .i64 i9] 43)) := hs1.trans (hb2.mono hs1.size)
    have mr382 := RdP.below hr1 hb2 (Nat.le_refl _)
    have hT2 : (fun W : World => Below w29.heap.size w29 W) (v1.alloc (.cells #[.int .i64 k9, .bool xb, .bool ng, .string dg9, .int .i64 ex9, .string s9, .int .i64 i9] 43)) := hs2
    refine hK.out _ _ hT2 (fun _ => ?_)
    clear hK K
    try simp only [Act.put, List.setIfInBounds_toArray, List.set_cons_zero, List.set_cons_succ]
    clear hb2
    generalize v1.alloc (.cells #[.int .i64 k9, .bool xb, .bool ng, .string dg9, .int .i64 ex9, .string s9, .int .i64 i9] 43) = v2 at hr2 hs2 hT2 mr382 ⊢
    refine wpAnyH_ready (rs := [36]) (by kernel_rfl) (by simp) ?_
    refine AllReadyH.cons (o := { dst := some 97, op := Op.call { callee := Callee.value (Operand.func 18), args := #[Operand.tmp 96], argTypes := #[35] }, type := 22, pos := "law.go:47", after := #[{ on := 35, ground := Ground.data }, { on := 33, ground := Ground.chain }, { on := 33, ground := Ground.guard }], guard := some (33, true) }) rfl (fun K hK => ?_) AllReadyH.nil
    go_simp
    with_reducible refine (theirs_any v2 1 1 (some ⟨v1.heap.size, 0, none⟩) [(⟨k9, xb, ng, dg9, ex9, s9, i9⟩ : Pt)] hr2 (by decide)).mono ?_
    rintro e v3 ⟨p3, c3, rfl, hr3, hb3⟩
    have hs3 : Below w29.heap.size w29 v3 := hs2.trans (hb3.mono hs2.size)
    have mr383 := RdP.below mr382 hb3 (Nat.le_refl _)
    have hT3 : (fun W : World => Below w29.heap.size w29 W) v3 := hs3
    refine hK.out _ _ hT3 (fun _ => ?_)
    clear hK K hb3
    refine wpAnyH_ready (rs := [39]) (by kernel_rfl) (by simp) ?_
    refine AllReadyH.cons (o := { dst := some 100, op := Op.call { callee := Callee.value (Operand.func 17), args := #[Operand.tmp 97, Operand.tmp 99], argTypes := #[22, 22] }, type := 4, pos := "law.go:47", after := #[{ on := 36, ground := Ground.data }, { on := 38, ground := Ground.data }, { on := 36, ground := Ground.chain }, { on := 33, ground := Ground.guard }], guard := some (33, true) }) rfl (fun K hK => ?_) AllReadyH.nil
    go_simp
    with_reducible refine (Same_any v3 1 c3 1 1 p3 (some ⟨w29.heap.size, 0, none⟩) [(⟨k9, xb, ng, dg9, ex9, s9, i9⟩ : Pt)] [(⟨k9, xb, ng, dg9, ex9, s9, i9⟩ : Pt)] hr3 mr383 rfl (by decide) true ⟨fun _ => rfl, fun _ => rfl⟩).mono ?_
    rintro e v4 ⟨rfl, z4, hz4⟩
    have hs4 : Below w29.heap.size w29 v4 := by rw [hz4]; exact below_drewN hs3 z4
    clear hz4
    have hT4 : (fun W : World => Below w29.heap.size w29 W) v4 := hs4
    refine hK.out _ _ hT4 (fun _ => ?_)
    clear hK K
    refine wpAnyH_take (i := 40) (oi := { dst := some 101, op := Op.pick (Operand.tmp 94) (Operand.tmp 100) (Operand.const (Value.bool false)), type := 4, pos := "law.go:47", after := #[{ on := 33, ground := Ground.data }, { on := 39, ground := Ground.data }], guard := none }) (v := ?_) rfl (by kernel_rfl) (by kernel_rfl) (by kernel_rfl) (fun _ _ _ h => h) (Or.inl ⟨by rfl, ?_⟩) (by assumption) ?_
    rotate_left
    · intro w hSw
      try dsimp only at hSw
      go_simp
      try with_reducible rfl
    try simp only [Act.put, List.setIfInBounds_toArray, List.set_cons_zero, List.set_cons_succ]
    refine wpAnyH_take (i := 41) (oi := { dst := some 102, op := Op.move (Operand.tmp 101), type := 4, pos := "law.go:47", after := #[{ on := 40, ground := Ground.data }, { on := 39, ground := Ground.chain }], guard := none }) (v := ?_) rfl (by kernel_rfl) (by kernel_rfl) (by kernel_rfl) (fun _ _ _ h => h) (Or.inl ⟨by rfl, ?_⟩) (by assumption) ?_
    rotate_left
    · intro w hSw
      try dsimp only at hSw
      go_simp
      try with_reducible rfl
    try simp only [Act.put, List.setIfInBounds_toArray, List.set_cons_zero, List.set_cons_succ]
    refine wpAnyH_take (i := 42) (oi := { dst := some 103, op := Op.move (Operand.tmp 17), type := 4, pos := "law.go:47", after := #[{ on := 41, ground := Ground.guard }], guard := some (41, true) }) (v := ?_) rfl (by kernel_rfl) (by kernel_rfl) (by kernel_rfl) (fun _ _ _ h => h) (Or.inl ⟨by rfl, ?_⟩) (by assumption) ?_
    rotate_left
    · intro w hSw
      try dsimp only at hSw
      go_simp
      try with_reducible rfl
    try simp only [Act.put, List.setIfInBounds_toArray, List.set_cons_zero, List.set_cons_succ]
    refine wpAnyH_take (i := 43) (oi := { dst := some 104, op := Op.move (Operand.tmp 19), type := 4, pos := "law.go:47", after := #[{ on := 41, ground := Ground.guard }], guard := some (41, true) }) (v := ?_) rfl (by kernel_rfl) (by kernel_rfl) (by kernel_rfl) (fun _ _ _ h => h) (Or.inl ⟨by rfl, ?_⟩) (by assumption) ?_
    rotate_left
    · intro w hSw
      try dsimp only at hSw
      go_simp
      try with_reducible rfl
    try simp only [Act.put, List.setIfInBounds_toArray, List.set_cons_zero, List.set_cons_succ]
    refine wpAnyH_take (i := 44) (oi := { dst := some 105, op := Op.binOp BinOp.eql 4 (Operand.tmp 103) (Operand.tmp 104) 4, type := 4, pos := "law.go:47", after := #[{ on := 42, ground := Ground.data }, { on := 43, ground := Ground.data }, { on := 41, ground := Ground.guard }], guard := some (41, true) }) (v := ?_) rfl (by kernel_rfl) (by kernel_rfl) (by kernel_rfl) (fun _ _ _ h => h) (Or.inl ⟨by rfl, ?_⟩) (by assumption) ?_
    rotate_left
    · intro w hSw
      try dsimp only at hSw
      go_simp
      try with_reducible rfl
    try simp only [Act.put, List.setIfInBounds_toArray, List.set_cons_zero, List.set_cons_succ]
    refine wpAnyH_take (i := 45) (oi := { dst := some 106, op := Op.pick (Operand.tmp 102) (Operand.tmp 105) (Operand.const (Value.bool false)), type := 4, pos := "law.go:47", after := #[{ on := 41, ground := Ground.data }, { on := 44, ground := Ground.data }], guard := none }) (v := ?_) rfl (by kernel_rfl) (by kernel_rfl) (by kernel_rfl) (fun _ _ _ h => h) (Or.inl ⟨by rfl, ?_⟩) (by assumption) ?_
    rotate_left
    · intro w hSw
      try dsimp only at hSw
      go_simp
      try with_reducible rfl
    try simp only [Act.put, List.setIfInBounds_toArray, List.set_cons_zero, List.set_cons_succ]
    refine wpAnyH_take (i := 46) (oi := { dst := some 6, op := Op.assign (Operand.tmp 106), type := 4, pos := "law.go:47", after := #[{ on := 45, ground := Ground.data }, { on := 41, ground := Ground.chain }, { on := 0, ground := Ground.phase }, { on := 1, ground := Ground.phase }, { on := 2, ground := Ground.phase }, { on := 3, ground := Ground.phase }, { on := 4, ground := Ground.phase }, { on := 5, ground := Ground.phase }, { on := 6, ground := Ground.phase }, { on := 7, ground := Ground.phase }, { on := 8, ground := Ground.phase }, { on := 9, ground := Ground.phase }, { on := 10, ground := Ground.phase }, { on := 11, ground := Ground.phase }, { on := 12, ground := Ground.phase }, { on := 13, ground := Ground.phase }, { on := 14, ground := Ground.phase }, { on := 15, ground := Ground.phase }, { on := 16, ground := Ground.phase }, { on := 17, ground := Ground.phase }, { on := 18, ground := Ground.phase }, { on := 19, ground := Ground.phase }, { on := 20, ground := Ground.phase }, { on := 21, ground := Ground.phase }, { on := 22, ground := Ground.phase }, { on := 23, ground := Ground.phase }, { on := 24, ground := Ground.phase }, { on := 25, ground := Ground.phase }, { on := 26, ground := Ground.phase }, { on := 27, ground := Ground.phase }, { on := 28, ground := Ground.phase }, { on := 29, ground := Ground.phase }, { on := 30, ground := Ground.phase }, { on := 31, ground := Ground.phase }, { on := 32, ground := Ground.phase }, { on := 33, ground := Ground.phase }, { on := 34, ground := Ground.phase }, { on := 35, ground := Ground.phase }, { on := 36, ground := Ground.phase }, { on := 37, ground := Ground.phase }, { on := 38, ground := Ground.phase }, { on := 39, ground := Ground.phase }, { on := 40, ground := Ground.phase }, { on := 41, ground := Ground.phase }, { on := 42, ground := Ground.phase }, { on := 43, ground := Ground.phase }, { on := 44, ground := Ground.phase }, { on := 45, ground := Ground.phase }], guard := none }) (v := ?_) rfl (by kernel_rfl) (by kernel_rfl) (by kernel_rfl) (fun _ _ _ h => h) (Or.inl ⟨by rfl, ?_⟩) (by assumption) ?_
    rotate_left
    · intro w hSw
      try dsimp only at hSw
      go_simp
      try with_reducible rfl
    try simp only [Act.put, List.setIfInBounds_toArray, List.set_cons_zero, List.set_cons_succ]
    refine wpAnyH_done (by kernel_rfl) ?_ _
    have HFin := Lib.hid (HF29.out.trans (hs4.mono HF29.out.size))
    go_wp2_with fail
    go_ret
    exact ⟨rfl, HFin.out⟩
end Go.Proofs.YtebhbcbcnjdgjaaDoor.dk
/- KeysCode: any input. -/
namespace Go.Proofs.YtebhbcbcnjdgjaaDoor.dk
open Go.PlainAid Go.ChangeShapes Go.WideShapes Go.ChangeAt Go.RowKit

set_option maxHeartbeats 4000000 in
set_option maxRecDepth 100000 in
theorem code_out (w : World) (p q : Option Addr) (n c m d : Nat) (la : List Pt) (k : Int) (vb neg : Bool) (dg : ByteArray) (ex : Int) (s : ByteArray) (x6 x7 : Value) (ha : RdP w p n la) (h : ¬ (fewP la = true ∧ m ≤ 1000)) (hm : m ≤ 140737488351232) :
    Calls Tryd.prog 3 #[.slice p n c, .slice q m d, .agg #[.int .i64 k, .bool vb, .bool neg, .string dg, .int .i64 ex, .string s, x6, x7]] w fun e w' => e = .returned (.bool true) ∧ Below w.heap.size w w' := by
  have hbv : Below w.heap.size w (w.alloc (.cells #[.int .i64 k, .bool vb, .bool neg, .string dg, .int .i64 ex, .string s, x6, x7] 29)) := (Below.refl _ _).alloc (Nat.le_refl _) _
  obtain ⟨wv, hwv⟩ : ∃ wv, wv = w.alloc (.cells #[.int .i64 k, .bool vb, .bool neg, .string dg, .int .i64 ex, .string s, x6, x7] 29) := ⟨_, rfl⟩
  rw [← hwv] at hbv
  have HA := Lib.hid (awake_any wv)
  have HRa := Lib.hid ha
  have HBv := Lib.hid hbv
  have HWv := Lib.hid hwv
  clear ha hbv hwv
  go_enter Tryd.func3, Tryd.ntmps3
  go_wp2_with fail
  rw [← HWv.out]
  with_reducible refine HA.out.mono ?_
  clear HA
  rintro e w0 ⟨rfl, hb0⟩
  have hbw0 := HBv.out.trans (hb0.mono HBv.out.size)
  have HF1 := Lib.hid (Few_any w0 n c p la (HRa.out.below hbw0 (Nat.le_refl _)))
  have HB := Lib.hid hbw0
  clear hb0 hbw0 HRa HWv HBv
  generalize fewP la = fa at HF1 h
  go_wp2_with fail
  with_reducible refine HF1.out.mono ?_
  clear HF1
  rintro e w1 ⟨rfl, rfl⟩
  cases fa with
  | false =>
    go_wp2_with fail
    go_ret
    exact ⟨rfl, HB.out⟩
  | true =>
    have hm2 : 1000 < m := by
      rcases Nat.lt_or_ge 1000 m with h2 | h2
      · exact h2
      · exact absurd ⟨by trivial, h2⟩ h
    have dm : decide ((1000 : Int) < (m : Int)) = true := decide_eq_true (by omega)
    have dmn : decide (1000 < m) = true := decide_eq_true hm2
    go_wp2_with fail
    go_ret
    exact ⟨rfl, HB.out⟩
theorem code_any (w : World) (p q : Option Addr) (n c m d : Nat) (la : List Pt) (b : List Int) (mx : Int) (k : Int) (vb neg : Bool) (dg : ByteArray) (ex : Int) (s : ByteArray) (x6 x7 : Value) (ha : RdP w p n la) (hb : Rd w q m b) (hy : Bys b) (hmd : m ≤ d) (hm : m ≤ 140737488351232) (hmx : w.cell? ⟨0, 0, none⟩ = some (.int .i64 mx)) :
    Calls Tryd.prog 3 #[.slice p n c, .slice q m d, .agg #[.int .i64 k, .bool vb, .bool neg, .string dg, .int .i64 ex, .string s, x6, x7]] w fun e w' => e = .returned (.bool true) ∧ Below w.heap.size w w' := by
  by_cases h : fewP la = true ∧ m ≤ 1000
  · exact code_in w p q n c m d la b mx k vb neg dg ex s x6 x7 ha hb hy hmd hmx h.1 h.2
  · exact code_out w p q n c m d la k vb neg dg ex s x6 x7 ha h hm
end Go.Proofs.YtebhbcbcnjdgjaaDoor.dk
