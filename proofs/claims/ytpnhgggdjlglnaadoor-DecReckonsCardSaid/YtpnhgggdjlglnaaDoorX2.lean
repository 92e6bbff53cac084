/- larger: two numbers without their signs. -/
import Derived.Test.YtpnhgggdjlglnaaDoorX1
namespace Go.Proofs.YtpnhgggdjlglnaaDoor.dk
open Go.PlainAid Go.ChangeShapes Go.WideShapes Go.ChangeAt Go.RowKit

/-- Two numbers without their signs, compared. -/
def lgr (d1 d2 : ByteArray) (e1 e2 : Int) : Int := if cmpI ((d1.size : Int) + e1) ((d2.size : Int) + e2) = 0 then Lib.compareBytes d1.data.toList d2.data.toList else cmpI ((d1.size : Int) + e1) ((d2.size : Int) + e2)
/-- Two numbers lie where a function of two keeps them. -/
theorem two_rows_at (w : World) (n1 n2 : Bool) (d1 d2 : ByteArray) (e1 e2 : Int) : ∃ wa, wa = (w.alloc (.cells #[.bool n1, .string d1, .int .i64 e1] 23)).alloc (.cells #[.bool n2, .string d2, .int .i64 e2] 23) ∧
    wa.heap[w.heap.size]? = some (.cells #[.bool n1, .string d1, .int .i64 e1] 23 (0, 0)) ∧ wa.heap[w.heap.size + 1]? = some (.cells #[.bool n2, .string d2, .int .i64 e2] 23 (0, 0)) ∧ Below w.heap.size w wa := by
  refine ⟨_, rfl, alloc_old _ (heap_alloc_new _ _), ?_, ((Below.refl _ _).alloc (Nat.le_refl _) _).alloc (by rw [World.size_alloc]; omega) _⟩
  have := heap_alloc_new (w.alloc (.cells #[.bool n1, .string d1, .int .i64 e1] 23)) (.cells #[.bool n2, .string d2, .int .i64 e2] 23)
  rw [World.size_alloc] at this
  exact this
set_option maxRecDepth 100000 in
set_option maxHeartbeats 2000000 in
theorem larger_any (w : World) (n1 n2 : Bool) (d1 d2 : ByteArray) (e1 e2 : Int) (s1 : d1.size ≤ 1000000) (s2 : d2.size ≤ 1000000) (b1 : -1000000 ≤ e1) (b2 : e1 ≤ 1000000) (b3 : -1000000 ≤ e2) (b4 : e2 ≤ 1000000) :
    Calls Tryd.prog 26 #[.agg #[.bool n1, .string d1, .int .i64 e1], .agg #[.bool n2, .string d2, .int .i64 e2]] w fun e w' => e = .returned (.int .i64 (lgr d1 d2 e1 e2)) ∧ Below w.heap.size w w' := by
  obtain ⟨wa, hwa, r1, r2, hB⟩ := two_rows_at w n1 n2 d1 d2 e1 e2
  have HH1 := Lib.hid (fun v => height_any v n1 d1 e1 (by omega) (by omega) (by omega))
  have HH2 := Lib.hid (fun v => height_any v n2 d2 e2 (by omega) (by omega) (by omega))
  unfold lgr
  generalize (d1.size : Int) + e1 = k1 at HH1 ⊢
  generalize (d2.size : Int) + e2 = k2 at HH2 ⊢
  have HC := Lib.hid (fun v => cmpI_any v k1 k2)
  have HX := Lib.hid (fun v => Tryd.strings_Compare d1 d2 v)
  generalize cmpI k1 k2 = cc at HC ⊢
  generalize Lib.compareBytes d1.data.toList d2.data.toList = cx at HX ⊢
  have HO := Lib.hid (fun v G h => or_any v G cc cx h)
  generalize (if cc = 0 then cx else cc) = cr at HO ⊢
  have HW := Lib.hid hwa
  have HR1 := Lib.hid r1
  have HR2 := Lib.hid r2
  have HB := Lib.hid hB
  clear hwa r1 r2 hB
  go_enter Tryd.func26, Tryd.ntmps26
  go_upto_region 1 with fail
  rw [← HW.out]
  have hbd : Below wa.heap.size wa wa.drew := (Below.refl _ _).drew
  have HBd := Lib.hid (HB.out.trans (hbd.mono HB.out.size))
  have HD1 := Lib.hid ((hbd.block _ (lt_of_block HR1.out)).trans HR1.out)
  have HD2 := Lib.hid ((hbd.block _ (lt_of_block HR2.out)).trans HR2.out)
  have hT : (fun W : World => Below wa.drew.heap.size wa.drew W) wa.drew := Below.refl _ _
  clear hbd HB HR1 HR2 HW
  refine wp_region_held_drew (S := (fun W : World => Below wa.drew.heap.size wa.drew W)) (by kernel_rfl) hT (fun hHeld => ?_)
  clear hHeld
  generalize wa.drew = wd at HBd HD1 HD2 hT ⊢
  refine wpAnyH_take (i := 0) (oi := { dst := some 5, op := Op.load 23 (Operand.tmp 2), type := 23, pos := "dec.go:187", after := #[], guard := none }) (v := ?_) rfl (by kernel_rfl) (by kernel_rfl) (by kernel_rfl) (fun _ _ _ h => h) (Or.inl ⟨by rfl, ?_⟩) (by assumption) ?_
  rotate_left
  · intro w hSw
    try dsimp only at hSw
    obtain ⟨⟨c0, c1, c2⟩, _⟩ := row3 ((hSw.block _ (lt_of_block HD1.out)).trans HD1.out)
    go_simp
    try with_reducible rfl
  try simp only [Act.put, List.setIfInBounds_toArray, List.set_cons_zero, List.set_cons_succ]
  refine wpAnyH_take (i := 2) (oi := { dst := some 7, op := Op.load 23 (Operand.tmp 3), type := 23, pos := "dec.go:187", after := #[], guard := none }) (v := ?_) rfl (by kernel_rfl) (by kernel_rfl) (by kernel_rfl) (fun _ _ _ h => h) (Or.inl ⟨by rfl, ?_⟩) (by assumption) ?_
  rotate_left
  · intro w hSw
    try dsimp only at hSw
    obtain ⟨⟨c0, c1, c2⟩, _⟩ := row3 ((hSw.block _ (lt_of_block HD2.out)).trans HD2.out)
    go_simp
    try with_reducible rfl
  try simp only [Act.put, List.setIfInBounds_toArray, List.set_cons_zero, List.set_cons_succ]
  refine wpAnyH_take (i := 5) (oi := { dst := some 10, op := Op.fieldAddr 23 (Operand.tmp 2) 1, type := 0, pos := "dec.go:187", after := #[], guard := none }) (v := ?_) rfl (by kernel_rfl) (by kernel_rfl) (by kernel_rfl) (fun _ _ _ h => h) (Or.inl ⟨by rfl, ?_⟩) (by assumption) ?_
  rotate_left
  · intro w hSw
    try dsimp only at hSw
    go_simp
    try with_reducible rfl
  try simp only [Act.put, List.setIfInBounds_toArray, List.set_cons_zero, List.set_cons_succ]
  refine wpAnyH_take (i := 6) (oi := { dst := some 11, op := Op.load 9 (Operand.tmp 10), type := 9, pos := "dec.go:187", after := #[{ on := 5, ground := Ground.data }], guard := none }) (v := ?_) rfl (by kernel_rfl) (by kernel_rfl) (by kernel_rfl) (fun _ _ _ h => h) (Or.inl ⟨by rfl, ?_⟩) (by assumption) ?_
  rotate_left
  · intro w hSw
    try dsimp only at hSw
    obtain ⟨⟨c0, c1, c2⟩, _⟩ := row3 ((hSw.block _ (lt_of_block HD1.out)).trans HD1.out)
    go_simp
    try with_reducible rfl
  try simp only [Act.put, List.setIfInBounds_toArray, List.set_cons_zero, List.set_cons_succ]
  refine wpAnyH_take (i := 7) (oi := { dst := some 12, op := Op.fieldAddr 23 (Operand.tmp 3) 1, type := 0, pos := "dec.go:187", after := #[], guard := none }) (v := ?_) rfl (by kernel_rfl) (by kernel_rfl) (by kernel_rfl) (fun _ _ _ h => h) (Or.inl ⟨by rfl, ?_⟩) (by assumption) ?_
  rotate_left
  · intro w hSw
    try dsimp only at hSw
    go_simp
    try with_reducible rfl
  try simp only [Act.put, List.setIfInBounds_toArray, List.set_cons_zero, List.set_cons_succ]
  refine wpAnyH_take (i := 8) (oi := { dst := some 13, op := Op.load 9 (Operand.tmp 12), type := 9, pos := "dec.go:187", after := #[{ on := 7, ground := Ground.data }], guard := none }) (v := ?_) rfl (by kernel_rfl) (by kernel_rfl) (by kernel_rfl) (fun _ _ _ h => h) (Or.inl ⟨by rfl, ?_⟩) (by assumption) ?_
  rotate_left
  · intro w hSw
    try dsimp only at hSw
    obtain ⟨⟨c0, c1, c2⟩, _⟩ := row3 ((hSw.block _ (lt_of_block HD2.out)).trans HD2.out)
    go_simp
    try with_reducible rfl
  try simp only [Act.put, List.setIfInBounds_toArray, List.set_cons_zero, List.set_cons_succ]
  refine wpAnyH_ready (rs := [1]) (by kernel_rfl) (by simp) ?_
  refine AllReadyH.cons (o := { dst := some 6, op := Op.call { callee := Callee.value (Operand.func 41), args := #[Operand.tmp 5], argTypes := #[23] }, type := 3, pos := "dec.go:187", after := #[{ on := 0, ground := Ground.data }], guard := none }) rfl (fun K hK => ?_) AllReadyH.nil
  go_simp
  with_reducible refine (HH1.out _).mono ?_
  rintro e w1 ⟨rfl, hb⟩
  have hT1 : (fun W : World => Below wd.heap.size wd W) w1 := hT.trans (hb.mono hT.size)
  refine hK.out _ _ hT1 (fun _ => ?_)
  clear hK K hb
  try simp only [Act.put, List.setIfInBounds_toArray, List.set_cons_zero, List.set_cons_succ]
  refine wpAnyH_ready (rs := [3]) (by kernel_rfl) (by simp) ?_
  refine AllReadyH.cons (o := { dst := some 8, op := Op.call { callee := Callee.value (Operand.func 41), args := #[Operand.tmp 7], argTypes := #[23] }, type := 3, pos := "dec.go:187", after := #[{ on := 2, ground := Ground.data }, { on := 1, ground := Ground.chain }], guard := none }) rfl (fun K hK => ?_) AllReadyH.nil
  go_simp
  with_reducible refine (HH2.out _).mono ?_
  rintro e w2 ⟨rfl, hb⟩
  have hT2 : (fun W : World => Below wd.heap.size wd W) w2 := hT1.trans (hb.mono hT1.size)
  refine hK.out _ _ hT2 (fun _ => ?_)
  clear hK K hb
  try simp only [Act.put, List.setIfInBounds_toArray, List.set_cons_zero, List.set_cons_succ]
  refine wpAnyH_ready (rs := [4]) (by kernel_rfl) (by simp) ?_
  refine AllReadyH.cons (o := { dst := some 9, op := Op.call { callee := Callee.value (Operand.func 37), args := #[Operand.tmp 6, Operand.tmp 8], argTypes := #[3, 3] }, type := 3, pos := "dec.go:187", after := #[{ on := 1, ground := Ground.data }, { on := 3, ground := Ground.data }, { on := 3, ground := Ground.chain }], guard := none }) rfl (fun K hK => ?_) AllReadyH.nil
  go_simp
  with_reducible refine (HC.out _).mono ?_
  rintro e w3 ⟨rfl, rfl⟩
  refine hK.out _ _ hT2 (fun _ => ?_)
  clear hK K
  try simp only [Act.put, List.setIfInBounds_toArray, List.set_cons_zero, List.set_cons_succ]
  refine wpAnyH_ready (rs := [9]) (by kernel_rfl) (by simp) ?_
  refine AllReadyH.cons (o := { dst := some 14, op := Op.call { callee := Callee.value (Operand.func 45), args := #[Operand.tmp 11, Operand.tmp 13], argTypes := #[9, 9] }, type := 3, pos := "dec.go:187", after := #[{ on := 6, ground := Ground.data }, { on := 8, ground := Ground.data }, { on := 4, ground := Ground.chain }], guard := none }) rfl (fun K hK => ?_) AllReadyH.nil
  go_simp
  with_reducible refine (HX.out _).mono ?_
  rintro e w4 ⟨rfl, rfl⟩
  refine hK.out _ _ hT2 (fun _ => ?_)
  clear hK K
  try simp only [Act.put, List.setIfInBounds_toArray, List.set_cons_zero, List.set_cons_succ]
  refine wpAnyH_ready (rs := [10]) (by kernel_rfl) (by simp) ?_
  refine AllReadyH.cons (o := { dst := some 15, op := Op.buildSlice 65 2 #[(0, Operand.tmp 9), (1, Operand.tmp 14)], type := 65, pos := "dec.go:187", after := #[{ on := 4, ground := Ground.data }, { on := 9, ground := Ground.data }], guard := none }) rfl (fun K hK => ?_) AllReadyH.nil
  go_simp
  have hT5 : (fun W : World => Below wd.heap.size wd W) (w4.alloc (.cells #[.int .i64 cc, .int .i64 cx] 3)) := hT2.alloc hT2.size _
  have HN := Lib.hid (heap_alloc_new w4 (.cells #[.int .i64 cc, .int .i64 cx] 3))
  generalize w4.alloc (.cells #[.int .i64 cc, .int .i64 cx] 3) = w5 at hT5 HN ⊢
  refine hK.out _ _ hT5 (fun _ => ?_)
  clear hK K
  try simp only [Act.put, List.setIfInBounds_toArray, List.set_cons_zero, List.set_cons_succ]
  refine wpAnyH_ready (rs := [11]) (by kernel_rfl) (by simp) ?_
  refine AllReadyH.cons (o := { dst := some 16, op := Op.call { callee := Callee.value (Operand.func 44), args := #[Operand.tmp 15], argTypes := #[65] }, type := 3, pos := "dec.go:187", after := #[{ on := 10, ground := Ground.data }, { on := 9, ground := Ground.chain }], guard := none }) rfl (fun K hK => ?_) AllReadyH.nil
  go_simp
  with_reducible refine (HO.out w5 w4.heap.size HN.out).mono ?_
  rintro e w6 ⟨rfl, rfl⟩
  refine hK.out _ _ hT5 (fun _ => ?_)
  clear hK K
  try simp only [Act.put, List.setIfInBounds_toArray, List.set_cons_zero, List.set_cons_succ]
  refine wpAnyH_take (i := 12) (oi := { dst := some 4, op := Op.assign (Operand.tmp 16), type := 3, pos := "dec.go:187", after := #[{ on := 11, ground := Ground.data }, { on := 11, ground := Ground.chain }, { on := 0, ground := Ground.phase }, { on := 1, ground := Ground.phase }, { on := 2, ground := Ground.phase }, { on := 3, ground := Ground.phase }, { on := 4, ground := Ground.phase }, { on := 5, ground := Ground.phase }, { on := 6, ground := Ground.phase }, { on := 7, ground := Ground.phase }, { on := 8, ground := Ground.phase }, { on := 9, ground := Ground.phase }, { on := 10, ground := Ground.phase }, { on := 11, ground := Ground.phase }], guard := none }) (v := ?_) rfl (by kernel_rfl) (by kernel_rfl) (by kernel_rfl) (fun _ _ _ h => h) (Or.inl ⟨by rfl, ?_⟩) (by assumption) ?_
  rotate_left
  · intro w hSw
    try dsimp only at hSw
    go_simp
    try with_reducible rfl
  try simp only [Act.put, List.setIfInBounds_toArray, List.set_cons_zero, List.set_cons_succ]
  refine wpAnyH_done (by kernel_rfl) ?_ _
  have HE := Lib.hid (HBd.out.trans (hT5.mono HBd.out.size))
  clear hT hT1 hT2 hT5 HD1 HD2 HN HC HX HH1 HH2 HBd
  go_wp2_with fail
  go_ret
  exact ⟨rfl, HE.out⟩
end Go.Proofs.YtpnhgggdjlglnaaDoor.dk
