/- merged: up to its loop. -/
import Derived.Test.YtpnhgggdjlglnaaDoorAA
import Derived.Deep.DeepCutAuto
import Derived.Deep.CutBlock
namespace Go.Proofs.YtpnhgggdjlglnaaDoor.dk
open Go.PlainAid Go.ChangeShapes Go.WideShapes Go.ChangeAt Go.RowKit

/-- The digits of a sum, or of a difference. -/
def mdig (d1 d2 : ByteArray) (e1 e2 t : Int) : List Int := (msum (fun p => dat (unstr d1) e1 p + t * dat (unstr d2) e2 p) (min e1 e2) (max ((d1.size : Int) + e1) ((d2.size : Int) + e2) - min e1 e2 + 1).toNat).2
theorem own_spot {w : World} {B : Nat} {t : TypeId} {g n c : Nat} {xs : List Value} (h : w.ownsRow B t 1 (.slice (some ⟨g, 0, none⟩) n c) n xs) (i : Nat) : w.frozen? ⟨g, i, none⟩ = false := by
  rcases h.2 with ⟨hv, _⟩ | ⟨g', cap, cur, hv, hg, hh, hn, hcm, hcs, ht⟩
  · cases hv
  · injection hv with h1 h2 h3
    have hgg : g' = g := by injection h1 with h1; injection h1 with h1 _ _; exact h1.symm
    subst hgg
    exact frozen_of_row _ _ _ _ _ hh
theorem strOf_len (l : List Int) : (strOf l).size = l.length := strOf_size l
set_option maxRecDepth 100000 in
set_option maxHeartbeats 2000000 in
theorem merged_any (w : World) (n1 n2 : Bool) (d1 d2 : ByteArray) (e1 e2 t : Int) (ht : t = 1 ∨ t = -1) (hd1 : ∀ x ∈ unstr d1, isDig x = true) (hd2 : ∀ x ∈ unstr d2, isDig x = true) (s1 : d1.size ≤ 40) (s2 : d2.size ≤ 40) (b1 : -1000 ≤ e1) (b2 : e1 ≤ 1000) (b3 : -1000 ≤ e2) (b4 : e2 ≤ 1000) :
    Calls Tryd.prog 25 #[.agg #[.bool n1, .string d1, .int .i64 e1], .agg #[.bool n2, .string d2, .int .i64 e2], .int .i64 t] w fun e w' => e = .returned (.agg (fmd n1 (strOf (mdig d1 d2 e1 e2 t)) (min e1 e2))) ∧ Below w.heap.size w w' := by
  obtain ⟨wa, hwa⟩ : ∃ wa, wa = ((w.alloc (.cells #[.bool n1, .string d1, .int .i64 e1] 23)).alloc (.cells #[.bool n2, .string d2, .int .i64 e2] 23)).alloc (.cells #[.bool false, .string ⟨#[]⟩, .int .i64 0] 23) := ⟨_, rfl⟩
  have r1 : wa.heap[w.heap.size]? = some (.cells #[.bool n1, .string d1, .int .i64 e1] 23 (0, 0)) := by
    rw [hwa]
    exact alloc_old _ (alloc_old _ (heap_alloc_new _ _))
  have r2 : wa.heap[w.heap.size + 1]? = some (.cells #[.bool n2, .string d2, .int .i64 e2] 23 (0, 0)) := by
    rw [hwa]
    have := heap_alloc_new (w.alloc (.cells #[.bool n1, .string d1, .int .i64 e1] 23)) (.cells #[.bool n2, .string d2, .int .i64 e2] 23)
    rw [World.size_alloc] at this
    exact alloc_old _ this
  have r3 : wa.heap[w.heap.size + 1 + 1]? = some (.cells #[.bool false, .string ⟨#[]⟩, .int .i64 0] 23 (0, 0)) := by
    rw [hwa]
    have := heap_alloc_new ((w.alloc (.cells #[.bool n1, .string d1, .int .i64 e1] 23)).alloc (.cells #[.bool n2, .string d2, .int .i64 e2] 23)) (.cells #[.bool false, .string ⟨#[]⟩, .int .i64 0] 23)
    rw [World.size_alloc, World.size_alloc] at this
    exact this
  have hB : Below w.heap.size w wa := by
    rw [hwa]
    exact (((Below.refl _ _).alloc (Nat.le_refl _) _).alloc (by rw [World.size_alloc]; omega) _).alloc (by rw [World.size_alloc, World.size_alloc]; omega) _
  have HW := Lib.hid hwa
  have HR1 := Lib.hid r1
  have HR2 := Lib.hid r2
  have HB := Lib.hid hB
  have HR3 := Lib.hid r3
  have HG1 := Lib.hid hd1
  have HG2 := Lib.hid hd2
  have HTt := Lib.hid ht
  have hFm := fun v => formed_any v n1 (strOf (mdig d1 d2 e1 e2 t)) (min e1 e2) (by rw [strOf_len]; unfold mdig; rw [msum_len]; omega) (by omega) (by omega)
  rw [fmd_eq] at hFm ⊢
  generalize ho : strOf (mdig d1 d2 e1 e2 t) = os at hFm ⊢
  have HOs := Lib.hid ho
  clear ho
  generalize fneg n1 os = en at hFm ⊢
  generalize fdig os = ed at hFm ⊢
  generalize fexp os (min e1 e2) = ee at hFm ⊢
  have HFm := Lib.hid hFm
  clear hFm
  clear hd1 hd2 ht r3
  obtain ⟨⟨x0, x1, x2⟩, _⟩ := row3 r1
  obtain ⟨⟨y0, y1, y2⟩, _⟩ := row3 r2
  clear hwa r1 r2 hB
  go_enter Tryd.func25, Tryd.ntmps25
  go_upto_region 1 with fail
  rw [← HW.out]
  have hbd : Below wa.heap.size wa wa.drew := (Below.refl _ _).drew
  have HBd := Lib.hid (HB.out.trans (hbd.mono HB.out.size))
  have HD1 := Lib.hid ((hbd.block _ (lt_of_block HR1.out)).trans HR1.out)
  have HD2 := Lib.hid ((hbd.block _ (lt_of_block HR2.out)).trans HR2.out)
  have HD3 := Lib.hid ((hbd.block _ (lt_of_block HR3.out)).trans HR3.out)
  have hT : (fun W : World => Below wa.drew.heap.size wa.drew W) wa.drew := Below.refl _ _
  clear hbd HB HR1 HR2 HR3 x0 x1 x2 y0 y1 y2 HW
  refine wp_region_held_drew (S := (fun W : World => Below wa.drew.heap.size wa.drew W)) (by kernel_rfl) hT (fun hHeld => ?_)
  clear hHeld
  generalize wa.drew = wd at HBd HD1 HD2 HD3 hT ⊢
  refine wpAnyH_take (i := 0) (oi := { dst := some 15, op := Op.fieldAddr 23 (Operand.tmp 3) 2, type := 0, pos := "dec.go:221", after := #[], guard := none }) (v := ?_) rfl (by kernel_rfl) (by kernel_rfl) (by kernel_rfl) (fun _ _ _ h => h) (Or.inl ⟨by rfl, ?_⟩) (by assumption) ?_
  rotate_left
  · intro w hSw
    try dsimp only at hSw
    go_simp
    try with_reducible rfl
  try simp only [Act.put, List.setIfInBounds_toArray, List.set_cons_zero, List.set_cons_succ]
  refine wpAnyH_take (i := 1) (oi := { dst := some 16, op := Op.load 3 (Operand.tmp 15), type := 3, pos := "dec.go:221", after := #[{ on := 0, ground := Ground.data }], guard := none }) (v := ?_) rfl (by kernel_rfl) (by kernel_rfl) (by kernel_rfl) (fun _ _ _ h => h) (Or.inl ⟨by rfl, ?_⟩) (by assumption) ?_
  rotate_left
  · intro w hSw
    try dsimp only at hSw
    obtain ⟨⟨c0, c1, c2⟩, _⟩ := row3 ((hSw.block _ (lt_of_block HD1.out)).trans HD1.out)
    go_simp
    try with_reducible rfl
  try simp only [Act.put, List.setIfInBounds_toArray, List.set_cons_zero, List.set_cons_succ]
  refine wpAnyH_take (i := 2) (oi := { dst := some 17, op := Op.fieldAddr 23 (Operand.tmp 4) 2, type := 0, pos := "dec.go:221", after := #[], guard := none }) (v := ?_) rfl (by kernel_rfl) (by kernel_rfl) (by kernel_rfl) (fun _ _ _ h => h) (Or.inl ⟨by rfl, ?_⟩) (by assumption) ?_
  rotate_left
  · intro w hSw
    try dsimp only at hSw
    go_simp
    try with_reducible rfl
  try simp only [Act.put, List.setIfInBounds_toArray, List.set_cons_zero, List.set_cons_succ]
  refine wpAnyH_take (i := 3) (oi := { dst := some 18, op := Op.load 3 (Operand.tmp 17), type := 3, pos := "dec.go:221", after := #[{ on := 2, ground := Ground.data }], guard := none }) (v := ?_) rfl (by kernel_rfl) (by kernel_rfl) (by kernel_rfl) (fun _ _ _ h => h) (Or.inl ⟨by rfl, ?_⟩) (by assumption) ?_
  rotate_left
  · intro w hSw
    try dsimp only at hSw
    obtain ⟨⟨c0, c1, c2⟩, _⟩ := row3 ((hSw.block _ (lt_of_block HD2.out)).trans HD2.out)
    go_simp
    try with_reducible rfl
  try simp only [Act.put, List.setIfInBounds_toArray, List.set_cons_zero, List.set_cons_succ]
  refine wpAnyH_take (i := 4) (oi := { dst := some 19, op := Op.call { callee := Callee.builtin Builtin.min, args := #[Operand.tmp 16, Operand.tmp 18], argTypes := #[3, 3] }, type := 3, pos := "dec.go:221", after := #[{ on := 1, ground := Ground.data }, { on := 3, ground := Ground.data }], guard := none }) (v := ?_) rfl (by kernel_rfl) (by kernel_rfl) (by kernel_rfl) (fun _ _ _ h => h) (Or.inl ⟨by rfl, ?_⟩) (by assumption) ?_
  rotate_left
  · intro w hSw
    try dsimp only at hSw
    go_simp
    try with_reducible rfl
  try simp only [Act.put, List.setIfInBounds_toArray, List.set_cons_zero, List.set_cons_succ]
  refine wpAnyH_take (i := 5) (oi := { dst := some 20, op := Op.load 23 (Operand.tmp 3), type := 23, pos := "dec.go:221", after := #[], guard := none }) (v := ?_) rfl (by kernel_rfl) (by kernel_rfl) (by kernel_rfl) (fun _ _ _ h => h) (Or.inl ⟨by rfl, ?_⟩) (by assumption) ?_
  rotate_left
  · intro w hSw
    try dsimp only at hSw
    obtain ⟨⟨c0, c1, c2⟩, _⟩ := row3 ((hSw.block _ (lt_of_block HD1.out)).trans HD1.out)
    go_simp
    try with_reducible rfl
  try simp only [Act.put, List.setIfInBounds_toArray, List.set_cons_zero, List.set_cons_succ]
  refine wpAnyH_take (i := 7) (oi := { dst := some 22, op := Op.load 23 (Operand.tmp 4), type := 23, pos := "dec.go:221", after := #[], guard := none }) (v := ?_) rfl (by kernel_rfl) (by kernel_rfl) (by kernel_rfl) (fun _ _ _ h => h) (Or.inl ⟨by rfl, ?_⟩) (by assumption) ?_
  rotate_left
  · intro w hSw
    try dsimp only at hSw
    obtain ⟨⟨c0, c1, c2⟩, _⟩ := row3 ((hSw.block _ (lt_of_block HD2.out)).trans HD2.out)
    go_simp
    try with_reducible rfl
  try simp only [Act.put, List.setIfInBounds_toArray, List.set_cons_zero, List.set_cons_succ]
  refine wpAnyH_ready (rs := [6]) (by kernel_rfl) (by simp) ?_
  refine AllReadyH.cons (o := { dst := some 21, op := Op.call { callee := Callee.value (Operand.func 41), args := #[Operand.tmp 20], argTypes := #[23] }, type := 3, pos := "dec.go:221", after := #[{ on := 5, ground := Ground.data }], guard := none }) rfl (fun K hK => ?_) AllReadyH.nil
  go_simp
  with_reducible refine (height_any wd n1 d1 e1 (by omega) (by omega) (by omega)).mono ?_
  rintro e w4 ⟨rfl, hb⟩
  have hT4 : (fun W : World => Below wd.heap.size wd W) w4 := hT.trans (hb.mono hT.size)
  refine hK.out _ _ hT4 (fun _ => ?_)
  clear hK K hb
  try simp only [Act.put, List.setIfInBounds_toArray, List.set_cons_zero, List.set_cons_succ]
  refine wpAnyH_ready (rs := [8]) (by kernel_rfl) (by simp) ?_
  refine AllReadyH.cons (o := { dst := some 23, op := Op.call { callee := Callee.value (Operand.func 41), args := #[Operand.tmp 22], argTypes := #[23] }, type := 3, pos := "dec.go:221", after := #[{ on := 7, ground := Ground.data }, { on := 6, ground := Ground.chain }], guard := none }) rfl (fun K hK => ?_) AllReadyH.nil
  go_simp
  with_reducible refine (height_any w4 n2 d2 e2 (by omega) (by omega) (by omega)).mono ?_
  rintro e w5 ⟨rfl, hb⟩
  have hT5 : (fun W : World => Below wd.heap.size wd W) w5 := hT4.trans (hb.mono hT4.size)
  refine hK.out _ _ hT5 (fun _ => ?_)
  clear hK K hb
  try simp only [Act.put, List.setIfInBounds_toArray, List.set_cons_zero, List.set_cons_succ]
  refine wpAnyH_take (i := 9) (oi := { dst := some 24, op := Op.call { callee := Callee.builtin Builtin.max, args := #[Operand.tmp 21, Operand.tmp 23], argTypes := #[3, 3] }, type := 3, pos := "dec.go:221", after := #[{ on := 6, ground := Ground.data }, { on := 8, ground := Ground.data }], guard := none }) (v := ?_) rfl (by kernel_rfl) (by kernel_rfl) (by kernel_rfl) (fun _ _ _ h => h) (Or.inl ⟨by rfl, ?_⟩) (by assumption) ?_
  rotate_left
  · intro w hSw
    try dsimp only at hSw
    go_simp
    try with_reducible rfl
  try simp only [Act.put, List.setIfInBounds_toArray, List.set_cons_zero, List.set_cons_succ]
  refine wpAnyH_take (i := 10) (oi := { dst := some 7, op := Op.assign (Operand.tmp 19), type := 3, pos := "dec.go:221", after := #[{ on := 4, ground := Ground.data }, { on := 8, ground := Ground.chain }, { on := 0, ground := Ground.phase }, { on := 1, ground := Ground.phase }, { on := 2, ground := Ground.phase }, { on := 3, ground := Ground.phase }, { on := 4, ground := Ground.phase }, { on := 5, ground := Ground.textOnly Departure.lateStores }, { on := 6, ground := Ground.textOnly Departure.lateStoresUnsure }, { on := 7, ground := Ground.textOnly Departure.lateStores }, { on := 8, ground := Ground.textOnly Departure.lateStoresUnsure }, { on := 9, ground := Ground.textOnly Departure.lateStoresUnsure }], guard := none }) (v := ?_) rfl (by kernel_rfl) (by kernel_rfl) (by kernel_rfl) (fun _ _ _ h => h) (Or.inl ⟨by rfl, ?_⟩) (by assumption) ?_
  rotate_left
  · intro w hSw
    try dsimp only at hSw
    go_simp
    try with_reducible rfl
  try simp only [Act.put, List.setIfInBounds_toArray, List.set_cons_zero, List.set_cons_succ]
  refine wpAnyH_take (i := 11) (oi := { dst := some 8, op := Op.assign (Operand.tmp 24), type := 3, pos := "dec.go:221", after := #[{ on := 9, ground := Ground.data }, { on := 10, ground := Ground.chain }, { on := 0, ground := Ground.phase }, { on := 1, ground := Ground.phase }, { on := 2, ground := Ground.phase }, { on := 3, ground := Ground.phase }, { on := 4, ground := Ground.phase }, { on := 5, ground := Ground.phase }, { on := 6, ground := Ground.phase }, { on := 7, ground := Ground.phase }, { on := 8, ground := Ground.phase }, { on := 9, ground := Ground.phase }, { on := 10, ground := Ground.phase }], guard := none }) (v := ?_) rfl (by kernel_rfl) (by kernel_rfl) (by kernel_rfl) (fun _ _ _ h => h) (Or.inl ⟨by rfl, ?_⟩) (by assumption) ?_
  rotate_left
  · intro w hSw
    try dsimp only at hSw
    go_simp
    try with_reducible rfl
  try simp only [Act.put, List.setIfInBounds_toArray, List.set_cons_zero, List.set_cons_succ]
  refine wpAnyH_done (by kernel_rfl) ?_ _
  have HB5 := Lib.hid (HBd.out.trans (hT5.mono HBd.out.size))
  have HR1 := Lib.hid ((hT5.block _ (lt_of_block HD1.out)).trans HD1.out)
  have HR2 := Lib.hid ((hT5.block _ (lt_of_block HD2.out)).trans HD2.out)
  have HR3 := Lib.hid ((hT5.block _ (lt_of_block HD3.out)).trans HD3.out)
  clear hT hT4 hT5 HBd HD1 HD2 HD3
  generalize hlo : min e1 e2 = lo
  generalize hhi : max ((d1.size : Int) + e1) ((d2.size : Int) + e2) = hi
  go_upto_region 2 with fail
  have hbd : Below w5.heap.size w5 w5.drew := (Below.refl _ _).drew
  have HBd := Lib.hid (HB5.out.trans (hbd.mono HB5.out.size))
  have HD1 := Lib.hid ((hbd.block _ (lt_of_block HR1.out)).trans HR1.out)
  have HD2 := Lib.hid ((hbd.block _ (lt_of_block HR2.out)).trans HR2.out)
  have HD3 := Lib.hid ((hbd.block _ (lt_of_block HR3.out)).trans HR3.out)
  have hT : (fun W : World => Below w5.drew.heap.size w5.drew W) w5.drew := Below.refl _ _
  clear hbd HB5 HR1 HR2 HR3
  refine wp_region_held_drew (S := (fun W : World => Below w5.drew.heap.size w5.drew W)) (by kernel_rfl) hT (fun hHeld => ?_)
  clear hHeld
  generalize w5.drew = wd at HBd HD1 HD2 HD3 hT ⊢
  refine wpAnyH_take (i := 0) (oi := { dst := some 25, op := Op.load 23 (Operand.tmp 3), type := 23, pos := "dec.go:222", after := #[], guard := none }) (v := ?_) rfl (by kernel_rfl) (by kernel_rfl) (by kernel_rfl) (fun _ _ _ h => h) (Or.inl ⟨by rfl, ?_⟩) (by assumption) ?_
  rotate_left
  · intro w hSw
    try dsimp only at hSw
    obtain ⟨⟨c0, c1, c2⟩, _⟩ := row3 ((hSw.block _ (lt_of_block HD1.out)).trans HD1.out)
    go_simp
    try with_reducible rfl
  try simp only [Act.put, List.setIfInBounds_toArray, List.set_cons_zero, List.set_cons_succ]
  refine wpAnyH_take (i := 2) (oi := { dst := some 27, op := Op.load 23 (Operand.tmp 4), type := 23, pos := "dec.go:222", after := #[], guard := none }) (v := ?_) rfl (by kernel_rfl) (by kernel_rfl) (by kernel_rfl) (fun _ _ _ h => h) (Or.inl ⟨by rfl, ?_⟩) (by assumption) ?_
  rotate_left
  · intro w hSw
    try dsimp only at hSw
    obtain ⟨⟨c0, c1, c2⟩, _⟩ := row3 ((hSw.block _ (lt_of_block HD2.out)).trans HD2.out)
    go_simp
    try with_reducible rfl
  try simp only [Act.put, List.setIfInBounds_toArray, List.set_cons_zero, List.set_cons_succ]
  refine wpAnyH_ready (rs := [1]) (by kernel_rfl) (by simp) ?_
  refine AllReadyH.cons (o := { dst := some 26, op := Op.call { callee := Callee.value (Operand.func 34), args := #[Operand.tmp 25], argTypes := #[23] }, type := 48, pos := "dec.go:222", after := #[{ on := 0, ground := Ground.data }], guard := none }) rfl (fun K hK => ?_) AllReadyH.nil
  go_simp
  with_reducible refine (digitsOf_any wd n1 d1 e1 (by omega) (by omega) (by omega)).mono ?_
  rintro e w6 ⟨g1, h1, rfl, lg1, lh1, rg1, rh1, hb⟩
  have hT6 : (fun W : World => Below wd.heap.size wd W) w6 := hT.trans (hb.mono hT.size)
  have HQ1 := Lib.hid (And.intro rg1 rh1)
  have HLo1 := Lib.hid (And.intro lg1 lh1)
  have HBB1 := Lib.hid hb
  refine hK.out _ _ hT6 (fun _ => ?_)
  clear hK K hb rg1 rh1 lg1 lh1
  try simp only [Act.put, List.setIfInBounds_toArray, List.set_cons_zero, List.set_cons_succ]
  refine wpAnyH_ready (rs := [3]) (by kernel_rfl) (by simp) ?_
  refine AllReadyH.cons (o := { dst := some 28, op := Op.call { callee := Callee.value (Operand.func 34), args := #[Operand.tmp 27], argTypes := #[23] }, type := 48, pos := "dec.go:222", after := #[{ on := 2, ground := Ground.data }, { on := 1, ground := Ground.chain }], guard := none }) rfl (fun K hK => ?_) AllReadyH.nil
  go_simp
  with_reducible refine (digitsOf_any w6 n2 d2 e2 (by omega) (by omega) (by omega)).mono ?_
  rintro e w7 ⟨g2, h2, rfl, lg2, lh2, rg2, rh2, hb⟩
  have hT7 : (fun W : World => Below wd.heap.size wd W) w7 := hT6.trans (hb.mono hT6.size)
  have HQ2 := Lib.hid (And.intro rg2 rh2)
  have HLo2 := Lib.hid (And.intro lg2 lh2)
  have HBB2 := Lib.hid hb
  refine hK.out _ _ hT7 (fun _ => ?_)
  clear hK K hb rg2 rh2 lg2 lh2
  try simp only [Act.put, List.setIfInBounds_toArray, List.set_cons_zero, List.set_cons_succ]
  refine wpAnyH_take (i := 4) (oi := { dst := some 9, op := Op.assign (Operand.tmp 26), type := 48, pos := "dec.go:222", after := #[{ on := 1, ground := Ground.data }, { on := 3, ground := Ground.chain }, { on := 0, ground := Ground.phase }, { on := 1, ground := Ground.phase }, { on := 2, ground := Ground.textOnly Departure.lateStores }, { on := 3, ground := Ground.textOnly Departure.lateStoresUnsure }], guard := none }) (v := ?_) rfl (by kernel_rfl) (by kernel_rfl) (by kernel_rfl) (fun _ _ _ h => h) (Or.inl ⟨by rfl, ?_⟩) (by assumption) ?_
  rotate_left
  · intro w hSw
    try dsimp only at hSw
    go_simp
    try with_reducible rfl
  try simp only [Act.put, List.setIfInBounds_toArray, List.set_cons_zero, List.set_cons_succ]
  refine wpAnyH_take (i := 5) (oi := { dst := some 10, op := Op.assign (Operand.tmp 28), type := 48, pos := "dec.go:222", after := #[{ on := 3, ground := Ground.data }, { on := 4, ground := Ground.chain }, { on := 0, ground := Ground.phase }, { on := 1, ground := Ground.phase }, { on := 2, ground := Ground.phase }, { on := 3, ground := Ground.phase }, { on := 4, ground := Ground.phase }], guard := none }) (v := ?_) rfl (by kernel_rfl) (by kernel_rfl) (by kernel_rfl) (fun _ _ _ h => h) (Or.inl ⟨by rfl, ?_⟩) (by assumption) ?_
  rotate_left
  · intro w hSw
    try dsimp only at hSw
    go_simp
    try with_reducible rfl
  try simp only [Act.put, List.setIfInBounds_toArray, List.set_cons_zero, List.set_cons_succ]
  refine wpAnyH_done (by kernel_rfl) ?_ _
  have HB7 := Lib.hid (HBd.out.trans (hT7.mono HBd.out.size))
  have HR1 := Lib.hid ((hT7.block _ (lt_of_block HD1.out)).trans HD1.out)
  have HR3 := Lib.hid ((hT7.block _ (lt_of_block HD3.out)).trans HD3.out)
  have hq1 := (HBB2.out.block _ (lt_of_block HQ1.out.1)).trans HQ1.out.1
  have hb1 : Boxed w7 h1 3 (.int .i64 ((d1.size : Int) + e1)) := (HBB2.out.block _ HQ1.out.2.lt).trans HQ1.out.2
  have HA := Lib.hid (And.intro hq1 hb1)
  clear hT hT6 hT7 HBd HD1 HD2 HD3 HBB1 HBB2 hq1 hb1 HQ1
  obtain ⟨m, hm⟩ : ∃ m : Nat, (m : Int) = hi - lo + 1 := ⟨(hi - lo + 1).toNat, by omega⟩
  have wl1 : IntKind.i64.wrap (hi - lo) = hi - lo := by rw [IntKind.wrap_i64]; omega
  have wl2 : IntKind.i64.wrap (hi - lo + 1) = hi - lo + 1 := by rw [IntKind.wrap_i64]; omega
  obtain ⟨iu, hiu, hz8, hs8, hb8⟩ : ∃ i, Tryd.prog.info? 5 = some i ∧ i.zero = some (.int .u8 0) ∧ i.size = 1 ∧ i.bytes = 1 := by
    have h := infoU8
    cases hq : Tryd.prog.info? 5 with
    | none => rw [hq] at h; cases h
    | some i =>
      rw [hq] at h
      injection h with h
      injection h with h1 h
      injection h with h2 h3
      exact ⟨i, rfl, h1, h2, h3⟩
  have HIu := Lib.hid (And.intro hiu (And.intro hz8 (And.intro hs8 hb8)))
  have hm9 : m ≤ 5000 := by omega
  clear hiu hz8 hs8 hb8
  go_wp2_with (at_make; refine wpList_make_full w7 rfl _ _ 50 rfl w.heap.size 5 iu (.int .u8 0) 1 Tryd.underlying50 HIu.out.1 HIu.out.2.1 HIu.out.2.2.1 .i64 .i64 (hi - lo + 1) (hi - lo + 1) m rfl rfl hm.symm hm.symm (by rw [HIu.out.2.2.2]; omega) (by unfold maxLen; omega) HB7.out.size ?_; intro w8 ho8 hg8)
  have bk : ∀ {k : Nat} {o : Obj}, w7.heap[k]? = some o → w8.heap[k]? = some o := fun h => (hg8.block _ (lt_of_block h) (fun e => by cases e)).trans h
  have hMI : MI w n1 n2 d1 d2 e1 e2 g1 h1 g2 h2 w7.heap.size m (List.replicate (m - 0) 0 ++ []) w8 := ⟨by rw [Nat.sub_zero, List.append_nil, ← made_zero]; exact ho8, bk HR1.out, bk HR3.out, bk HA.out.1, bk HA.out.2, bk HQ2.out.1, bk HQ2.out.2, HB7.out.grown hg8 HB7.out.size (fun k e => by cases e), lt_of_block HR3.out, lt_of_block HA.out.1, HA.out.2.lt, lt_of_block HQ2.out.1, HQ2.out.2.lt⟩
  have HM := Lib.hid hMI
  have hmd : mdig d1 d2 e1 e2 t = (msum (fun p => dat (unstr d1) e1 p + t * dat (unstr d2) e2 p) lo m).2 := by
    unfold mdig
    rw [hlo, hhi, show (hi - lo + 1).toNat = m by omega]
  obtain ⟨f, hff⟩ : ∃ f : Int → Int, f = fun p => dat (unstr d1) e1 p + t * dat (unstr d2) e2 p := ⟨_, rfl⟩
  rw [← hff] at hmd
  rw [hlo] at HFm
  have HO := Lib.hid (show strOf (msum f lo m).2 = os by rw [← hmd]; exact HOs.out)
  clear hmd
  have hf : ∀ p, f p = dat (unstr d1) e1 p + t * dat (unstr d2) e2 p := fun p => by rw [hff]
  have HF := Lib.hid hf
  have hfr : ∀ p, -9 ≤ f p ∧ f p ≤ 18 := fun p => by
    have q1 := dat_range (unstr d1) e1 p HG1.out
    have q2 := dat_range (unstr d2) e2 p HG2.out
    rw [hf p]
    rcases HTt.out with rfl | rfl <;> omega
  have HFr := Lib.hid hfr
  generalize w7.heap.size = G at HM ⊢
  clear ho8 hg8 bk hMI hf hfr hff HR1 HR3 HA HQ2 HB7 HLo1 HLo2 HIu
  have HMm := Lib.hid hm
  clear hm
  go_loopw [12, 13] (fun c p wr => ∃ j : Nat, j ≤ m ∧ c = .int .i64 (msum f lo j).1 ∧ p = .int .i64 (lo + j) ∧ Hid (MI w n1 n2 d1 d2 e1 e2 g1 h1 g2 h2 G m (List.replicate (m - j) 0 ++ (msum f lo j).2) wr)) (fun _ p _ => (hi + 1 - intOf p).toNat)
  case atStart => exact ⟨0, Nat.zero_le _, rfl, by go_num, HM⟩
  case round =>
    obtain ⟨j, hj, rfl, rfl, HI⟩ := hrel
    have hm := HMm.out
    by_cases hjm : j < m
    · have D1 := Lib.hid (dat_any _ g1 h1 n1 d1 e1 (lo + j) HG1.out (by omega) (by omega) (by omega) (by omega) (by omega) HI.out.r1 HI.out.k1)
      have D2 := Lib.hid (dat_any _ g2 h2 n2 d2 e2 (lo + j) HG2.out (by omega) (by omega) (by omega) (by omega) (by omega) HI.out.r2 HI.out.k2)
      have dle : decide (lo + (j : Int) ≤ hi) = true := decide_eq_true (by omega)
      have q1 := dat_range (unstr d1) e1 (lo + j) HG1.out
      have q2 := dat_range (unstr d2) e2 (lo + j) HG2.out
      have qc := msum_carry f lo HFr.out j
      have hM1 : msum f lo (j + 1) = ((f (lo + j) + (msum f lo j).1 + 10) / 10 - 1, (48 + (f (lo + j) + (msum f lo j).1 + 10) % 10) :: (msum f lo j).2) := rfl
      rw [HF.out (lo + j)] at hM1
      generalize dat (unstr d1) e1 (lo + j) = da at *
      generalize dat (unstr d2) e2 (lo + j) = db at *
      obtain ⟨y, hy⟩ : ∃ y, t * db = y := ⟨_, rfl⟩
      have hyr : -9 ≤ y ∧ y ≤ 9 := by
        rw [← hy]
        rcases HTt.out with rfl | rfl <;> omega
      have v0 : IntKind.i64.wrap (t * db) = y := by rw [hy, IntKind.wrap_i64]; omega
      rw [hy] at hM1
      have HSt := Lib.hid hM1
      clear hM1 hy
      obtain ⟨cy, hcy⟩ : ∃ cy, (msum f lo j).1 = cy := ⟨_, rfl⟩
      have HCy := Lib.hid hcy
      rw [hcy] at qc HSt ⊢
      clear hcy
      obtain ⟨qq, rr, hq, hr, e10, hrr⟩ : ∃ qq rr : Int, (da + y + cy + 10) / 10 = qq ∧ (da + y + cy + 10) % 10 = rr ∧ da + y + cy + 10 = 10 * qq + rr ∧ 0 ≤ rr ∧ rr ≤ 9 := ⟨_, _, rfl, rfl, by omega, by omega, by omega⟩
      rw [hq, hr] at HSt
      have v1 : IntKind.i64.wrap (da + y) = da + y := by rw [IntKind.wrap_i64]; omega
      have v2 : IntKind.i64.wrap (da + y + cy) = da + y + cy := by rw [IntKind.wrap_i64]; omega
      have v3 : IntKind.i64.wrap (da + y + cy + 10) = da + y + cy + 10 := by rw [IntKind.wrap_i64]; omega
      have v4 : Int.tdiv (da + y + cy + 10) 10 = qq := by rw [Int.tdiv_eq_ediv_of_nonneg (by omega)]; exact hq
      have v5 : Int.tmod (da + y + cy + 10) 10 = rr := by rw [Int.tmod_eq_emod_of_nonneg (by omega)]; exact hr
      have v4w : IntKind.i64.wrap qq = qq := by rw [IntKind.wrap_i64]; omega
      have v5w : IntKind.i64.wrap rr = rr := by rw [IntKind.wrap_i64]; omega
      have v6 : IntKind.i64.wrap (qq - 1) = qq - 1 := by rw [IntKind.wrap_i64]; omega
      have v7 : IntKind.i64.wrap (48 + rr) = 48 + rr := by rw [IntKind.wrap_i64]; omega
      have v8 : IntKind.u8.wrap (48 + rr) = 48 + rr := by rw [IntKind.wrap_u8]; omega
      have v9 : IntKind.i64.wrap (hi - (lo + (j : Int))) = ((m - 1 - j : Nat) : Int) := by rw [IntKind.wrap_i64]; omega
      have va : IntKind.i64.wrap (lo + (j : Int) + 1) = lo + (j : Int) + 1 := by rw [IntKind.wrap_i64]; omega
      have hrd := owned_rd HI.out.own
      have c0 := hrd.cell (m - 1 - j) (by omega)
      rw [Nat.zero_add] at c0
      have f0 := own_spot HI.out.own (m - 1 - j)
      have l1 : ((m - 1 - j : Nat) : Int) < (m : Int) := by omega
      have l2 : m - 1 - j < m := by omega
      have HI2 := Lib.hid (HI.out.put (m - 1 - j) (48 + rr))
      have HE := Lib.hid (show lo + (j : Int) + 1 = lo + ((j + 1 : Nat) : Int) by omega)
      have HM2 := Lib.hid (show (hi + 1 - (lo + ((j + 1 : Nat) : Int))).toNat < (hi + 1 - (lo + (j : Int))).toNat by omega)
      clear hq hr hrd hm HI HFm e10
      go_wp2_with fail
      with_reducible refine D1.out.mono ?_
      rintro e wx ⟨rfl, rfl⟩
      go_wp2_with fail
      with_reducible refine D2.out.mono ?_
      rintro e wx ⟨rfl, rfl⟩
      go_wp2_with fail
      refine ⟨⟨j + 1, by omega, ?_, ?_, ?_⟩, ?_⟩
      · rw [HSt.out]
      · rw [HE.out]
      · have := HI2.out
        rw [row_step m j _ _ hjm] at this
        rw [HSt.out]
        exact this
      · show (hi + 1 - (lo + (j : Int) + 1)).toNat < (hi + 1 - (lo + (j : Int))).toNat
        rw [HE.out]
        exact HM2.out
    · have dle : decide (lo + (j : Int) ≤ hi) = false := decide_eq_false (by omega)
      obtain rfl : j = m := by omega
      have hrd := owned_rd HI.out.own
      rw [Nat.sub_self] at hrd
      have hcv := conv_rd (c := j) hrd
      rw [show List.replicate 0 (0 : Int) ++ (msum f lo j).2 = (msum f lo j).2 from rfl, HO.out] at hcv
      obtain ⟨⟨x0, x1, x2⟩, _⟩ := row3 HI.out.r0
      have HZ := Lib.hid (And.intro HI.out.rz HI.out.below)
      clear hm hrd
      go_wp2_with fail
      with_reducible refine (HFm.out _).mono ?_
      rintro e w9 ⟨rfl, hb9⟩
      have k9 := (hb9.block _ (lt_of_block HZ.out.1)).trans HZ.out.1
      have hb10 := HZ.out.2.trans (hb9.mono HZ.out.2.size)
      obtain ⟨⟨y0, y1, y2⟩, z0, z1, z2⟩ := row3 k9
      have hS := set3 (v0 := .bool en) (v1 := .string ed) (v2 := .int .i64 ee) k9 (by omega) hb10
      have HS := Lib.hid hS
      clear hS k9 hb10 hb9 HZ HFm
      go_wp2_with fail
      refine bodyPost_ret (results_cell_row rfl _ _ (w.heap.size + 1 + 1) _ _ _ _ rfl HS.out.1 Tryd.underlying23 rfl (by kernel_rfl)) rfl ⟨rfl, HS.out.2⟩
end Go.Proofs.YtpnhgggdjlglnaaDoor.dk
