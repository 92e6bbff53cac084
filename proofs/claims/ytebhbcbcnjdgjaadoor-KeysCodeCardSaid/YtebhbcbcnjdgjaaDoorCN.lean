/- A number at the head: the document's answer. -/
import Derived.Test.YtebhbcbcnjdgjaaDoorCL
namespace Go.Proofs.YtebhbcbcnjdgjaaDoor.dk
open Go.PlainAid Go.ChangeShapes Go.WideShapes Go.ChangeAt Go.RowKit

set_option maxHeartbeats 2000000 in
set_option maxRecDepth 100000 in
theorem first_num_false (w : World) (g off n c : Nat) (l : List Int) (hR : Rd w (some ⟨g, off, none⟩) n l) (hy : Bys l) (h1 : 1 ≤ n) (hnc : n ≤ c) (hn : n ≤ 100000) (h16 : ¬ l.getD 0 0 = 16) (h32 : ¬ l.getD 0 0 = 32) (h33 : ¬ l.getD 0 0 = 33) (h49 : ¬ l.getD 0 0 = 49) (h48 : ¬ l.getD 0 0 = 48) (h50 : l.getD 0 0 = 50) :
    Calls Tryd.prog 28 #[.slice (some ⟨g, off, none⟩) n c] w (FPost w (fpart l)) := by
  have hlen := hR.1
  have hbw : Below w.heap.size w (w.alloc (.cells #[.int .i64 0, .bool false, .bool false, .string ⟨#[]⟩, .int .i64 0, .string ⟨#[]⟩, .int .i64 0] 46)) := (Below.refl _ _).alloc (Nat.le_refl _) _
  have hrow := heap_alloc_new w (.cells #[.int .i64 0, .bool false, .bool false, .string ⟨#[]⟩, .int .i64 0, .string ⟨#[]⟩, .int .i64 0] 46)
  have hRa := hR.below hbw
  have a0 := hRa.cell 0 (by omega)
  rw [Nat.add_zero] at a0
  have hi0 : (0 : Int) < (n : Int) := by omega
  have hi0n : 0 < n := h1
  obtain ⟨wa, hwa⟩ : ∃ wa, wa = w.alloc (.cells #[.int .i64 0, .bool false, .bool false, .string ⟨#[]⟩, .int .i64 0, .string ⟨#[]⟩, .int .i64 0] 46) := ⟨_, rfl⟩
  have hsz : wa.heap.size = w.heap.size + 1 := by rw [hwa, box_size]
  have f16 : (l.getD 0 0 == 16) = false := beq_eq_false_iff_ne.2 h16
  have f32 : (l.getD 0 0 == 32) = false := beq_eq_false_iff_ne.2 h32
  have f33 : (l.getD 0 0 == 33) = false := beq_eq_false_iff_ne.2 h33
  have f49 : (l.getD 0 0 == 49) = false := beq_eq_false_iff_ne.2 h49
  have f48 : (l.getD 0 0 == 48) = false := beq_eq_false_iff_ne.2 h48
  rw [h50] at a0
  rw [← hwa] at hrow hbw hRa
  have HBw := Lib.hid hbw
  have HRow := Lib.hid hrow
  have HWa := Lib.hid hwa
  have HSz := Lib.hid hsz
  have hnc' : 1 ≤ c := by omega
  have hnci : (1 : Int) ≤ (n : Int) := by omega
  by_cases hc1 : c = 1
  · subst hc1
    obtain rfl : n = 1 := by omega
    have hd0 : l.drop 1 = [] := List.drop_eq_nil_of_le (by omega)
    have hcut : Rd wa (some ⟨g, off, none⟩) 0 (l.drop 1) := ⟨by rw [hd0]; rfl, fun h => absurd h (by omega)⟩
    have HC := Lib.hid (fun (v : World) (hv : Below wa.heap.size wa v) => number_false v (some ⟨g, off, none⟩) 0 0 (l.drop 1) (hcut.below hv) (hy.drop 1) (by omega))
    cases hT : fsz false (l.drop 1) with
    | none =>
      rw [hT] at HC
      have HFn : Hid (fpart l = none) := Lib.hid (by unfold fpart; rw [if_neg h16, if_neg h32, if_neg h33, if_neg h49, if_neg h48, if_pos h50, fnum_pos l h48, hT]; rfl)
      clear hT hcut hR hRa hbw hrow hwa hsz
      go_enter Tryd.func28, Tryd.ntmps28
      go_upto_region 11 with fail
      rw [← HWa.out] at a0 ⊢
      have hT0 : (fun W : World => W.cell? ⟨g, off, none⟩ = some (.int .u8 50)) wa.drew := a0
      have hgw := World.block_lt_of_cell? _ _ a0
      have HBd := Lib.hid (HBw.out.drew)
      have HRd : Hid (wa.drew.heap[w.heap.size]? = _) := Lib.hid HRow.out
      have HSd : Hid (wa.drew.heap.size = w.heap.size + 1) := Lib.hid HSz.out
      have HCd := Lib.hid (fun (v : World) (hv : Below wa.drew.heap.size wa.drew v) => HC.out v (((Below.refl wa.heap.size wa).drew).trans hv))
      have hgd : g < wa.drew.heap.size := hgw
      refine wp_region_held_drew (S := (fun W : World => W.cell? ⟨g, off, none⟩ = some (.int .u8 50))) (by kernel_rfl) hT0 (fun hHeld => ?_)
      clear hHeld a0 hgw HC HBw HRow HSz HWa
      generalize wa.drew = wd at hT0 HBd HRd HSd HCd hgd ⊢
      refine wpAnyH_take (i := 0) (oi := { dst := some 29, op := Op.move (Operand.tmp 0), type := 23, pos := "ref.go:151", after := #[], guard := none }) (v := ?_) rfl (by kernel_rfl) (by kernel_rfl) (by kernel_rfl) (fun _ _ _ h => h) (Or.inl ⟨by rfl, ?_⟩) (by assumption) ?_
      rotate_left
      · intro w hSw
        try dsimp only at hSw
        go_simp
        try with_reducible rfl
      try simp only [Act.put, List.setIfInBounds_toArray, List.set_cons_zero, List.set_cons_succ]
      refine wpAnyH_take (i := 1) (oi := { dst := some 30, op := Op.slice 23 (Operand.tmp 29) (some (Operand.const (Value.int IntKind.i64 1))) none none, type := 23, pos := "ref.go:151", after := #[{ on := 0, ground := Ground.data }], guard := none }) (v := ?_) rfl (by kernel_rfl) (by kernel_rfl) (by kernel_rfl) (fun _ _ _ h => h) (Or.inl ⟨by rfl, ?_⟩) (by assumption) ?_
      rotate_left
      · intro w hSw
        try dsimp only at hSw
        go_simp
        try with_reducible rfl
      try simp only [Act.put, List.setIfInBounds_toArray, List.set_cons_zero, List.set_cons_succ]
      refine wpAnyH_take (i := 2) (oi := { dst := some 31, op := Op.move (Operand.tmp 0), type := 23, pos := "ref.go:151", after := #[], guard := none }) (v := ?_) rfl (by kernel_rfl) (by kernel_rfl) (by kernel_rfl) (fun _ _ _ h => h) (Or.inl ⟨by rfl, ?_⟩) (by assumption) ?_
      rotate_left
      · intro w hSw
        try dsimp only at hSw
        go_simp
        try with_reducible rfl
      try simp only [Act.put, List.setIfInBounds_toArray, List.set_cons_zero, List.set_cons_succ]
      refine wpAnyH_take (i := 3) (oi := { dst := some 32, op := Op.indexAddr 23 (Operand.tmp 31) (Operand.const (Value.int IntKind.i64 0)), type := 0, pos := "ref.go:151", after := #[{ on := 2, ground := Ground.data }], guard := none }) (v := ?_) rfl (by kernel_rfl) (by kernel_rfl) (by kernel_rfl) (fun _ _ _ h => h) (Or.inl ⟨by rfl, ?_⟩) (by assumption) ?_
      rotate_left
      · intro w hSw
        try dsimp only at hSw
        go_simp
        try with_reducible rfl
      try simp only [Act.put, List.setIfInBounds_toArray, List.set_cons_zero, List.set_cons_succ]
      refine wpAnyH_take (i := 4) (oi := { dst := some 33, op := Op.load 5 (Operand.tmp 32), type := 5, pos := "ref.go:151", after := #[{ on := 3, ground := Ground.data }], guard := none }) (v := ?_) rfl (by kernel_rfl) (by kernel_rfl) (by kernel_rfl) (fun _ _ _ h => h) (Or.inl ⟨by rfl, ?_⟩) (by assumption) ?_
      rotate_left
      · intro w hSw
        try dsimp only at hSw
        go_simp
        try with_reducible rfl
      try simp only [Act.put, List.setIfInBounds_toArray, List.set_cons_zero, List.set_cons_succ]
      refine wpAnyH_take (i := 5) (oi := { dst := some 34, op := Op.binOp BinOp.eql 5 (Operand.tmp 33) (Operand.const (Value.int IntKind.u8 48)) 5, type := 4, pos := "ref.go:151", after := #[{ on := 4, ground := Ground.data }], guard := none }) (v := ?_) rfl (by kernel_rfl) (by kernel_rfl) (by kernel_rfl) (fun _ _ _ h => h) (Or.inl ⟨by rfl, ?_⟩) (by assumption) ?_
      rotate_left
      · intro w hSw
        try dsimp only at hSw
        go_simp
        try with_reducible rfl
      try simp only [Act.put, List.setIfInBounds_toArray, List.set_cons_zero, List.set_cons_succ]
      refine wpAnyH_ready (rs := [6, 10]) (by kernel_rfl) (by simp) ?_
      refine AllReadyH.cons (o := { dst := some 35, op := Op.call { callee := Callee.value (Operand.func 40), args := #[Operand.tmp 30, Operand.tmp 34], argTypes := #[23, 4] }, type := 77, pos := "ref.go:151", after := #[{ on := 1, ground := Ground.data }, { on := 5, ground := Ground.data }], guard := none }) rfl (fun K hK => ?_) (AllReadyH.cons (o := { dst := some 4, op := Op.alloc 25, type := 0, pos := "ref.go:151", after := #[], guard := none }) rfl (fun K hK => ?_) AllReadyH.nil)
      · go_simp
        with_reducible refine (HCd.out _ (Below.refl _ _)).mono ?_
        clear HCd
        rintro e w1 ⟨hb1, rfl⟩
        have hT1 : (fun W : World => W.cell? ⟨g, off, none⟩ = some (.int .u8 50)) w1 := by
          show w1.cell? _ = _
          rw [hb1.cell (p := ⟨g, off, none⟩) hgd]
          exact hT0
        have hr1 := (hb1.block w.heap.size (by have := HSd.out; omega)).trans HRd.out
        have hb1w := HBd.out.trans (hb1.mono (by have := HSd.out; omega))
        have hs1 := hb1.size
        refine hK.out _ _ hT1 (fun _ => ?_)
        clear hK K
        refine wpAnyH_take (i := 7) (oi := { dst := some 28, op := Op.move (Operand.tmp 35), type := 77, pos := "ref.go:151", after := #[{ on := 6, ground := Ground.data }], guard := none }) (v := ?_) rfl (by kernel_rfl) (by kernel_rfl) (by kernel_rfl) (fun _ _ _ h => h) (Or.inl ⟨by rfl, ?_⟩) (by assumption) ?_
        rotate_left
        · intro w hSw
          try dsimp only at hSw
          go_simp
          try with_reducible rfl
        try simp only [Act.put, List.setIfInBounds_toArray, List.set_cons_zero, List.set_cons_succ]
        refine wpAnyH_take (i := 8) (oi := { dst := some 36, op := Op.extract (Operand.tmp 28) 0, type := 25, pos := "ref.go:151", after := #[{ on := 7, ground := Ground.data }], guard := none }) (v := ?_) rfl (by kernel_rfl) (by kernel_rfl) (by kernel_rfl) (fun _ _ _ h => h) (Or.inl ⟨by rfl, ?_⟩) (by assumption) ?_
        rotate_left
        · intro w hSw
          try dsimp only at hSw
          go_simp
          try with_reducible rfl
        try simp only [Act.put, List.setIfInBounds_toArray, List.set_cons_zero, List.set_cons_succ]
        refine wpAnyH_take (i := 9) (oi := { dst := some 37, op := Op.extract (Operand.tmp 28) 1, type := 3, pos := "ref.go:151", after := #[{ on := 7, ground := Ground.data }, { on := 11, ground := Ground.gcOnly Departure.lateStores }], guard := none }) (v := ?_) rfl (by kernel_rfl) (by kernel_rfl) (by kernel_rfl) (fun _ _ _ h => h) (Or.inl ⟨by rfl, ?_⟩) (by assumption) ?_
        rotate_left
        · intro w hSw
          try dsimp only at hSw
          go_simp
          try with_reducible rfl
        try simp only [Act.put, List.setIfInBounds_toArray, List.set_cons_zero, List.set_cons_succ]
        refine wpAnyH_ready (rs := [10]) (by kernel_rfl) (by simp) ?_
        refine AllReadyH.cons (o := { dst := some 4, op := Op.alloc 25, type := 0, pos := "ref.go:151", after := #[], guard := none }) rfl (fun K hK => ?_) AllReadyH.nil
        go_simp
        refine hK.out _ _ (cell_alloc_old hT1 _) (fun _ => ?_)
        clear hK K
        try simp only [Act.put, List.setIfInBounds_toArray, List.set_cons_zero, List.set_cons_succ]
        refine wpAnyH_ready (rs := [11]) (by kernel_rfl) (by simp) ?_
        refine AllReadyH.cons (o := { dst := none, op := Op.store 25 (Operand.tmp 4) (Operand.tmp 36), type := 0, pos := "ref.go:151", after := #[{ on := 10, ground := Ground.data }, { on := 8, ground := Ground.data }, { on := 6, ground := Ground.chain }, { on := 0, ground := Ground.phase }, { on := 1, ground := Ground.phase }, { on := 2, ground := Ground.phase }, { on := 3, ground := Ground.phase }, { on := 4, ground := Ground.phase }, { on := 5, ground := Ground.phase }, { on := 6, ground := Ground.phase }, { on := 7, ground := Ground.phase }, { on := 8, ground := Ground.phase }, { on := 9, ground := Ground.textOnly Departure.lateStores }, { on := 10, ground := Ground.phase }], guard := none }) rfl (fun K hK => ?_) AllReadyH.nil
        go_simp
        refine hK.out _ _ (cell_alloc_old hT1 _) (fun _ => ?_)
        clear hK K
        refine wpAnyH_take (i := 12) (oi := { dst := some 5, op := Op.assign (Operand.tmp 37), type := 3, pos := "ref.go:151", after := #[{ on := 9, ground := Ground.data }, { on := 11, ground := Ground.chain }, { on := 0, ground := Ground.phase }, { on := 1, ground := Ground.phase }, { on := 2, ground := Ground.phase }, { on := 3, ground := Ground.phase }, { on := 4, ground := Ground.phase }, { on := 5, ground := Ground.phase }, { on := 6, ground := Ground.phase }, { on := 7, ground := Ground.phase }, { on := 8, ground := Ground.phase }, { on := 9, ground := Ground.phase }, { on := 10, ground := Ground.phase }, { on := 11, ground := Ground.phase }], guard := none }) (v := ?_) rfl (by kernel_rfl) (by kernel_rfl) (by kernel_rfl) (fun _ _ _ h => h) (Or.inl ⟨by rfl, ?_⟩) (by assumption) ?_
        rotate_left
        · intro w hSw
          try dsimp only at hSw
          go_simp
          try with_reducible rfl
        try simp only [Act.put, List.setIfInBounds_toArray, List.set_cons_zero, List.set_cons_succ]
        refine wpAnyH_done (by kernel_rfl) ?_ _
        have hdn := heap_alloc_new w1 (.cells #[.bool false, .string ⟨#[]⟩, .int .i64 0] 25)
        have hrn : (w1.alloc (.cells #[.bool false, .string ⟨#[]⟩, .int .i64 0] 25)).heap[w.heap.size]? = _ := alloc_old _ hr1
        have hbn := hb1w.alloc hb1w.size (.cells #[.bool false, .string ⟨#[]⟩, .int .i64 0] 25)
        generalize (w1.alloc (.cells #[.bool false, .string ⟨#[]⟩, .int .i64 0] 25)) = w9 at hdn hrn hbn ⊢
        have HD9 := Lib.hid hdn
        have HR9 := Lib.hid (And.intro hrn hbn)
        clear hdn hrn hbn hr1 hb1w hb1 hT0 hT1 HRd HBd
        have hrow1 := HR9.out.1
        have hbw1 := HR9.out.2
        obtain ⟨⟨z0, z1, z2, z3, z4, z5, z6⟩, y0, y1, y2, y3, y4, y5, y6⟩ := row7 hrow1
        obtain ⟨⟨d0, d1, d2⟩, _⟩ := row3 HD9.out
        have hS := set7 (v0 := .int .i64 0) (v1 := .bool false) (v2 := .bool false) (v3 := .string ⟨#[]⟩) (v4 := .int .i64 0) (v5 := .string ⟨#[]⟩) (v6 := .int .i64 0) hrow1 (Nat.le_refl _) hbw1
        have HS := Lib.hid hS
        clear hS hrow1 hbw1
        go_wp2_with fail
        refine bodyPost_ret (results_row_tmp rfl _ _ w.heap.size _ _ _ _ rfl HS.out.1 Tryd.underlying46 rfl (by kernel_rfl)) rfl ⟨HS.out.2, ?_⟩
        rw [HFn.out]
        rfl
      · go_simp
        have hba : Below wd.heap.size wd (wd.alloc (.cells #[.bool false, .string ⟨#[]⟩, .int .i64 0] 25)) := (Below.refl _ _).alloc (Nat.le_refl _) _
        refine hK.out _ _ (cell_alloc_old hT0 _) (fun _ => ?_)
        clear hK K
        try simp only [Act.put, List.setIfInBounds_toArray, List.set_cons_zero, List.set_cons_succ]
        refine wpAnyH_ready (rs := [6]) (by kernel_rfl) (by simp) ?_
        refine AllReadyH.cons (o := { dst := some 35, op := Op.call { callee := Callee.value (Operand.func 40), args := #[Operand.tmp 30, Operand.tmp 34], argTypes := #[23, 4] }, type := 77, pos := "ref.go:151", after := #[{ on := 1, ground := Ground.data }, { on := 5, ground := Ground.data }], guard := none }) rfl (fun K hK => ?_) AllReadyH.nil
        go_simp
        with_reducible refine (HCd.out _ hba).mono ?_
        clear HCd
        rintro e w1 ⟨hb1, rfl⟩
        have hda := (hb1.block wd.heap.size (by rw [box_size]; omega)).trans (heap_alloc_new wd (.cells #[.bool false, .string ⟨#[]⟩, .int .i64 0] 25))
        have hb1 := hba.trans (hb1.mono hba.size)
        have hT1 : (fun W : World => W.cell? ⟨g, off, none⟩ = some (.int .u8 50)) w1 := by
          show w1.cell? _ = _
          rw [hb1.cell (p := ⟨g, off, none⟩) hgd]
          exact hT0
        have hr1 := (hb1.block w.heap.size (by have := HSd.out; omega)).trans HRd.out
        have hb1w := HBd.out.trans (hb1.mono (by have := HSd.out; omega))
        refine hK.out _ _ hT1 (fun _ => ?_)
        clear hK K hba
        refine wpAnyH_take (i := 7) (oi := { dst := some 28, op := Op.move (Operand.tmp 35), type := 77, pos := "ref.go:151", after := #[{ on := 6, ground := Ground.data }], guard := none }) (v := ?_) rfl (by kernel_rfl) (by kernel_rfl) (by kernel_rfl) (fun _ _ _ h => h) (Or.inl ⟨by rfl, ?_⟩) (by assumption) ?_
        rotate_left
        · intro w hSw
          try dsimp only at hSw
          go_simp
          try with_reducible rfl
        try simp only [Act.put, List.setIfInBounds_toArray, List.set_cons_zero, List.set_cons_succ]
        refine wpAnyH_take (i := 8) (oi := { dst := some 36, op := Op.extract (Operand.tmp 28) 0, type := 25, pos := "ref.go:151", after := #[{ on := 7, ground := Ground.data }], guard := none }) (v := ?_) rfl (by kernel_rfl) (by kernel_rfl) (by kernel_rfl) (fun _ _ _ h => h) (Or.inl ⟨by rfl, ?_⟩) (by assumption) ?_
        rotate_left
        · intro w hSw
          try dsimp only at hSw
          go_simp
          try with_reducible rfl
        try simp only [Act.put, List.setIfInBounds_toArray, List.set_cons_zero, List.set_cons_succ]
        refine wpAnyH_take (i := 9) (oi := { dst := some 37, op := Op.extract (Operand.tmp 28) 1, type := 3, pos := "ref.go:151", after := #[{ on := 7, ground := Ground.data }, { on := 11, ground := Ground.gcOnly Departure.lateStores }], guard := none }) (v := ?_) rfl (by kernel_rfl) (by kernel_rfl) (by kernel_rfl) (fun _ _ _ h => h) (Or.inl ⟨by rfl, ?_⟩) (by assumption) ?_
        rotate_left
        · intro w hSw
          try dsimp only at hSw
          go_simp
          try with_reducible rfl
        try simp only [Act.put, List.setIfInBounds_toArray, List.set_cons_zero, List.set_cons_succ]
        obtain ⟨⟨e0, e1, e2⟩, f0, f1, f2⟩ := row3 hda
        have hset := set3 (v0 := .bool false) (v1 := .string ⟨#[]⟩) (v2 := .int .i64 0) hda (Nat.zero_le _) (Below.refl 0 w1)
        have hlt : w.heap.size < wd.heap.size := by have := HSd.out; omega
        have hkp : ∀ k, k ≠ wd.heap.size → (((w1.setCell ⟨wd.heap.size, 0, none⟩ (.bool false)).setCell ⟨wd.heap.size, 1, none⟩ (.string ⟨#[]⟩)).setCell ⟨wd.heap.size, 2, none⟩ (.int .i64 0)).heap[k]? = w1.heap[k]? := fun k hk => by
          rw [Below.heap_setCell _ _ _ k hk, Below.heap_setCell _ _ _ k hk, Below.heap_setCell _ _ _ k hk]
        have hbs : Below w.heap.size w (((w1.setCell ⟨wd.heap.size, 0, none⟩ (.bool false)).setCell ⟨wd.heap.size, 1, none⟩ (.string ⟨#[]⟩)).setCell ⟨wd.heap.size, 2, none⟩ (.int .i64 0)) := ((hb1w.setCell (p := ⟨wd.heap.size, 0, none⟩) (Nat.le_of_lt hlt) _).setCell (p := ⟨wd.heap.size, 1, none⟩) (Nat.le_of_lt hlt) _).setCell (p := ⟨wd.heap.size, 2, none⟩) (Nat.le_of_lt hlt) _
        have hT2 : (fun W : World => W.cell? ⟨g, off, none⟩ = some (.int .u8 50)) (((w1.setCell ⟨wd.heap.size, 0, none⟩ (.bool false)).setCell ⟨wd.heap.size, 1, none⟩ (.string ⟨#[]⟩)).setCell ⟨wd.heap.size, 2, none⟩ (.int .i64 0)) := by
          show World.cell? _ _ = _
          have hT1' : w1.cell? _ = _ := hT1
          rw [← hT1']
          simp only [World.cell?, hkp g (by omega)]
        have hrn := (hkp w.heap.size (by omega)).trans hr1
        refine wpAnyH_ready (rs := [11]) (by kernel_rfl) (by simp) ?_
        refine AllReadyH.cons (o := { dst := none, op := Op.store 25 (Operand.tmp 4) (Operand.tmp 36), type := 0, pos := "ref.go:151", after := #[{ on := 10, ground := Ground.data }, { on := 8, ground := Ground.data }, { on := 6, ground := Ground.chain }, { on := 0, ground := Ground.phase }, { on := 1, ground := Ground.phase }, { on := 2, ground := Ground.phase }, { on := 3, ground := Ground.phase }, { on := 4, ground := Ground.phase }, { on := 5, ground := Ground.phase }, { on := 6, ground := Ground.phase }, { on := 7, ground := Ground.phase }, { on := 8, ground := Ground.phase }, { on := 9, ground := Ground.textOnly Departure.lateStores }, { on := 10, ground := Ground.phase }], guard := none }) rfl (fun K hK => ?_) AllReadyH.nil
        go_simp
        refine hK.out _ _ hT2 (fun _ => ?_)
        clear hK K
        refine wpAnyH_take (i := 12) (oi := { dst := some 5, op := Op.assign (Operand.tmp 37), type := 3, pos := "ref.go:151", after := #[{ on := 9, ground := Ground.data }, { on := 11, ground := Ground.chain }, { on := 0, ground := Ground.phase }, { on := 1, ground := Ground.phase }, { on := 2, ground := Ground.phase }, { on := 3, ground := Ground.phase }, { on := 4, ground := Ground.phase }, { on := 5, ground := Ground.phase }, { on := 6, ground := Ground.phase }, { on := 7, ground := Ground.phase }, { on := 8, ground := Ground.phase }, { on := 9, ground := Ground.phase }, { on := 10, ground := Ground.phase }, { on := 11, ground := Ground.phase }], guard := none }) (v := ?_) rfl (by kernel_rfl) (by kernel_rfl) (by kernel_rfl) (fun _ _ _ h => h) (Or.inl ⟨by rfl, ?_⟩) (by assumption) ?_
        rotate_left
        · intro w hSw
          try dsimp only at hSw
          go_simp
          try with_reducible rfl
        try simp only [Act.put, List.setIfInBounds_toArray, List.set_cons_zero, List.set_cons_succ]
        refine wpAnyH_done (by kernel_rfl) ?_ _
        have HD9 := Lib.hid hset.1
        have HR9 := Lib.hid (And.intro hrn hbs)
        clear hset hrn hbs hr1 hb1w hb1 hT0 hT1 hT2 HRd HBd hkp hda e0 e1 e2 f0 f1 f2
        generalize (((w1.setCell ⟨wd.heap.size, 0, none⟩ (.bool false)).setCell ⟨wd.heap.size, 1, none⟩ (.string ⟨#[]⟩)).setCell ⟨wd.heap.size, 2, none⟩ (.int .i64 0)) = w9 at HD9 HR9 ⊢
        have hrow1 := HR9.out.1
        have hbw1 := HR9.out.2
        obtain ⟨⟨z0, z1, z2, z3, z4, z5, z6⟩, y0, y1, y2, y3, y4, y5, y6⟩ := row7 hrow1
        obtain ⟨⟨d0, d1, d2⟩, _⟩ := row3 HD9.out
        have hS := set7 (v0 := .int .i64 0) (v1 := .bool false) (v2 := .bool false) (v3 := .string ⟨#[]⟩) (v4 := .int .i64 0) (v5 := .string ⟨#[]⟩) (v6 := .int .i64 0) hrow1 (Nat.le_refl _) hbw1
        have HS := Lib.hid hS
        clear hS hrow1 hbw1
        go_wp2_with fail
        refine bodyPost_ret (results_row_tmp rfl _ _ w.heap.size _ _ _ _ rfl HS.out.1 Tryd.underlying46 rfl (by kernel_rfl)) rfl ⟨HS.out.2, ?_⟩
        rw [HFn.out]
        rfl
    | some r =>
      obtain ⟨neg, dg, ex, k⟩ := r
      rw [hT] at HC
      have HFn : Hid (fpart l = some (⟨2, false, neg, strOf dg, ex, ⟨#[]⟩, 0⟩, k)) := Lib.hid (by unfold fpart; rw [if_neg h16, if_neg h32, if_neg h33, if_neg h49, if_neg h48, if_pos h50, fnum_pos l h48, hT]; rfl)
      have hk := fsz_le hT
      have hk1 : 1 ≤ k ∧ k ≤ 200000 ∧ ((k : Int) - 1 == 0) = false := by
        obtain ⟨hk2, hk3⟩ := fsz_low hT
        dsimp only at hk hk2
        refine ⟨hk.1, ?_, beq_eq_false_iff_ne.2 (by omega)⟩
        have := hk.2
        rw [List.length_drop] at this
        omega
      obtain ⟨hk1, hk200, hk0⟩ := hk1
      clear hT hcut hR hRa hbw hrow hwa hsz hk
      go_enter Tryd.func28, Tryd.ntmps28
      go_upto_region 11 with fail
      rw [← HWa.out] at a0 ⊢
      have hT0 : (fun W : World => W.cell? ⟨g, off, none⟩ = some (.int .u8 50)) wa.drew := a0
      have hgw := World.block_lt_of_cell? _ _ a0
      have HBd := Lib.hid (HBw.out.drew)
      have HRd : Hid (wa.drew.heap[w.heap.size]? = _) := Lib.hid HRow.out
      have HSd : Hid (wa.drew.heap.size = w.heap.size + 1) := Lib.hid HSz.out
      have HCd := Lib.hid (fun (v : World) (hv : Below wa.drew.heap.size wa.drew v) => HC.out v (((Below.refl wa.heap.size wa).drew).trans hv))
      have hgd : g < wa.drew.heap.size := hgw
      refine wp_region_held_drew (S := (fun W : World => W.cell? ⟨g, off, none⟩ = some (.int .u8 50))) (by kernel_rfl) hT0 (fun hHeld => ?_)
      clear hHeld a0 hgw HC HBw HRow HSz HWa
      generalize wa.drew = wd at hT0 HBd HRd HSd HCd hgd ⊢
      refine wpAnyH_take (i := 0) (oi := { dst := some 29, op := Op.move (Operand.tmp 0), type := 23, pos := "ref.go:151", after := #[], guard := none }) (v := ?_) rfl (by kernel_rfl) (by kernel_rfl) (by kernel_rfl) (fun _ _ _ h => h) (Or.inl ⟨by rfl, ?_⟩) (by assumption) ?_
      rotate_left
      · intro w hSw
        try dsimp only at hSw
        go_simp
        try with_reducible rfl
      try simp only [Act.put, List.setIfInBounds_toArray, List.set_cons_zero, List.set_cons_succ]
      refine wpAnyH_take (i := 1) (oi := { dst := some 30, op := Op.slice 23 (Operand.tmp 29) (some (Operand.const (Value.int IntKind.i64 1))) none none, type := 23, pos := "ref.go:151", after := #[{ on := 0, ground := Ground.data }], guard := none }) (v := ?_) rfl (by kernel_rfl) (by kernel_rfl) (by kernel_rfl) (fun _ _ _ h => h) (Or.inl ⟨by rfl, ?_⟩) (by assumption) ?_
      rotate_left
      · intro w hSw
        try dsimp only at hSw
        go_simp
        try with_reducible rfl
      try simp only [Act.put, List.setIfInBounds_toArray, List.set_cons_zero, List.set_cons_succ]
      refine wpAnyH_take (i := 2) (oi := { dst := some 31, op := Op.move (Operand.tmp 0), type := 23, pos := "ref.go:151", after := #[], guard := none }) (v := ?_) rfl (by kernel_rfl) (by kernel_rfl) (by kernel_rfl) (fun _ _ _ h => h) (Or.inl ⟨by rfl, ?_⟩) (by assumption) ?_
      rotate_left
      · intro w hSw
        try dsimp only at hSw
        go_simp
        try with_reducible rfl
      try simp only [Act.put, List.setIfInBounds_toArray, List.set_cons_zero, List.set_cons_succ]
      refine wpAnyH_take (i := 3) (oi := { dst := some 32, op := Op.indexAddr 23 (Operand.tmp 31) (Operand.const (Value.int IntKind.i64 0)), type := 0, pos := "ref.go:151", after := #[{ on := 2, ground := Ground.data }], guard := none }) (v := ?_) rfl (by kernel_rfl) (by kernel_rfl) (by kernel_rfl) (fun _ _ _ h => h) (Or.inl ⟨by rfl, ?_⟩) (by assumption) ?_
      rotate_left
      · intro w hSw
        try dsimp only at hSw
        go_simp
        try with_reducible rfl
      try simp only [Act.put, List.setIfInBounds_toArray, List.set_cons_zero, List.set_cons_succ]
      refine wpAnyH_take (i := 4) (oi := { dst := some 33, op := Op.load 5 (Operand.tmp 32), type := 5, pos := "ref.go:151", after := #[{ on := 3, ground := Ground.data }], guard := none }) (v := ?_) rfl (by kernel_rfl) (by kernel_rfl) (by kernel_rfl) (fun _ _ _ h => h) (Or.inl ⟨by rfl, ?_⟩) (by assumption) ?_
      rotate_left
      · intro w hSw
        try dsimp only at hSw
        go_simp
        try with_reducible rfl
      try simp only [Act.put, List.setIfInBounds_toArray, List.set_cons_zero, List.set_cons_succ]
      refine wpAnyH_take (i := 5) (oi := { dst := some 34, op := Op.binOp BinOp.eql 5 (Operand.tmp 33) (Operand.const (Value.int IntKind.u8 48)) 5, type := 4, pos := "ref.go:151", after := #[{ on := 4, ground := Ground.data }], guard := none }) (v := ?_) rfl (by kernel_rfl) (by kernel_rfl) (by kernel_rfl) (fun _ _ _ h => h) (Or.inl ⟨by rfl, ?_⟩) (by assumption) ?_
      rotate_left
      · intro w hSw
        try dsimp only at hSw
        go_simp
        try with_reducible rfl
      try simp only [Act.put, List.setIfInBounds_toArray, List.set_cons_zero, List.set_cons_succ]
      refine wpAnyH_ready (rs := [6, 10]) (by kernel_rfl) (by simp) ?_
      refine AllReadyH.cons (o := { dst := some 35, op := Op.call { callee := Callee.value (Operand.func 40), args := #[Operand.tmp 30, Operand.tmp 34], argTypes := #[23, 4] }, type := 77, pos := "ref.go:151", after := #[{ on := 1, ground := Ground.data }, { on := 5, ground := Ground.data }], guard := none }) rfl (fun K hK => ?_) (AllReadyH.cons (o := { dst := some 4, op := Op.alloc 25, type := 0, pos := "ref.go:151", after := #[], guard := none }) rfl (fun K hK => ?_) AllReadyH.nil)
      · go_simp
        with_reducible refine (HCd.out _ (Below.refl _ _)).mono ?_
        clear HCd
        rintro e w1 ⟨hb1, rfl⟩
        have hT1 : (fun W : World => W.cell? ⟨g, off, none⟩ = some (.int .u8 50)) w1 := by
          show w1.cell? _ = _
          rw [hb1.cell (p := ⟨g, off, none⟩) hgd]
          exact hT0
        have hr1 := (hb1.block w.heap.size (by have := HSd.out; omega)).trans HRd.out
        have hb1w := HBd.out.trans (hb1.mono (by have := HSd.out; omega))
        have hs1 := hb1.size
        refine hK.out _ _ hT1 (fun _ => ?_)
        clear hK K
        refine wpAnyH_take (i := 7) (oi := { dst := some 28, op := Op.move (Operand.tmp 35), type := 77, pos := "ref.go:151", after := #[{ on := 6, ground := Ground.data }], guard := none }) (v := ?_) rfl (by kernel_rfl) (by kernel_rfl) (by kernel_rfl) (fun _ _ _ h => h) (Or.inl ⟨by rfl, ?_⟩) (by assumption) ?_
        rotate_left
        · intro w hSw
          try dsimp only at hSw
          go_simp
          try with_reducible rfl
        try simp only [Act.put, List.setIfInBounds_toArray, List.set_cons_zero, List.set_cons_succ]
        refine wpAnyH_take (i := 8) (oi := { dst := some 36, op := Op.extract (Operand.tmp 28) 0, type := 25, pos := "ref.go:151", after := #[{ on := 7, ground := Ground.data }], guard := none }) (v := ?_) rfl (by kernel_rfl) (by kernel_rfl) (by kernel_rfl) (fun _ _ _ h => h) (Or.inl ⟨by rfl, ?_⟩) (by assumption) ?_
        rotate_left
        · intro w hSw
          try dsimp only at hSw
          go_simp
          try with_reducible rfl
        try simp only [Act.put, List.setIfInBounds_toArray, List.set_cons_zero, List.set_cons_succ]
        refine wpAnyH_take (i := 9) (oi := { dst := some 37, op := Op.extract (Operand.tmp 28) 1, type := 3, pos := "ref.go:151", after := #[{ on := 7, ground := Ground.data }, { on := 11, ground := Ground.gcOnly Departure.lateStores }], guard := none }) (v := ?_) rfl (by kernel_rfl) (by kernel_rfl) (by kernel_rfl) (fun _ _ _ h => h) (Or.inl ⟨by rfl, ?_⟩) (by assumption) ?_
        rotate_left
        · intro w hSw
          try dsimp only at hSw
          go_simp
          try with_reducible rfl
        try simp only [Act.put, List.setIfInBounds_toArray, List.set_cons_zero, List.set_cons_succ]
        refine wpAnyH_ready (rs := [10]) (by kernel_rfl) (by simp) ?_
        refine AllReadyH.cons (o := { dst := some 4, op := Op.alloc 25, type := 0, pos := "ref.go:151", after := #[], guard := none }) rfl (fun K hK => ?_) AllReadyH.nil
        go_simp
        refine hK.out _ _ (cell_alloc_old hT1 _) (fun _ => ?_)
        clear hK K
        try simp only [Act.put, List.setIfInBounds_toArray, List.set_cons_zero, List.set_cons_succ]
        refine wpAnyH_ready (rs := [11]) (by kernel_rfl) (by simp) ?_
        refine AllReadyH.cons (o := { dst := none, op := Op.store 25 (Operand.tmp 4) (Operand.tmp 36), type := 0, pos := "ref.go:151", after := #[{ on := 10, ground := Ground.data }, { on := 8, ground := Ground.data }, { on := 6, ground := Ground.chain }, { on := 0, ground := Ground.phase }, { on := 1, ground := Ground.phase }, { on := 2, ground := Ground.phase }, { on := 3, ground := Ground.phase }, { on := 4, ground := Ground.phase }, { on := 5, ground := Ground.phase }, { on := 6, ground := Ground.phase }, { on := 7, ground := Ground.phase }, { on := 8, ground := Ground.phase }, { on := 9, ground := Ground.textOnly Departure.lateStores }, { on := 10, ground := Ground.phase }], guard := none }) rfl (fun K hK => ?_) AllReadyH.nil
        go_simp
        refine hK.out _ _ (cell_alloc_old hT1 _) (fun _ => ?_)
        clear hK K
        refine wpAnyH_take (i := 12) (oi := { dst := some 5, op := Op.assign (Operand.tmp 37), type := 3, pos := "ref.go:151", after := #[{ on := 9, ground := Ground.data }, { on := 11, ground := Ground.chain }, { on := 0, ground := Ground.phase }, { on := 1, ground := Ground.phase }, { on := 2, ground := Ground.phase }, { on := 3, ground := Ground.phase }, { on := 4, ground := Ground.phase }, { on := 5, ground := Ground.phase }, { on := 6, ground := Ground.phase }, { on := 7, ground := Ground.phase }, { on := 8, ground := Ground.phase }, { on := 9, ground := Ground.phase }, { on := 10, ground := Ground.phase }, { on := 11, ground := Ground.phase }], guard := none }) (v := ?_) rfl (by kernel_rfl) (by kernel_rfl) (by kernel_rfl) (fun _ _ _ h => h) (Or.inl ⟨by rfl, ?_⟩) (by assumption) ?_
        rotate_left
        · intro w hSw
          try dsimp only at hSw
          go_simp
          try with_reducible rfl
        try simp only [Act.put, List.setIfInBounds_toArray, List.set_cons_zero, List.set_cons_succ]
        refine wpAnyH_done (by kernel_rfl) ?_ _
        have hdn := heap_alloc_new w1 (.cells #[.bool neg, .string (strOf dg), .int .i64 ex] 25)
        have hrn : (w1.alloc (.cells #[.bool neg, .string (strOf dg), .int .i64 ex] 25)).heap[w.heap.size]? = _ := alloc_old _ hr1
        have hbn := hb1w.alloc hb1w.size (.cells #[.bool neg, .string (strOf dg), .int .i64 ex] 25)
        generalize (w1.alloc (.cells #[.bool neg, .string (strOf dg), .int .i64 ex] 25)) = w9 at hdn hrn hbn ⊢
        have HD9 := Lib.hid hdn
        have HR9 := Lib.hid (And.intro hrn hbn)
        clear hdn hrn hbn hr1 hb1w hb1 hT0 hT1 HRd HBd
        have hrow1 := HR9.out.1
        have hbw1 := HR9.out.2
        obtain ⟨⟨z0, z1, z2, z3, z4, z5, z6⟩, y0, y1, y2, y3, y4, y5, y6⟩ := row7 hrow1
        obtain ⟨⟨d0, d1, d2⟩, _⟩ := row3 HD9.out
        have hS := set7 (v0 := .int .i64 2) (v1 := .bool false) (v2 := .bool neg) (v3 := .string (strOf dg)) (v4 := .int .i64 ex) (v5 := .string ⟨#[]⟩) (v6 := .int .i64 0) hrow1 (Nat.le_refl _) hbw1
        have HS := Lib.hid hS
        clear hS hrow1 hbw1
        go_wp2_with fail
        refine bodyPost_ret (results_row_tmp rfl _ _ w.heap.size _ _ _ _ rfl HS.out.1 Tryd.underlying46 rfl (by kernel_rfl)) rfl ⟨HS.out.2, ?_⟩
        rw [HFn.out]
        dsimp only
        rw [show (k : Int) = (k : Int) - 1 + 1 by omega]
        rfl
      · go_simp
        have hba : Below wd.heap.size wd (wd.alloc (.cells #[.bool false, .string ⟨#[]⟩, .int .i64 0] 25)) := (Below.refl _ _).alloc (Nat.le_refl _) _
        refine hK.out _ _ (cell_alloc_old hT0 _) (fun _ => ?_)
        clear hK K
        try simp only [Act.put, List.setIfInBounds_toArray, List.set_cons_zero, List.set_cons_succ]
        refine wpAnyH_ready (rs := [6]) (by kernel_rfl) (by simp) ?_
        refine AllReadyH.cons (o := { dst := some 35, op := Op.call { callee := Callee.value (Operand.func 40), args := #[Operand.tmp 30, Operand.tmp 34], argTypes := #[23, 4] }, type := 77, pos := "ref.go:151", after := #[{ on := 1, ground := Ground.data }, { on := 5, ground := Ground.data }], guard := none }) rfl (fun K hK => ?_) AllReadyH.nil
        go_simp
        with_reducible refine (HCd.out _ hba).mono ?_
        clear HCd
        rintro e w1 ⟨hb1, rfl⟩
        have hda := (hb1.block wd.heap.size (by rw [box_size]; omega)).trans (heap_alloc_new wd (.cells #[.bool false, .string ⟨#[]⟩, .int .i64 0] 25))
        have hb1 := hba.trans (hb1.mono hba.size)
        have hT1 : (fun W : World => W.cell? ⟨g, off, none⟩ = some (.int .u8 50)) w1 := by
          show w1.cell? _ = _
          rw [hb1.cell (p := ⟨g, off, none⟩) hgd]
          exact hT0
        have hr1 := (hb1.block w.heap.size (by have := HSd.out; omega)).trans HRd.out
        have hb1w := HBd.out.trans (hb1.mono (by have := HSd.out; omega))
        refine hK.out _ _ hT1 (fun _ => ?_)
        clear hK K hba
        refine wpAnyH_take (i := 7) (oi := { dst := some 28, op := Op.move (Operand.tmp 35), type := 77, pos := "ref.go:151", after := #[{ on := 6, ground := Ground.data }], guard := none }) (v := ?_) rfl (by kernel_rfl) (by kernel_rfl) (by kernel_rfl) (fun _ _ _ h => h) (Or.inl ⟨by rfl, ?_⟩) (by assumption) ?_
        rotate_left
        · intro w hSw
          try dsimp only at hSw
          go_simp
          try with_reducible rfl
        try simp only [Act.put, List.setIfInBounds_toArray, List.set_cons_zero, List.set_cons_succ]
        refine wpAnyH_take (i := 8) (oi := { dst := some 36, op := Op.extract (Operand.tmp 28) 0, type := 25, pos := "ref.go:151", after := #[{ on := 7, ground := Ground.data }], guard := none }) (v := ?_) rfl (by kernel_rfl) (by kernel_rfl) (by kernel_rfl) (fun _ _ _ h => h) (Or.inl ⟨by rfl, ?_⟩) (by assumption) ?_
        rotate_left
        · intro w hSw
          try dsimp only at hSw
          go_simp
          try with_reducible rfl
        try simp only [Act.put, List.setIfInBounds_toArray, List.set_cons_zero, List.set_cons_succ]
        refine wpAnyH_take (i := 9) (oi := { dst := some 37, op := Op.extract (Operand.tmp 28) 1, type := 3, pos := "ref.go:151", after := #[{ on := 7, ground := Ground.data }, { on := 11, ground := Ground.gcOnly Departure.lateStores }], guard := none }) (v := ?_) rfl (by kernel_rfl) (by kernel_rfl) (by kernel_rfl) (fun _ _ _ h => h) (Or.inl ⟨by rfl, ?_⟩) (by assumption) ?_
        rotate_left
        · intro w hSw
          try dsimp only at hSw
          go_simp
          try with_reducible rfl
        try simp only [Act.put, List.setIfInBounds_toArray, List.set_cons_zero, List.set_cons_succ]
        obtain ⟨⟨e0, e1, e2⟩, f0, f1, f2⟩ := row3 hda
        have hset := set3 (v0 := .bool neg) (v1 := .string (strOf dg)) (v2 := .int .i64 ex) hda (Nat.zero_le _) (Below.refl 0 w1)
        have hlt : w.heap.size < wd.heap.size := by have := HSd.out; omega
        have hkp : ∀ k, k ≠ wd.heap.size → (((w1.setCell ⟨wd.heap.size, 0, none⟩ (.bool neg)).setCell ⟨wd.heap.size, 1, none⟩ (.string (strOf dg))).setCell ⟨wd.heap.size, 2, none⟩ (.int .i64 ex)).heap[k]? = w1.heap[k]? := fun k hk => by
          rw [Below.heap_setCell _ _ _ k hk, Below.heap_setCell _ _ _ k hk, Below.heap_setCell _ _ _ k hk]
        have hbs : Below w.heap.size w (((w1.setCell ⟨wd.heap.size, 0, none⟩ (.bool neg)).setCell ⟨wd.heap.size, 1, none⟩ (.string (strOf dg))).setCell ⟨wd.heap.size, 2, none⟩ (.int .i64 ex)) := ((hb1w.setCell (p := ⟨wd.heap.size, 0, none⟩) (Nat.le_of_lt hlt) _).setCell (p := ⟨wd.heap.size, 1, none⟩) (Nat.le_of_lt hlt) _).setCell (p := ⟨wd.heap.size, 2, none⟩) (Nat.le_of_lt hlt) _
        have hT2 : (fun W : World => W.cell? ⟨g, off, none⟩ = some (.int .u8 50)) (((w1.setCell ⟨wd.heap.size, 0, none⟩ (.bool neg)).setCell ⟨wd.heap.size, 1, none⟩ (.string (strOf dg))).setCell ⟨wd.heap.size, 2, none⟩ (.int .i64 ex)) := by
          show World.cell? _ _ = _
          have hT1' : w1.cell? _ = _ := hT1
          rw [← hT1']
          simp only [World.cell?, hkp g (by omega)]
        have hrn := (hkp w.heap.size (by omega)).trans hr1
        refine wpAnyH_ready (rs := [11]) (by kernel_rfl) (by simp) ?_
        refine AllReadyH.cons (o := { dst := none, op := Op.store 25 (Operand.tmp 4) (Operand.tmp 36), type := 0, pos := "ref.go:151", after := #[{ on := 10, ground := Ground.data }, { on := 8, ground := Ground.data }, { on := 6, ground := Ground.chain }, { on := 0, ground := Ground.phase }, { on := 1, ground := Ground.phase }, { on := 2, ground := Ground.phase }, { on := 3, ground := Ground.phase }, { on := 4, ground := Ground.phase }, { on := 5, ground := Ground.phase }, { on := 6, ground := Ground.phase }, { on := 7, ground := Ground.phase }, { on := 8, ground := Ground.phase }, { on := 9, ground := Ground.textOnly Departure.lateStores }, { on := 10, ground := Ground.phase }], guard := none }) rfl (fun K hK => ?_) AllReadyH.nil
        go_simp
        refine hK.out _ _ hT2 (fun _ => ?_)
        clear hK K
        refine wpAnyH_take (i := 12) (oi := { dst := some 5, op := Op.assign (Operand.tmp 37), type := 3, pos := "ref.go:151", after := #[{ on := 9, ground := Ground.data }, { on := 11, ground := Ground.chain }, { on := 0, ground := Ground.phase }, { on := 1, ground := Ground.phase }, { on := 2, ground := Ground.phase }, { on := 3, ground := Ground.phase }, { on := 4, ground := Ground.phase }, { on := 5, ground := Ground.phase }, { on := 6, ground := Ground.phase }, { on := 7, ground := Ground.phase }, { on := 8, ground := Ground.phase }, { on := 9, ground := Ground.phase }, { on := 10, ground := Ground.phase }, { on := 11, ground := Ground.phase }], guard := none }) (v := ?_) rfl (by kernel_rfl) (by kernel_rfl) (by kernel_rfl) (fun _ _ _ h => h) (Or.inl ⟨by rfl, ?_⟩) (by assumption) ?_
        rotate_left
        · intro w hSw
          try dsimp only at hSw
          go_simp
          try with_reducible rfl
        try simp only [Act.put, List.setIfInBounds_toArray, List.set_cons_zero, List.set_cons_succ]
        refine wpAnyH_done (by kernel_rfl) ?_ _
        have HD9 := Lib.hid hset.1
        have HR9 := Lib.hid (And.intro hrn hbs)
        clear hset hrn hbs hr1 hb1w hb1 hT0 hT1 hT2 HRd HBd hkp hda e0 e1 e2 f0 f1 f2
        generalize (((w1.setCell ⟨wd.heap.size, 0, none⟩ (.bool neg)).setCell ⟨wd.heap.size, 1, none⟩ (.string (strOf dg))).setCell ⟨wd.heap.size, 2, none⟩ (.int .i64 ex)) = w9 at HD9 HR9 ⊢
        have hrow1 := HR9.out.1
        have hbw1 := HR9.out.2
        obtain ⟨⟨z0, z1, z2, z3, z4, z5, z6⟩, y0, y1, y2, y3, y4, y5, y6⟩ := row7 hrow1
        obtain ⟨⟨d0, d1, d2⟩, _⟩ := row3 HD9.out
        have hS := set7 (v0 := .int .i64 2) (v1 := .bool false) (v2 := .bool neg) (v3 := .string (strOf dg)) (v4 := .int .i64 ex) (v5 := .string ⟨#[]⟩) (v6 := .int .i64 0) hrow1 (Nat.le_refl _) hbw1
        have HS := Lib.hid hS
        clear hS hrow1 hbw1
        go_wp2_with fail
        refine bodyPost_ret (results_row_tmp rfl _ _ w.heap.size _ _ _ _ rfl HS.out.1 Tryd.underlying46 rfl (by kernel_rfl)) rfl ⟨HS.out.2, ?_⟩
        rw [HFn.out]
        dsimp only
        rw [show (k : Int) = (k : Int) - 1 + 1 by omega]
        rfl
  · have hcut := hRa.cut 1 (n - 1) (by omega)
    rw [List.take_of_length_le (by rw [List.length_drop]; omega)] at hcut
    have hc2 : ¬ (1 = c) := fun e => hc1 e.symm
    have hci : (1 : Int) ≤ (c : Int) := by omega
    have HC := Lib.hid (fun (v : World) (hv : Below wa.heap.size wa v) => number_false v (some ⟨g, off + 1, none⟩) (n - 1) (c - 1) (l.drop 1) (hcut.below hv) (hy.drop 1) (by omega))
    cases hT : fsz false (l.drop 1) with
    | none =>
      rw [hT] at HC
      have HFn : Hid (fpart l = none) := Lib.hid (by unfold fpart; rw [if_neg h16, if_neg h32, if_neg h33, if_neg h49, if_neg h48, if_pos h50, fnum_pos l h48, hT]; rfl)
      clear hT hcut hR hRa hbw hrow hwa hsz
      go_enter Tryd.func28, Tryd.ntmps28
      go_upto_region 11 with fail
      rw [← HWa.out] at a0 ⊢
      have hT0 : (fun W : World => W.cell? ⟨g, off, none⟩ = some (.int .u8 50)) wa.drew := a0
      have hgw := World.block_lt_of_cell? _ _ a0
      have HBd := Lib.hid (HBw.out.drew)
      have HRd : Hid (wa.drew.heap[w.heap.size]? = _) := Lib.hid HRow.out
      have HSd : Hid (wa.drew.heap.size = w.heap.size + 1) := Lib.hid HSz.out
      have HCd := Lib.hid (fun (v : World) (hv : Below wa.drew.heap.size wa.drew v) => HC.out v (((Below.refl wa.heap.size wa).drew).trans hv))
      have hgd : g < wa.drew.heap.size := hgw
      refine wp_region_held_drew (S := (fun W : World => W.cell? ⟨g, off, none⟩ = some (.int .u8 50))) (by kernel_rfl) hT0 (fun hHeld => ?_)
      clear hHeld a0 hgw HC HBw HRow HSz HWa
      generalize wa.drew = wd at hT0 HBd HRd HSd HCd hgd ⊢
      refine wpAnyH_take (i := 0) (oi := { dst := some 29, op := Op.move (Operand.tmp 0), type := 23, pos := "ref.go:151", after := #[], guard := none }) (v := ?_) rfl (by kernel_rfl) (by kernel_rfl) (by kernel_rfl) (fun _ _ _ h => h) (Or.inl ⟨by rfl, ?_⟩) (by assumption) ?_
      rotate_left
      · intro w hSw
        try dsimp only at hSw
        go_simp
        try with_reducible rfl
      try simp only [Act.put, List.setIfInBounds_toArray, List.set_cons_zero, List.set_cons_succ]
      refine wpAnyH_take (i := 1) (oi := { dst := some 30, op := Op.slice 23 (Operand.tmp 29) (some (Operand.const (Value.int IntKind.i64 1))) none none, type := 23, pos := "ref.go:151", after := #[{ on := 0, ground := Ground.data }], guard := none }) (v := ?_) rfl (by kernel_rfl) (by kernel_rfl) (by kernel_rfl) (fun _ _ _ h => h) (Or.inl ⟨by rfl, ?_⟩) (by assumption) ?_
      rotate_left
      · intro w hSw
        try dsimp only at hSw
        go_simp
        try with_reducible rfl
      try simp only [Act.put, List.setIfInBounds_toArray, List.set_cons_zero, List.set_cons_succ]
      refine wpAnyH_take (i := 2) (oi := { dst := some 31, op := Op.move (Operand.tmp 0), type := 23, pos := "ref.go:151", after := #[], guard := none }) (v := ?_) rfl (by kernel_rfl) (by kernel_rfl) (by kernel_rfl) (fun _ _ _ h => h) (Or.inl ⟨by rfl, ?_⟩) (by assumption) ?_
      rotate_left
      · intro w hSw
        try dsimp only at hSw
        go_simp
        try with_reducible rfl
      try simp only [Act.put, List.setIfInBounds_toArray, List.set_cons_zero, List.set_cons_succ]
      refine wpAnyH_take (i := 3) (oi := { dst := some 32, op := Op.indexAddr 23 (Operand.tmp 31) (Operand.const (Value.int IntKind.i64 0)), type := 0, pos := "ref.go:151", after := #[{ on := 2, ground := Ground.data }], guard := none }) (v := ?_) rfl (by kernel_rfl) (by kernel_rfl) (by kernel_rfl) (fun _ _ _ h => h) (Or.inl ⟨by rfl, ?_⟩) (by assumption) ?_
      rotate_left
      · intro w hSw
        try dsimp only at hSw
        go_simp
        try with_reducible rfl
      try simp only [Act.put, List.setIfInBounds_toArray, List.set_cons_zero, List.set_cons_succ]
      refine wpAnyH_take (i := 4) (oi := { dst := some 33, op := Op.load 5 (Operand.tmp 32), type := 5, pos := "ref.go:151", after := #[{ on := 3, ground := Ground.data }], guard := none }) (v := ?_) rfl (by kernel_rfl) (by kernel_rfl) (by kernel_rfl) (fun _ _ _ h => h) (Or.inl ⟨by rfl, ?_⟩) (by assumption) ?_
      rotate_left
      · intro w hSw
        try dsimp only at hSw
        go_simp
        try with_reducible rfl
      try simp only [Act.put, List.setIfInBounds_toArray, List.set_cons_zero, List.set_cons_succ]
      refine wpAnyH_take (i := 5) (oi := { dst := some 34, op := Op.binOp BinOp.eql 5 (Operand.tmp 33) (Operand.const (Value.int IntKind.u8 48)) 5, type := 4, pos := "ref.go:151", after := #[{ on := 4, ground := Ground.data }], guard := none }) (v := ?_) rfl (by kernel_rfl) (by kernel_rfl) (by kernel_rfl) (fun _ _ _ h => h) (Or.inl ⟨by rfl, ?_⟩) (by assumption) ?_
      rotate_left
      · intro w hSw
        try dsimp only at hSw
        go_simp
        try with_reducible rfl
      try simp only [Act.put, List.setIfInBounds_toArray, List.set_cons_zero, List.set_cons_succ]
      refine wpAnyH_ready (rs := [6, 10]) (by kernel_rfl) (by simp) ?_
      refine AllReadyH.cons (o := { dst := some 35, op := Op.call { callee := Callee.value (Operand.func 40), args := #[Operand.tmp 30, Operand.tmp 34], argTypes := #[23, 4] }, type := 77, pos := "ref.go:151", after := #[{ on := 1, ground := Ground.data }, { on := 5, ground := Ground.data }], guard := none }) rfl (fun K hK => ?_) (AllReadyH.cons (o := { dst := some 4, op := Op.alloc 25, type := 0, pos := "ref.go:151", after := #[], guard := none }) rfl (fun K hK => ?_) AllReadyH.nil)
      · go_simp
        with_reducible refine (HCd.out _ (Below.refl _ _)).mono ?_
        clear HCd
        rintro e w1 ⟨hb1, rfl⟩
        have hT1 : (fun W : World => W.cell? ⟨g, off, none⟩ = some (.int .u8 50)) w1 := by
          show w1.cell? _ = _
          rw [hb1.cell (p := ⟨g, off, none⟩) hgd]
          exact hT0
        have hr1 := (hb1.block w.heap.size (by have := HSd.out; omega)).trans HRd.out
        have hb1w := HBd.out.trans (hb1.mono (by have := HSd.out; omega))
        have hs1 := hb1.size
        refine hK.out _ _ hT1 (fun _ => ?_)
        clear hK K
        refine wpAnyH_take (i := 7) (oi := { dst := some 28, op := Op.move (Operand.tmp 35), type := 77, pos := "ref.go:151", after := #[{ on := 6, ground := Ground.data }], guard := none }) (v := ?_) rfl (by kernel_rfl) (by kernel_rfl) (by kernel_rfl) (fun _ _ _ h => h) (Or.inl ⟨by rfl, ?_⟩) (by assumption) ?_
        rotate_left
        · intro w hSw
          try dsimp only at hSw
          go_simp
          try with_reducible rfl
        try simp only [Act.put, List.setIfInBounds_toArray, List.set_cons_zero, List.set_cons_succ]
        refine wpAnyH_take (i := 8) (oi := { dst := some 36, op := Op.extract (Operand.tmp 28) 0, type := 25, pos := "ref.go:151", after := #[{ on := 7, ground := Ground.data }], guard := none }) (v := ?_) rfl (by kernel_rfl) (by kernel_rfl) (by kernel_rfl) (fun _ _ _ h => h) (Or.inl ⟨by rfl, ?_⟩) (by assumption) ?_
        rotate_left
        · intro w hSw
          try dsimp only at hSw
          go_simp
          try with_reducible rfl
        try simp only [Act.put, List.setIfInBounds_toArray, List.set_cons_zero, List.set_cons_succ]
        refine wpAnyH_take (i := 9) (oi := { dst := some 37, op := Op.extract (Operand.tmp 28) 1, type := 3, pos := "ref.go:151", after := #[{ on := 7, ground := Ground.data }, { on := 11, ground := Ground.gcOnly Departure.lateStores }], guard := none }) (v := ?_) rfl (by kernel_rfl) (by kernel_rfl) (by kernel_rfl) (fun _ _ _ h => h) (Or.inl ⟨by rfl, ?_⟩) (by assumption) ?_
        rotate_left
        · intro w hSw
          try dsimp only at hSw
          go_simp
          try with_reducible rfl
        try simp only [Act.put, List.setIfInBounds_toArray, List.set_cons_zero, List.set_cons_succ]
        refine wpAnyH_ready (rs := [10]) (by kernel_rfl) (by simp) ?_
        refine AllReadyH.cons (o := { dst := some 4, op := Op.alloc 25, type := 0, pos := "ref.go:151", after := #[], guard := none }) rfl (fun K hK => ?_) AllReadyH.nil
        go_simp
        refine hK.out _ _ (cell_alloc_old hT1 _) (fun _ => ?_)
        clear hK K
        try simp only [Act.put, List.setIfInBounds_toArray, List.set_cons_zero, List.set_cons_succ]
        refine wpAnyH_ready (rs := [11]) (by kernel_rfl) (by simp) ?_
        refine AllReadyH.cons (o := { dst := none, op := Op.store 25 (Operand.tmp 4) (Operand.tmp 36), type := 0, pos := "ref.go:151", after := #[{ on := 10, ground := Ground.data }, { on := 8, ground := Ground.data }, { on := 6, ground := Ground.chain }, { on := 0, ground := Ground.phase }, { on := 1, ground := Ground.phase }, { on := 2, ground := Ground.phase }, { on := 3, ground := Ground.phase }, { on := 4, ground := Ground.phase }, { on := 5, ground := Ground.phase }, { on := 6, ground := Ground.phase }, { on := 7, ground := Ground.phase }, { on := 8, ground := Ground.phase }, { on := 9, ground := Ground.textOnly Departure.lateStores }, { on := 10, ground := Ground.phase }], guard := none }) rfl (fun K hK => ?_) AllReadyH.nil
        go_simp
        refine hK.out _ _ (cell_alloc_old hT1 _) (fun _ => ?_)
        clear hK K
        refine wpAnyH_take (i := 12) (oi := { dst := some 5, op := Op.assign (Operand.tmp 37), type := 3, pos := "ref.go:151", after := #[{ on := 9, ground := Ground.data }, { on := 11, ground := Ground.chain }, { on := 0, ground := Ground.phase }, { on := 1, ground := Ground.phase }, { on := 2, ground := Ground.phase }, { on := 3, ground := Ground.phase }, { on := 4, ground := Ground.phase }, { on := 5, ground := Ground.phase }, { on := 6, ground := Ground.phase }, { on := 7, ground := Ground.phase }, { on := 8, ground := Ground.phase }, { on := 9, ground := Ground.phase }, { on := 10, ground := Ground.phase }, { on := 11, ground := Ground.phase }], guard := none }) (v := ?_) rfl (by kernel_rfl) (by kernel_rfl) (by kernel_rfl) (fun _ _ _ h => h) (Or.inl ⟨by rfl, ?_⟩) (by assumption) ?_
        rotate_left
        · intro w hSw
          try dsimp only at hSw
          go_simp
          try with_reducible rfl
        try simp only [Act.put, List.setIfInBounds_toArray, List.set_cons_zero, List.set_cons_succ]
        refine wpAnyH_done (by kernel_rfl) ?_ _
        have hdn := heap_alloc_new w1 (.cells #[.bool false, .string ⟨#[]⟩, .int .i64 0] 25)
        have hrn : (w1.alloc (.cells #[.bool false, .string ⟨#[]⟩, .int .i64 0] 25)).heap[w.heap.size]? = _ := alloc_old _ hr1
        have hbn := hb1w.alloc hb1w.size (.cells #[.bool false, .string ⟨#[]⟩, .int .i64 0] 25)
        generalize (w1.alloc (.cells #[.bool false, .string ⟨#[]⟩, .int .i64 0] 25)) = w9 at hdn hrn hbn ⊢
        have HD9 := Lib.hid hdn
        have HR9 := Lib.hid (And.intro hrn hbn)
        clear hdn hrn hbn hr1 hb1w hb1 hT0 hT1 HRd HBd
        have hrow1 := HR9.out.1
        have hbw1 := HR9.out.2
        obtain ⟨⟨z0, z1, z2, z3, z4, z5, z6⟩, y0, y1, y2, y3, y4, y5, y6⟩ := row7 hrow1
        obtain ⟨⟨d0, d1, d2⟩, _⟩ := row3 HD9.out
        have hS := set7 (v0 := .int .i64 0) (v1 := .bool false) (v2 := .bool false) (v3 := .string ⟨#[]⟩) (v4 := .int .i64 0) (v5 := .string ⟨#[]⟩) (v6 := .int .i64 0) hrow1 (Nat.le_refl _) hbw1
        have HS := Lib.hid hS
        clear hS hrow1 hbw1
        go_wp2_with fail
        refine bodyPost_ret (results_row_tmp rfl _ _ w.heap.size _ _ _ _ rfl HS.out.1 Tryd.underlying46 rfl (by kernel_rfl)) rfl ⟨HS.out.2, ?_⟩
        rw [HFn.out]
        rfl
      · go_simp
        have hba : Below wd.heap.size wd (wd.alloc (.cells #[.bool false, .string ⟨#[]⟩, .int .i64 0] 25)) := (Below.refl _ _).alloc (Nat.le_refl _) _
        refine hK.out _ _ (cell_alloc_old hT0 _) (fun _ => ?_)
        clear hK K
        try simp only [Act.put, List.setIfInBounds_toArray, List.set_cons_zero, List.set_cons_succ]
        refine wpAnyH_ready (rs := [6]) (by kernel_rfl) (by simp) ?_
        refine AllReadyH.cons (o := { dst := some 35, op := Op.call { callee := Callee.value (Operand.func 40), args := #[Operand.tmp 30, Operand.tmp 34], argTypes := #[23, 4] }, type := 77, pos := "ref.go:151", after := #[{ on := 1, ground := Ground.data }, { on := 5, ground := Ground.data }], guard := none }) rfl (fun K hK => ?_) AllReadyH.nil
        go_simp
        with_reducible refine (HCd.out _ hba).mono ?_
        clear HCd
        rintro e w1 ⟨hb1, rfl⟩
        have hda := (hb1.block wd.heap.size (by rw [box_size]; omega)).trans (heap_alloc_new wd (.cells #[.bool false, .string ⟨#[]⟩, .int .i64 0] 25))
        have hb1 := hba.trans (hb1.mono hba.size)
        have hT1 : (fun W : World => W.cell? ⟨g, off, none⟩ = some (.int .u8 50)) w1 := by
          show w1.cell? _ = _
          rw [hb1.cell (p := ⟨g, off, none⟩) hgd]
          exact hT0
        have hr1 := (hb1.block w.heap.size (by have := HSd.out; omega)).trans HRd.out
        have hb1w := HBd.out.trans (hb1.mono (by have := HSd.out; omega))
        refine hK.out _ _ hT1 (fun _ => ?_)
        clear hK K hba
        refine wpAnyH_take (i := 7) (oi := { dst := some 28, op := Op.move (Operand.tmp 35), type := 77, pos := "ref.go:151", after := #[{ on := 6, ground := Ground.data }], guard := none }) (v := ?_) rfl (by kernel_rfl) (by kernel_rfl) (by kernel_rfl) (fun _ _ _ h => h) (Or.inl ⟨by rfl, ?_⟩) (by assumption) ?_
        rotate_left
        · intro w hSw
          try dsimp only at hSw
          go_simp
          try with_reducible rfl
        try simp only [Act.put, List.setIfInBounds_toArray, List.set_cons_zero, List.set_cons_succ]
        refine wpAnyH_take (i := 8) (oi := { dst := some 36, op := Op.extract (Operand.tmp 28) 0, type := 25, pos := "ref.go:151", after := #[{ on := 7, ground := Ground.data }], guard := none }) (v := ?_) rfl (by kernel_rfl) (by kernel_rfl) (by kernel_rfl) (fun _ _ _ h => h) (Or.inl ⟨by rfl, ?_⟩) (by assumption) ?_
        rotate_left
        · intro w hSw
          try dsimp only at hSw
          go_simp
          try with_reducible rfl
        try simp only [Act.put, List.setIfInBounds_toArray, List.set_cons_zero, List.set_cons_succ]
        refine wpAnyH_take (i := 9) (oi := { dst := some 37, op := Op.extract (Operand.tmp 28) 1, type := 3, pos := "ref.go:151", after := #[{ on := 7, ground := Ground.data }, { on := 11, ground := Ground.gcOnly Departure.lateStores }], guard := none }) (v := ?_) rfl (by kernel_rfl) (by kernel_rfl) (by kernel_rfl) (fun _ _ _ h => h) (Or.inl ⟨by rfl, ?_⟩) (by assumption) ?_
        rotate_left
        · intro w hSw
          try dsimp only at hSw
          go_simp
          try with_reducible rfl
        try simp only [Act.put, List.setIfInBounds_toArray, List.set_cons_zero, List.set_cons_succ]
        obtain ⟨⟨e0, e1, e2⟩, f0, f1, f2⟩ := row3 hda
        have hset := set3 (v0 := .bool false) (v1 := .string ⟨#[]⟩) (v2 := .int .i64 0) hda (Nat.zero_le _) (Below.refl 0 w1)
        have hlt : w.heap.size < wd.heap.size := by have := HSd.out; omega
        have hkp : ∀ k, k ≠ wd.heap.size → (((w1.setCell ⟨wd.heap.size, 0, none⟩ (.bool false)).setCell ⟨wd.heap.size, 1, none⟩ (.string ⟨#[]⟩)).setCell ⟨wd.heap.size, 2, none⟩ (.int .i64 0)).heap[k]? = w1.heap[k]? := fun k hk => by
          rw [Below.heap_setCell _ _ _ k hk, Below.heap_setCell _ _ _ k hk, Below.heap_setCell _ _ _ k hk]
        have hbs : Below w.heap.size w (((w1.setCell ⟨wd.heap.size, 0, none⟩ (.bool false)).setCell ⟨wd.heap.size, 1, none⟩ (.string ⟨#[]⟩)).setCell ⟨wd.heap.size, 2, none⟩ (.int .i64 0)) := ((hb1w.setCell (p := ⟨wd.heap.size, 0, none⟩) (Nat.le_of_lt hlt) _).setCell (p := ⟨wd.heap.size, 1, none⟩) (Nat.le_of_lt hlt) _).setCell (p := ⟨wd.heap.size, 2, none⟩) (Nat.le_of_lt hlt) _
        have hT2 : (fun W : World => W.cell? ⟨g, off, none⟩ = some (.int .u8 50)) (((w1.setCell ⟨wd.heap.size, 0, none⟩ (.bool false)).setCell ⟨wd.heap.size, 1, none⟩ (.string ⟨#[]⟩)).setCell ⟨wd.heap.size, 2, none⟩ (.int .i64 0)) := by
          show World.cell? _ _ = _
          have hT1' : w1.cell? _ = _ := hT1
          rw [← hT1']
          simp only [World.cell?, hkp g (by omega)]
        have hrn := (hkp w.heap.size (by omega)).trans hr1
        refine wpAnyH_ready (rs := [11]) (by kernel_rfl) (by simp) ?_
        refine AllReadyH.cons (o := { dst := none, op := Op.store 25 (Operand.tmp 4) (Operand.tmp 36), type := 0, pos := "ref.go:151", after := #[{ on := 10, ground := Ground.data }, { on := 8, ground := Ground.data }, { on := 6, ground := Ground.chain }, { on := 0, ground := Ground.phase }, { on := 1, ground := Ground.phase }, { on := 2, ground := Ground.phase }, { on := 3, ground := Ground.phase }, { on := 4, ground := Ground.phase }, { on := 5, ground := Ground.phase }, { on := 6, ground := Ground.phase }, { on := 7, ground := Ground.phase }, { on := 8, ground := Ground.phase }, { on := 9, ground := Ground.textOnly Departure.lateStores }, { on := 10, ground := Ground.phase }], guard := none }) rfl (fun K hK => ?_) AllReadyH.nil
        go_simp
        refine hK.out _ _ hT2 (fun _ => ?_)
        clear hK K
        refine wpAnyH_take (i := 12) (oi := { dst := some 5, op := Op.assign (Operand.tmp 37), type := 3, pos := "ref.go:151", after := #[{ on := 9, ground := Ground.data }, { on := 11, ground := Ground.chain }, { on := 0, ground := Ground.phase }, { on := 1, ground := Ground.phase }, { on := 2, ground := Ground.phase }, { on := 3, ground := Ground.phase }, { on := 4, ground := Ground.phase }, { on := 5, ground := Ground.phase }, { on := 6, ground := Ground.phase }, { on := 7, ground := Ground.phase }, { on := 8, ground := Ground.phase }, { on := 9, ground := Ground.phase }, { on := 10, ground := Ground.phase }, { on := 11, ground := Ground.phase }], guard := none }) (v := ?_) rfl (by kernel_rfl) (by kernel_rfl) (by kernel_rfl) (fun _ _ _ h => h) (Or.inl ⟨by rfl, ?_⟩) (by assumption) ?_
        rotate_left
        · intro w hSw
          try dsimp only at hSw
          go_simp
          try with_reducible rfl
        try simp only [Act.put, List.setIfInBounds_toArray, List.set_cons_zero, List.set_cons_succ]
        refine wpAnyH_done (by kernel_rfl) ?_ _
        have HD9 := Lib.hid hset.1
        have HR9 := Lib.hid (And.intro hrn hbs)
        clear hset hrn hbs hr1 hb1w hb1 hT0 hT1 hT2 HRd HBd hkp hda e0 e1 e2 f0 f1 f2
        generalize (((w1.setCell ⟨wd.heap.size, 0, none⟩ (.bool false)).setCell ⟨wd.heap.size, 1, none⟩ (.string ⟨#[]⟩)).setCell ⟨wd.heap.size, 2, none⟩ (.int .i64 0)) = w9 at HD9 HR9 ⊢
        have hrow1 := HR9.out.1
        have hbw1 := HR9.out.2
        obtain ⟨⟨z0, z1, z2, z3, z4, z5, z6⟩, y0, y1, y2, y3, y4, y5, y6⟩ := row7 hrow1
        obtain ⟨⟨d0, d1, d2⟩, _⟩ := row3 HD9.out
        have hS := set7 (v0 := .int .i64 0) (v1 := .bool false) (v2 := .bool false) (v3 := .string ⟨#[]⟩) (v4 := .int .i64 0) (v5 := .string ⟨#[]⟩) (v6 := .int .i64 0) hrow1 (Nat.le_refl _) hbw1
        have HS := Lib.hid hS
        clear hS hrow1 hbw1
        go_wp2_with fail
        refine bodyPost_ret (results_row_tmp rfl _ _ w.heap.size _ _ _ _ rfl HS.out.1 Tryd.underlying46 rfl (by kernel_rfl)) rfl ⟨HS.out.2, ?_⟩
        rw [HFn.out]
        rfl
    | some r =>
      obtain ⟨neg, dg, ex, k⟩ := r
      rw [hT] at HC
      have HFn : Hid (fpart l = some (⟨2, false, neg, strOf dg, ex, ⟨#[]⟩, 0⟩, k)) := Lib.hid (by unfold fpart; rw [if_neg h16, if_neg h32, if_neg h33, if_neg h49, if_neg h48, if_pos h50, fnum_pos l h48, hT]; rfl)
      have hk := fsz_le hT
      have hk1 : 1 ≤ k ∧ k ≤ 200000 ∧ ((k : Int) - 1 == 0) = false := by
        obtain ⟨hk2, hk3⟩ := fsz_low hT
        dsimp only at hk hk2
        refine ⟨hk.1, ?_, beq_eq_false_iff_ne.2 (by omega)⟩
        have := hk.2
        rw [List.length_drop] at this
        omega
      obtain ⟨hk1, hk200, hk0⟩ := hk1
      clear hT hcut hR hRa hbw hrow hwa hsz hk
      go_enter Tryd.func28, Tryd.ntmps28
      go_upto_region 11 with fail
      rw [← HWa.out] at a0 ⊢
      have hT0 : (fun W : World => W.cell? ⟨g, off, none⟩ = some (.int .u8 50)) wa.drew := a0
      have hgw := World.block_lt_of_cell? _ _ a0
      have HBd := Lib.hid (HBw.out.drew)
      have HRd : Hid (wa.drew.heap[w.heap.size]? = _) := Lib.hid HRow.out
      have HSd : Hid (wa.drew.heap.size = w.heap.size + 1) := Lib.hid HSz.out
      have HCd := Lib.hid (fun (v : World) (hv : Below wa.drew.heap.size wa.drew v) => HC.out v (((Below.refl wa.heap.size wa).drew).trans hv))
      have hgd : g < wa.drew.heap.size := hgw
      refine wp_region_held_drew (S := (fun W : World => W.cell? ⟨g, off, none⟩ = some (.int .u8 50))) (by kernel_rfl) hT0 (fun hHeld => ?_)
      clear hHeld a0 hgw HC HBw HRow HSz HWa
      generalize wa.drew = wd at hT0 HBd HRd HSd HCd hgd ⊢
      refine wpAnyH_take (i := 0) (oi := { dst := some 29, op := Op.move (Operand.tmp 0), type := 23, pos := "ref.go:151", after := #[], guard := none }) (v := ?_) rfl (by kernel_rfl) (by kernel_rfl) (by kernel_rfl) (fun _ _ _ h => h) (Or.inl ⟨by rfl, ?_⟩) (by assumption) ?_
      rotate_left
      · intro w hSw
        try dsimp only at hSw
        go_simp
        try with_reducible rfl
      try simp only [Act.put, List.setIfInBounds_toArray, List.set_cons_zero, List.set_cons_succ]
      refine wpAnyH_take (i := 1) (oi := { dst := some 30, op := Op.slice 23 (Operand.tmp 29) (some (Operand.const (Value.int IntKind.i64 1))) none none, type := 23, pos := "ref.go:151", after := #[{ on := 0, ground := Ground.data }], guard := none }) (v := ?_) rfl (by kernel_rfl) (by kernel_rfl) (by kernel_rfl) (fun _ _ _ h => h) (Or.inl ⟨by rfl, ?_⟩) (by assumption) ?_
      rotate_left
      · intro w hSw
        try dsimp only at hSw
        go_simp
        try with_reducible rfl
      try simp only [Act.put, List.setIfInBounds_toArray, List.set_cons_zero, List.set_cons_succ]
      refine wpAnyH_take (i := 2) (oi := { dst := some 31, op := Op.move (Operand.tmp 0), type := 23, pos := "ref.go:151", after := #[], guard := none }) (v := ?_) rfl (by kernel_rfl) (by kernel_rfl) (by kernel_rfl) (fun _ _ _ h => h) (Or.inl ⟨by rfl, ?_⟩) (by assumption) ?_
      rotate_left
      · intro w hSw
        try dsimp only at hSw
        go_simp
        try with_reducible rfl
      try simp only [Act.put, List.setIfInBounds_toArray, List.set_cons_zero, List.set_cons_succ]
      refine wpAnyH_take (i := 3) (oi := { dst := some 32, op := Op.indexAddr 23 (Operand.tmp 31) (Operand.const (Value.int IntKind.i64 0)), type := 0, pos := "ref.go:151", after := #[{ on := 2, ground := Ground.data }], guard := none }) (v := ?_) rfl (by kernel_rfl) (by kernel_rfl) (by kernel_rfl) (fun _ _ _ h => h) (Or.inl ⟨by rfl, ?_⟩) (by assumption) ?_
      rotate_left
      · intro w hSw
        try dsimp only at hSw
        go_simp
        try with_reducible rfl
      try simp only [Act.put, List.setIfInBounds_toArray, List.set_cons_zero, List.set_cons_succ]
      refine wpAnyH_take (i := 4) (oi := { dst := some 33, op := Op.load 5 (Operand.tmp 32), type := 5, pos := "ref.go:151", after := #[{ on := 3, ground := Ground.data }], guard := none }) (v := ?_) rfl (by kernel_rfl) (by kernel_rfl) (by kernel_rfl) (fun _ _ _ h => h) (Or.inl ⟨by rfl, ?_⟩) (by assumption) ?_
      rotate_left
      · intro w hSw
        try dsimp only at hSw
        go_simp
        try with_reducible rfl
      try simp only [Act.put, List.setIfInBounds_toArray, List.set_cons_zero, List.set_cons_succ]
      refine wpAnyH_take (i := 5) (oi := { dst := some 34, op := Op.binOp BinOp.eql 5 (Operand.tmp 33) (Operand.const (Value.int IntKind.u8 48)) 5, type := 4, pos := "ref.go:151", after := #[{ on := 4, ground := Ground.data }], guard := none }) (v := ?_) rfl (by kernel_rfl) (by kernel_rfl) (by kernel_rfl) (fun _ _ _ h => h) (Or.inl ⟨by rfl, ?_⟩) (by assumption) ?_
      rotate_left
      · intro w hSw
        try dsimp only at hSw
        go_simp
        try with_reducible rfl
      try simp only [Act.put, List.setIfInBounds_toArray, List.set_cons_zero, List.set_cons_succ]
      refine wpAnyH_ready (rs := [6, 10]) (by kernel_rfl) (by simp) ?_
      refine AllReadyH.cons (o := { dst := some 35, op := Op.call { callee := Callee.value (Operand.func 40), args := #[Operand.tmp 30, Operand.tmp 34], argTypes := #[23, 4] }, type := 77, pos := "ref.go:151", after := #[{ on := 1, ground := Ground.data }, { on := 5, ground := Ground.data }], guard := none }) rfl (fun K hK => ?_) (AllReadyH.cons (o := { dst := some 4, op := Op.alloc 25, type := 0, pos := "ref.go:151", after := #[], guard := none }) rfl (fun K hK => ?_) AllReadyH.nil)
      · go_simp
        with_reducible refine (HCd.out _ (Below.refl _ _)).mono ?_
        clear HCd
        rintro e w1 ⟨hb1, rfl⟩
        have hT1 : (fun W : World => W.cell? ⟨g, off, none⟩ = some (.int .u8 50)) w1 := by
          show w1.cell? _ = _
          rw [hb1.cell (p := ⟨g, off, none⟩) hgd]
          exact hT0
        have hr1 := (hb1.block w.heap.size (by have := HSd.out; omega)).trans HRd.out
        have hb1w := HBd.out.trans (hb1.mono (by have := HSd.out; omega))
        have hs1 := hb1.size
        refine hK.out _ _ hT1 (fun _ => ?_)
        clear hK K
        refine wpAnyH_take (i := 7) (oi := { dst := some 28, op := Op.move (Operand.tmp 35), type := 77, pos := "ref.go:151", after := #[{ on := 6, ground := Ground.data }], guard := none }) (v := ?_) rfl (by kernel_rfl) (by kernel_rfl) (by kernel_rfl) (fun _ _ _ h => h) (Or.inl ⟨by rfl, ?_⟩) (by assumption) ?_
        rotate_left
        · intro w hSw
          try dsimp only at hSw
          go_simp
          try with_reducible rfl
        try simp only [Act.put, List.setIfInBounds_toArray, List.set_cons_zero, List.set_cons_succ]
        refine wpAnyH_take (i := 8) (oi := { dst := some 36, op := Op.extract (Operand.tmp 28) 0, type := 25, pos := "ref.go:151", after := #[{ on := 7, ground := Ground.data }], guard := none }) (v := ?_) rfl (by kernel_rfl) (by kernel_rfl) (by kernel_rfl) (fun _ _ _ h => h) (Or.inl ⟨by rfl, ?_⟩) (by assumption) ?_
        rotate_left
        · intro w hSw
          try dsimp only at hSw
          go_simp
          try with_reducible rfl
        try simp only [Act.put, List.setIfInBounds_toArray, List.set_cons_zero, List.set_cons_succ]
        refine wpAnyH_take (i := 9) (oi := { dst := some 37, op := Op.extract (Operand.tmp 28) 1, type := 3, pos := "ref.go:151", after := #[{ on := 7, ground := Ground.data }, { on := 11, ground := Ground.gcOnly Departure.lateStores }], guard := none }) (v := ?_) rfl (by kernel_rfl) (by kernel_rfl) (by kernel_rfl) (fun _ _ _ h => h) (Or.inl ⟨by rfl, ?_⟩) (by assumption) ?_
        rotate_left
        · intro w hSw
          try dsimp only at hSw
          go_simp
          try with_reducible rfl
        try simp only [Act.put, List.setIfInBounds_toArray, List.set_cons_zero, List.set_cons_succ]
        refine wpAnyH_ready (rs := [10]) (by kernel_rfl) (by simp) ?_
        refine AllReadyH.cons (o := { dst := some 4, op := Op.alloc 25, type := 0, pos := "ref.go:151", after := #[], guard := none }) rfl (fun K hK => ?_) AllReadyH.nil
        go_simp
        refine hK.out _ _ (cell_alloc_old hT1 _) (fun _ => ?_)
        clear hK K
        try simp only [Act.put, List.setIfInBounds_toArray, List.set_cons_zero, List.set_cons_succ]
        refine wpAnyH_ready (rs := [11]) (by kernel_rfl) (by simp) ?_
        refine AllReadyH.cons (o := { dst := none, op := Op.store 25 (Operand.tmp 4) (Operand.tmp 36), type := 0, pos := "ref.go:151", after := #[{ on := 10, ground := Ground.data }, { on := 8, ground := Ground.data }, { on := 6, ground := Ground.chain }, { on := 0, ground := Ground.phase }, { on := 1, ground := Ground.phase }, { on := 2, ground := Ground.phase }, { on := 3, ground := Ground.phase }, { on := 4, ground := Ground.phase }, { on := 5, ground := Ground.phase }, { on := 6, ground := Ground.phase }, { on := 7, ground := Ground.phase }, { on := 8, ground := Ground.phase }, { on := 9, ground := Ground.textOnly Departure.lateStores }, { on := 10, ground := Ground.phase }], guard := none }) rfl (fun K hK => ?_) AllReadyH.nil
        go_simp
        refine hK.out _ _ (cell_alloc_old hT1 _) (fun _ => ?_)
        clear hK K
        refine wpAnyH_take (i := 12) (oi := { dst := some 5, op := Op.assign (Operand.tmp 37), type := 3, pos := "ref.go:151", after := #[{ on := 9, ground := Ground.data }, { on := 11, ground := Ground.chain }, { on := 0, ground := Ground.phase }, { on := 1, ground := Ground.phase }, { on := 2, ground := Ground.phase }, { on := 3, ground := Ground.phase }, { on := 4, ground := Ground.phase }, { on := 5, ground := Ground.phase }, { on := 6, ground := Ground.phase }, { on := 7, ground := Ground.phase }, { on := 8, ground := Ground.phase }, { on := 9, ground := Ground.phase }, { on := 10, ground := Ground.phase }, { on := 11, ground := Ground.phase }], guard := none }) (v := ?_) rfl (by kernel_rfl) (by kernel_rfl) (by kernel_rfl) (fun _ _ _ h => h) (Or.inl ⟨by rfl, ?_⟩) (by assumption) ?_
        rotate_left
        · intro w hSw
          try dsimp only at hSw
          go_simp
          try with_reducible rfl
        try simp only [Act.put, List.setIfInBounds_toArray, List.set_cons_zero, List.set_cons_succ]
        refine wpAnyH_done (by kernel_rfl) ?_ _
        have hdn := heap_alloc_new w1 (.cells #[.bool neg, .string (strOf dg), .int .i64 ex] 25)
        have hrn : (w1.alloc (.cells #[.bool neg, .string (strOf dg), .int .i64 ex] 25)).heap[w.heap.size]? = _ := alloc_old _ hr1
        have hbn := hb1w.alloc hb1w.size (.cells #[.bool neg, .string (strOf dg), .int .i64 ex] 25)
        generalize (w1.alloc (.cells #[.bool neg, .string (strOf dg), .int .i64 ex] 25)) = w9 at hdn hrn hbn ⊢
        have HD9 := Lib.hid hdn
        have HR9 := Lib.hid (And.intro hrn hbn)
        clear hdn hrn hbn hr1 hb1w hb1 hT0 hT1 HRd HBd
        have hrow1 := HR9.out.1
        have hbw1 := HR9.out.2
        obtain ⟨⟨z0, z1, z2, z3, z4, z5, z6⟩, y0, y1, y2, y3, y4, y5, y6⟩ := row7 hrow1
        obtain ⟨⟨d0, d1, d2⟩, _⟩ := row3 HD9.out
        have hS := set7 (v0 := .int .i64 2) (v1 := .bool false) (v2 := .bool neg) (v3 := .string (strOf dg)) (v4 := .int .i64 ex) (v5 := .string ⟨#[]⟩) (v6 := .int .i64 0) hrow1 (Nat.le_refl _) hbw1
        have HS := Lib.hid hS
        clear hS hrow1 hbw1
        go_wp2_with fail
        refine bodyPost_ret (results_row_tmp rfl _ _ w.heap.size _ _ _ _ rfl HS.out.1 Tryd.underlying46 rfl (by kernel_rfl)) rfl ⟨HS.out.2, ?_⟩
        rw [HFn.out]
        dsimp only
        rw [show (k : Int) = (k : Int) - 1 + 1 by omega]
        rfl
      · go_simp
        have hba : Below wd.heap.size wd (wd.alloc (.cells #[.bool false, .string ⟨#[]⟩, .int .i64 0] 25)) := (Below.refl _ _).alloc (Nat.le_refl _) _
        refine hK.out _ _ (cell_alloc_old hT0 _) (fun _ => ?_)
        clear hK K
        try simp only [Act.put, List.setIfInBounds_toArray, List.set_cons_zero, List.set_cons_succ]
        refine wpAnyH_ready (rs := [6]) (by kernel_rfl) (by simp) ?_
        refine AllReadyH.cons (o := { dst := some 35, op := Op.call { callee := Callee.value (Operand.func 40), args := #[Operand.tmp 30, Operand.tmp 34], argTypes := #[23, 4] }, type := 77, pos := "ref.go:151", after := #[{ on := 1, ground := Ground.data }, { on := 5, ground := Ground.data }], guard := none }) rfl (fun K hK => ?_) AllReadyH.nil
        go_simp
        with_reducible refine (HCd.out _ hba).mono ?_
        clear HCd
        rintro e w1 ⟨hb1, rfl⟩
        have hda := (hb1.block wd.heap.size (by rw [box_size]; omega)).trans (heap_alloc_new wd (.cells #[.bool false, .string ⟨#[]⟩, .int .i64 0] 25))
        have hb1 := hba.trans (hb1.mono hba.size)
        have hT1 : (fun W : World => W.cell? ⟨g, off, none⟩ = some (.int .u8 50)) w1 := by
          show w1.cell? _ = _
          rw [hb1.cell (p := ⟨g, off, none⟩) hgd]
          exact hT0
        have hr1 := (hb1.block w.heap.size (by have := HSd.out; omega)).trans HRd.out
        have hb1w := HBd.out.trans (hb1.mono (by have := HSd.out; omega))
        refine hK.out _ _ hT1 (fun _ => ?_)
        clear hK K hba
        refine wpAnyH_take (i := 7) (oi := { dst := some 28, op := Op.move (Operand.tmp 35), type := 77, pos := "ref.go:151", after := #[{ on := 6, ground := Ground.data }], guard := none }) (v := ?_) rfl (by kernel_rfl) (by kernel_rfl) (by kernel_rfl) (fun _ _ _ h => h) (Or.inl ⟨by rfl, ?_⟩) (by assumption) ?_
        rotate_left
        · intro w hSw
          try dsimp only at hSw
          go_simp
          try with_reducible rfl
        try simp only [Act.put, List.setIfInBounds_toArray, List.set_cons_zero, List.set_cons_succ]
        refine wpAnyH_take (i := 8) (oi := { dst := some 36, op := Op.extract (Operand.tmp 28) 0, type := 25, pos := "ref.go:151", after := #[{ on := 7, ground := Ground.data }], guard := none }) (v := ?_) rfl (by kernel_rfl) (by kernel_rfl) (by kernel_rfl) (fun _ _ _ h => h) (Or.inl ⟨by rfl, ?_⟩) (by assumption) ?_
        rotate_left
        · intro w hSw
          try dsimp only at hSw
          go_simp
          try with_reducible rfl
        try simp only [Act.put, List.setIfInBounds_toArray, List.set_cons_zero, List.set_cons_succ]
        refine wpAnyH_take (i := 9) (oi := { dst := some 37, op := Op.extract (Operand.tmp 28) 1, type := 3, pos := "ref.go:151", after := #[{ on := 7, ground := Ground.data }, { on := 11, ground := Ground.gcOnly Departure.lateStores }], guard := none }) (v := ?_) rfl (by kernel_rfl) (by kernel_rfl) (by kernel_rfl) (fun _ _ _ h => h) (Or.inl ⟨by rfl, ?_⟩) (by assumption) ?_
        rotate_left
        · intro w hSw
          try dsimp only at hSw
          go_simp
          try with_reducible rfl
        try simp only [Act.put, List.setIfInBounds_toArray, List.set_cons_zero, List.set_cons_succ]
        obtain ⟨⟨e0, e1, e2⟩, f0, f1, f2⟩ := row3 hda
        have hset := set3 (v0 := .bool neg) (v1 := .string (strOf dg)) (v2 := .int .i64 ex) hda (Nat.zero_le _) (Below.refl 0 w1)
        have hlt : w.heap.size < wd.heap.size := by have := HSd.out; omega
        have hkp : ∀ k, k ≠ wd.heap.size → (((w1.setCell ⟨wd.heap.size, 0, none⟩ (.bool neg)).setCell ⟨wd.heap.size, 1, none⟩ (.string (strOf dg))).setCell ⟨wd.heap.size, 2, none⟩ (.int .i64 ex)).heap[k]? = w1.heap[k]? := fun k hk => by
          rw [Below.heap_setCell _ _ _ k hk, Below.heap_setCell _ _ _ k hk, Below.heap_setCell _ _ _ k hk]
        have hbs : Below w.heap.size w (((w1.setCell ⟨wd.heap.size, 0, none⟩ (.bool neg)).setCell ⟨wd.heap.size, 1, none⟩ (.string (strOf dg))).setCell ⟨wd.heap.size, 2, none⟩ (.int .i64 ex)) := ((hb1w.setCell (p := ⟨wd.heap.size, 0, none⟩) (Nat.le_of_lt hlt) _).setCell (p := ⟨wd.heap.size, 1, none⟩) (Nat.le_of_lt hlt) _).setCell (p := ⟨wd.heap.size, 2, none⟩) (Nat.le_of_lt hlt) _
        have hT2 : (fun W : World => W.cell? ⟨g, off, none⟩ = some (.int .u8 50)) (((w1.setCell ⟨wd.heap.size, 0, none⟩ (.bool neg)).setCell ⟨wd.heap.size, 1, none⟩ (.string (strOf dg))).setCell ⟨wd.heap.size, 2, none⟩ (.int .i64 ex)) := by
          show World.cell? _ _ = _
          have hT1' : w1.cell? _ = _ := hT1
          rw [← hT1']
          simp only [World.cell?, hkp g (by omega)]
        have hrn := (hkp w.heap.size (by omega)).trans hr1
        refine wpAnyH_ready (rs := [11]) (by kernel_rfl) (by simp) ?_
        refine AllReadyH.cons (o := { dst := none, op := Op.store 25 (Operand.tmp 4) (Operand.tmp 36), type := 0, pos := "ref.go:151", after := #[{ on := 10, ground := Ground.data }, { on := 8, ground := Ground.data }, { on := 6, ground := Ground.chain }, { on := 0, ground := Ground.phase }, { on := 1, ground := Ground.phase }, { on := 2, ground := Ground.phase }, { on := 3, ground := Ground.phase }, { on := 4, ground := Ground.phase }, { on := 5, ground := Ground.phase }, { on := 6, ground := Ground.phase }, { on := 7, ground := Ground.phase }, { on := 8, ground := Ground.phase }, { on := 9, ground := Ground.textOnly Departure.lateStores }, { on := 10, ground := Ground.phase }], guard := none }) rfl (fun K hK => ?_) AllReadyH.nil
        go_simp
        refine hK.out _ _ hT2 (fun _ => ?_)
        clear hK K
        refine wpAnyH_take (i := 12) (oi := { dst := some 5, op := Op.assign (Operand.tmp 37), type := 3, pos := "ref.go:151", after := #[{ on := 9, ground := Ground.data }, { on := 11, ground := Ground.chain }, { on := 0, ground := Ground.phase }, { on := 1, ground := Ground.phase }, { on := 2, ground := Ground.phase }, { on := 3, ground := Ground.phase }, { on := 4, ground := Ground.phase }, { on := 5, ground := Ground.phase }, { on := 6, ground := Ground.phase }, { on := 7, ground := Ground.phase }, { on := 8, ground := Ground.phase }, { on := 9, ground := Ground.phase }, { on := 10, ground := Ground.phase }, { on := 11, ground := Ground.phase }], guard := none }) (v := ?_) rfl (by kernel_rfl) (by kernel_rfl) (by kernel_rfl) (fun _ _ _ h => h) (Or.inl ⟨by rfl, ?_⟩) (by assumption) ?_
        rotate_left
        · intro w hSw
          try dsimp only at hSw
          go_simp
          try with_reducible rfl
        try simp only [Act.put, List.setIfInBounds_toArray, List.set_cons_zero, List.set_cons_succ]
        refine wpAnyH_done (by kernel_rfl) ?_ _
        have HD9 := Lib.hid hset.1
        have HR9 := Lib.hid (And.intro hrn hbs)
        clear hset hrn hbs hr1 hb1w hb1 hT0 hT1 hT2 HRd HBd hkp hda e0 e1 e2 f0 f1 f2
        generalize (((w1.setCell ⟨wd.heap.size, 0, none⟩ (.bool neg)).setCell ⟨wd.heap.size, 1, none⟩ (.string (strOf dg))).setCell ⟨wd.heap.size, 2, none⟩ (.int .i64 ex)) = w9 at HD9 HR9 ⊢
        have hrow1 := HR9.out.1
        have hbw1 := HR9.out.2
        obtain ⟨⟨z0, z1, z2, z3, z4, z5, z6⟩, y0, y1, y2, y3, y4, y5, y6⟩ := row7 hrow1
        obtain ⟨⟨d0, d1, d2⟩, _⟩ := row3 HD9.out
        have hS := set7 (v0 := .int .i64 2) (v1 := .bool false) (v2 := .bool neg) (v3 := .string (strOf dg)) (v4 := .int .i64 ex) (v5 := .string ⟨#[]⟩) (v6 := .int .i64 0) hrow1 (Nat.le_refl _) hbw1
        have HS := Lib.hid hS
        clear hS hrow1 hbw1
        go_wp2_with fail
        refine bodyPost_ret (results_row_tmp rfl _ _ w.heap.size _ _ _ _ rfl HS.out.1 Tryd.underlying46 rfl (by kernel_rfl)) rfl ⟨HS.out.2, ?_⟩
        rw [HFn.out]
        dsimp only
        rw [show (k : Int) = (k : Int) - 1 + 1 by omega]
        rfl
end Go.Proofs.YtebhbcbcnjdgjaaDoor.dk
