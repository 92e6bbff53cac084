/- The document's New, done. -/
import Derived.Test.YticiaiiedagalaaPl26
namespace Go.Proofs.Yticiaiiedagalaa.dk
open Go.PlainAid Go.ChangeShapes Go.WideShapes Go.ChangeAt Go.RowKit

set_option maxHeartbeats 4000000 in
set_option maxRecDepth 20000 in
theorem rNew_ok (n : Nat) (w : World) (h1 : 1 ≤ n) (h2 : n ≤ 32) :
    Calls Try.prog 12 #[.int .i64 n] w fun e w' => ∃ S, e = .returned (.tuple #[.pointer (some ⟨w.heap.size, 0, none⟩), .int .i64 0]) ∧ RefAt w.heap.size w.heap.size S (.slice none 0 0) (rfresh n) w' ∧ Below w.heap.size w w' := by
  have d1 : decide ((n : Int) < 1) = false := decide_eq_false (by omega)
  have d2 : decide ((65536 : Int) < n) = false := decide_eq_false (by omega)
  have HF := Lib.hid (rfresh_at w)
  go_enter Try.func12, Try.ntmps12
  go_wp2_with fail
  go_loopw [5] (fun i wr => ∃ (j : Nat) (S : Value), i = .int .i64 (j : Int) ∧ j ≤ n ∧ Hid (RefAt w.heap.size w.heap.size S (.slice none 0 0) (rfresh j) wr) ∧ Hid (Below w.heap.size w wr)) (fun i _ => n - (intOf i).toNat)
  case atStart => exact ⟨0, _, rfl, Nat.zero_le _, HF.out, (Below.refl _ _).alloc (Nat.le_refl _) _⟩
  case round =>
    obtain ⟨j, S, rfl, hj, HR, HB⟩ := hrel
    clear HF
    by_cases hjn : j < n
    · have dj : decide ((j : Int) < (n : Int)) = true := decide_eq_true (by omega)
      have HR3 := Lib.hid (HR.out.below ((Below.refl wr.heap.size wr).drew))
      have HB3 := Lib.hid (HB.out.trans (((Below.refl wr.heap.size wr).drew).mono HB.out.size))
      have cD : wr.drew.cell? ⟨w.heap.size, 0, none⟩ = some S := by rw [HR3.out.cell 0]; rfl
      have hz := zeros_any wr.drew
      generalize hzz : strOf (List.replicate 64 0) = zz at hz
      have HZ := Lib.hid hz
      have HZZ := Lib.hid hzz
      clear hz hzz
      have hjl : (rfresh j).S.length = j := List.length_replicate
      clear HR HB
      go_wp2_with fail
      refine wp_region_held_drew (S := fun _ => True) (by kernel_rfl) trivial (fun hHeld => ?_)
      have hT : (fun _ : World => True) wr.drew := trivial
      clear hHeld
      refine wpAnyH_take (i := 0) (oi := { dst := some 19, op := Op.move (Operand.tmp 4), type := 29, pos := "ref.go:31", after := #[], guard := none }) (v := ?_) rfl (by kernel_rfl) (by kernel_rfl) (by kernel_rfl) (fun _ _ _ h => h) (Or.inl ⟨by rfl, ?_⟩) (by assumption) ?_
      rotate_left
      · intro w hSw
        try dsimp only at hSw
        go_simp
        try with_reducible rfl
      try simp only [Act.put, List.setIfInBounds_toArray, List.set_cons_zero, List.set_cons_succ]
      refine wpAnyH_take (i := 1) (oi := { dst := some 20, op := Op.move (Operand.tmp 4), type := 29, pos := "ref.go:31", after := #[], guard := none }) (v := ?_) rfl (by kernel_rfl) (by kernel_rfl) (by kernel_rfl) (fun _ _ _ h => h) (Or.inl ⟨by rfl, ?_⟩) (by assumption) ?_
      rotate_left
      · intro w hSw
        try dsimp only at hSw
        go_simp
        try with_reducible rfl
      try simp only [Act.put, List.setIfInBounds_toArray, List.set_cons_zero, List.set_cons_succ]
      refine wpAnyH_take (i := 2) (oi := { dst := some 21, op := Op.nilCheck (Operand.tmp 20), type := 0, pos := "ref.go:31", after := #[{ on := 1, ground := Ground.data }], guard := none }) (v := ?_) rfl (by kernel_rfl) (by kernel_rfl) (by kernel_rfl) (fun _ _ _ h => h) (Or.inl ⟨by rfl, ?_⟩) (by assumption) ?_
      rotate_left
      · intro w hSw
        try dsimp only at hSw
        go_simp
        try with_reducible rfl
      try simp only [Act.put, List.setIfInBounds_toArray, List.set_cons_zero, List.set_cons_succ]
      refine wpAnyH_take (i := 3) (oi := { dst := some 22, op := Op.fieldAddr 44 (Operand.tmp 21) 0, type := 0, pos := "ref.go:31", after := #[{ on := 2, ground := Ground.data }], guard := none }) (v := ?_) rfl (by kernel_rfl) (by kernel_rfl) (by kernel_rfl) (fun _ _ _ h => h) (Or.inl ⟨by rfl, ?_⟩) (by assumption) ?_
      rotate_left
      · intro w hSw
        try dsimp only at hSw
        go_simp
        try with_reducible rfl
      try simp only [Act.put, List.setIfInBounds_toArray, List.set_cons_zero, List.set_cons_succ]
      refine wpAnyH_ready (rs := [4, 5]) (by kernel_rfl) (by simp) ?_
      refine AllReadyH.cons (o := { dst := some 23, op := Op.load 41 (Operand.tmp 22), type := 41, pos := "ref.go:31", after := #[{ on := 3, ground := Ground.data }], guard := none }) rfl (fun K hK => ?_) (AllReadyH.cons (o := { dst := some 24, op := Op.call { callee := Callee.value (Operand.func 35), args := #[], argTypes := #[] }, type := 9, pos := "ref.go:31", after := #[], guard := none }) rfl (fun K hK => ?_) AllReadyH.nil)
      · go_simp
        refine hK.out _ _ trivial (fun _ => ?_)
        clear hK K
        try simp only [Act.put, List.setIfInBounds_toArray, List.set_cons_zero, List.set_cons_succ]
        refine wpAnyH_ready (rs := [5]) (by kernel_rfl) (by simp) ?_
        refine AllReadyH.cons (o := { dst := some 24, op := Op.call { callee := Callee.value (Operand.func 35), args := #[], argTypes := #[] }, type := 9, pos := "ref.go:31", after := #[], guard := none }) rfl (fun K hK => ?_) AllReadyH.nil
        go_simp
        with_reducible refine HZ.out.mono ?_
        clear HZ
        rintro e wz ⟨rfl, hbz⟩
        have HRz := Lib.hid (HR3.out.below hbz)
        have cz : wz.cell? ⟨w.heap.size, 0, none⟩ = some S := by rw [HRz.out.cell 0]; rfl
        have hbn : Below wz.heap.size wz (wz.alloc (.cells #[.string zz] 9)) := (Below.refl _ _).alloc (Nat.le_refl _) _
        have HR4 := Lib.hid (HRz.out.below hbn)
        have cn : (wz.alloc (.cells #[.string zz] 9)).cell? ⟨w.heap.size, 0, none⟩ = some S := by rw [HR4.out.cell 0]; rfl
        have HB4 := Lib.hid ((HB3.out.trans (hbz.mono HB3.out.size)).trans (hbn.mono (HB3.out.trans (hbz.mono HB3.out.size)).size))
        try go_wp2_with fail
        refine hK.out _ _ trivial (fun _ => ?_)
        clear hK K
        try simp only [Act.put, List.setIfInBounds_toArray, List.set_cons_zero, List.set_cons_succ]
        refine wpAnyH_ready (rs := [6]) (by kernel_rfl) (by simp) ?_
        refine AllReadyH.cons (o := { dst := some 25, op := Op.buildSlice 41 1 #[(0, Operand.tmp 24)], type := 41, pos := "ref.go:31", after := #[{ on := 5, ground := Ground.data }], guard := none }) rfl (fun K hK => ?_) AllReadyH.nil
        go_simp
        refine hK.out _ _ trivial (fun _ => ?_)
        clear hK K
        try simp only [Act.put, List.setIfInBounds_toArray, List.set_cons_zero, List.set_cons_succ]
        refine wpAnyH_ready (rs := [7]) (by kernel_rfl) (by simp) ?_
        refine AllReadyH.cons (o := { dst := some 26, op := Op.call { callee := Callee.builtin Builtin.append, args := #[Operand.tmp 23, Operand.tmp 25], argTypes := #[41, 41] }, type := 41, pos := "ref.go:31", after := #[{ on := 4, ground := Ground.data }, { on := 6, ground := Ground.data }, { on := 5, ground := Ground.chain }], guard := none }) rfl (fun K hK => ?_) AllReadyH.nil
        refine step_append_str rfl _ _ rfl w.heap.size S j (scells (rfresh j).S) rfl (by have := HR4.out.hS; rw [hjl] at this; exact this) ⟨wz.heap.size, 0, none⟩ 1 rfl [.string zz] rfl ?_ ?_ (by omega) (Nat.le_of_lt HR4.out.lt) ?_
        · intro x u hx
          show (wz.alloc (.cells #[.string zz] 9)).cell? _ = _
          rw [add_off, Nat.zero_add, cell_of_row _ _ _ _ _ _ (heap_alloc_new wz _)]
          rw [← hx]
          exact List.getElem?_toArray
        · intro u hu
          simp only [List.mem_singleton] at hu
          rw [hu]; rfl
        intro v' w6 hown hgr
        obtain ⟨vp, vc, rfl⟩ := own_form hown
        obtain ⟨cd, fz, hfin, bfin⟩ := HR4.out.more (by omega) (by rw [HZZ.out]; exact hown) hgr
        have HF := Lib.hid hfin
        have BF := Lib.hid (HB4.out.trans bfin)
        clear hfin bfin hown hgr
        refine hK.out _ _ trivial (fun _ => ?_)
        clear hK K
        try simp only [Act.put, List.setIfInBounds_toArray, List.set_cons_zero, List.set_cons_succ]
        refine wpAnyH_take (i := 8) (oi := { dst := some 27, op := Op.nilCheck (Operand.tmp 19), type := 0, pos := "ref.go:31", after := #[{ on := 0, ground := Ground.data }, { on := 0, ground := Ground.phase }, { on := 1, ground := Ground.phase }, { on := 2, ground := Ground.phase }, { on := 3, ground := Ground.phase }, { on := 4, ground := Ground.phase }, { on := 5, ground := Ground.phase }, { on := 6, ground := Ground.phase }, { on := 7, ground := Ground.phase }], guard := none }) (v := ?_) rfl (by kernel_rfl) (by kernel_rfl) (by kernel_rfl) (fun _ _ _ h => h) (Or.inl ⟨by rfl, ?_⟩) (by assumption) ?_
        rotate_left
        · intro w hSw
          try dsimp only at hSw
          go_simp
          try with_reducible rfl
        try simp only [Act.put, List.setIfInBounds_toArray, List.set_cons_zero, List.set_cons_succ]
        refine wpAnyH_take (i := 9) (oi := { dst := some 28, op := Op.fieldAddr 44 (Operand.tmp 27) 0, type := 0, pos := "ref.go:31", after := #[{ on := 8, ground := Ground.data }, { on := 0, ground := Ground.phase }, { on := 1, ground := Ground.phase }, { on := 2, ground := Ground.phase }, { on := 3, ground := Ground.phase }, { on := 4, ground := Ground.phase }, { on := 5, ground := Ground.phase }, { on := 6, ground := Ground.phase }, { on := 7, ground := Ground.phase }], guard := none }) (v := ?_) rfl (by kernel_rfl) (by kernel_rfl) (by kernel_rfl) (fun _ _ _ h => h) (Or.inl ⟨by rfl, ?_⟩) (by assumption) ?_
        rotate_left
        · intro w hSw
          try dsimp only at hSw
          go_simp
          try with_reducible rfl
        try simp only [Act.put, List.setIfInBounds_toArray, List.set_cons_zero, List.set_cons_succ]
        refine wpAnyH_ready (rs := [10]) (by kernel_rfl) (by simp) ?_
        refine AllReadyH.cons (o := { dst := none, op := Op.store 41 (Operand.tmp 28) (Operand.tmp 26), type := 0, pos := "ref.go:31", after := #[{ on := 9, ground := Ground.data }, { on := 7, ground := Ground.data }, { on := 7, ground := Ground.chain }, { on := 0, ground := Ground.phase }, { on := 1, ground := Ground.phase }, { on := 2, ground := Ground.phase }, { on := 3, ground := Ground.phase }, { on := 4, ground := Ground.phase }, { on := 5, ground := Ground.phase }, { on := 6, ground := Ground.phase }, { on := 7, ground := Ground.phase }], guard := none }) rfl (fun K hK => ?_) AllReadyH.nil
        go_simp
        refine hK.out _ _ trivial (fun _ => ?_)
        clear hK K
        try simp only [Act.put, List.setIfInBounds_toArray, List.set_cons_zero, List.set_cons_succ]
        refine wpAnyH_done (by kernel_rfl) ?_ _
        go_wp2
        constructor
        · exact ⟨j + 1, _, by go_num, by omega, HF.out, BF.out⟩
        · show n - ((j : Int) + 1).toNat < n - (j : Int).toNat
          omega
      · go_simp
        with_reducible refine HZ.out.mono ?_
        clear HZ
        rintro e wz ⟨rfl, hbz⟩
        have HRz := Lib.hid (HR3.out.below hbz)
        have cz : wz.cell? ⟨w.heap.size, 0, none⟩ = some S := by rw [HRz.out.cell 0]; rfl
        have hbn : Below wz.heap.size wz (wz.alloc (.cells #[.string zz] 9)) := (Below.refl _ _).alloc (Nat.le_refl _) _
        have HR4 := Lib.hid (HRz.out.below hbn)
        have cn : (wz.alloc (.cells #[.string zz] 9)).cell? ⟨w.heap.size, 0, none⟩ = some S := by rw [HR4.out.cell 0]; rfl
        have HB4 := Lib.hid ((HB3.out.trans (hbz.mono HB3.out.size)).trans (hbn.mono (HB3.out.trans (hbz.mono HB3.out.size)).size))
        try go_wp2_with fail
        refine hK.out _ _ trivial (fun _ => ?_)
        clear hK K
        try simp only [Act.put, List.setIfInBounds_toArray, List.set_cons_zero, List.set_cons_succ]
        refine wpAnyH_ready (rs := [4, 6]) (by kernel_rfl) (by simp) ?_
        refine AllReadyH.cons (o := { dst := some 23, op := Op.load 41 (Operand.tmp 22), type := 41, pos := "ref.go:31", after := #[{ on := 3, ground := Ground.data }], guard := none }) rfl (fun K hK => ?_) (AllReadyH.cons (o := { dst := some 25, op := Op.buildSlice 41 1 #[(0, Operand.tmp 24)], type := 41, pos := "ref.go:31", after := #[{ on := 5, ground := Ground.data }], guard := none }) rfl (fun K hK => ?_) AllReadyH.nil)
        · go_simp
          refine hK.out _ _ trivial (fun _ => ?_)
          clear hK K
          try simp only [Act.put, List.setIfInBounds_toArray, List.set_cons_zero, List.set_cons_succ]
          refine wpAnyH_ready (rs := [6]) (by kernel_rfl) (by simp) ?_
          refine AllReadyH.cons (o := { dst := some 25, op := Op.buildSlice 41 1 #[(0, Operand.tmp 24)], type := 41, pos := "ref.go:31", after := #[{ on := 5, ground := Ground.data }], guard := none }) rfl (fun K hK => ?_) AllReadyH.nil
          go_simp
          refine hK.out _ _ trivial (fun _ => ?_)
          clear hK K
          try simp only [Act.put, List.setIfInBounds_toArray, List.set_cons_zero, List.set_cons_succ]
          refine wpAnyH_ready (rs := [7]) (by kernel_rfl) (by simp) ?_
          refine AllReadyH.cons (o := { dst := some 26, op := Op.call { callee := Callee.builtin Builtin.append, args := #[Operand.tmp 23, Operand.tmp 25], argTypes := #[41, 41] }, type := 41, pos := "ref.go:31", after := #[{ on := 4, ground := Ground.data }, { on := 6, ground := Ground.data }, { on := 5, ground := Ground.chain }], guard := none }) rfl (fun K hK => ?_) AllReadyH.nil
          refine step_append_str rfl _ _ rfl w.heap.size S j (scells (rfresh j).S) rfl (by have := HR4.out.hS; rw [hjl] at this; exact this) ⟨wz.heap.size, 0, none⟩ 1 rfl [.string zz] rfl ?_ ?_ (by omega) (Nat.le_of_lt HR4.out.lt) ?_
          · intro x u hx
            show (wz.alloc (.cells #[.string zz] 9)).cell? _ = _
            rw [add_off, Nat.zero_add, cell_of_row _ _ _ _ _ _ (heap_alloc_new wz _)]
            rw [← hx]
            exact List.getElem?_toArray
          · intro u hu
            simp only [List.mem_singleton] at hu
            rw [hu]; rfl
          intro v' w6 hown hgr
          obtain ⟨vp, vc, rfl⟩ := own_form hown
          obtain ⟨cd, fz, hfin, bfin⟩ := HR4.out.more (by omega) (by rw [HZZ.out]; exact hown) hgr
          have HF := Lib.hid hfin
          have BF := Lib.hid (HB4.out.trans bfin)
          clear hfin bfin hown hgr
          refine hK.out _ _ trivial (fun _ => ?_)
          clear hK K
          try simp only [Act.put, List.setIfInBounds_toArray, List.set_cons_zero, List.set_cons_succ]
          refine wpAnyH_take (i := 8) (oi := { dst := some 27, op := Op.nilCheck (Operand.tmp 19), type := 0, pos := "ref.go:31", after := #[{ on := 0, ground := Ground.data }, { on := 0, ground := Ground.phase }, { on := 1, ground := Ground.phase }, { on := 2, ground := Ground.phase }, { on := 3, ground := Ground.phase }, { on := 4, ground := Ground.phase }, { on := 5, ground := Ground.phase }, { on := 6, ground := Ground.phase }, { on := 7, ground := Ground.phase }], guard := none }) (v := ?_) rfl (by kernel_rfl) (by kernel_rfl) (by kernel_rfl) (fun _ _ _ h => h) (Or.inl ⟨by rfl, ?_⟩) (by assumption) ?_
          rotate_left
          · intro w hSw
            try dsimp only at hSw
            go_simp
            try with_reducible rfl
          try simp only [Act.put, List.setIfInBounds_toArray, List.set_cons_zero, List.set_cons_succ]
          refine wpAnyH_take (i := 9) (oi := { dst := some 28, op := Op.fieldAddr 44 (Operand.tmp 27) 0, type := 0, pos := "ref.go:31", after := #[{ on := 8, ground := Ground.data }, { on := 0, ground := Ground.phase }, { on := 1, ground := Ground.phase }, { on := 2, ground := Ground.phase }, { on := 3, ground := Ground.phase }, { on := 4, ground := Ground.phase }, { on := 5, ground := Ground.phase }, { on := 6, ground := Ground.phase }, { on := 7, ground := Ground.phase }], guard := none }) (v := ?_) rfl (by kernel_rfl) (by kernel_rfl) (by kernel_rfl) (fun _ _ _ h => h) (Or.inl ⟨by rfl, ?_⟩) (by assumption) ?_
          rotate_left
          · intro w hSw
            try dsimp only at hSw
            go_simp
            try with_reducible rfl
          try simp only [Act.put, List.setIfInBounds_toArray, List.set_cons_zero, List.set_cons_succ]
          refine wpAnyH_ready (rs := [10]) (by kernel_rfl) (by simp) ?_
          refine AllReadyH.cons (o := { dst := none, op := Op.store 41 (Operand.tmp 28) (Operand.tmp 26), type := 0, pos := "ref.go:31", after := #[{ on := 9, ground := Ground.data }, { on := 7, ground := Ground.data }, { on := 7, ground := Ground.chain }, { on := 0, ground := Ground.phase }, { on := 1, ground := Ground.phase }, { on := 2, ground := Ground.phase }, { on := 3, ground := Ground.phase }, { on := 4, ground := Ground.phase }, { on := 5, ground := Ground.phase }, { on := 6, ground := Ground.phase }, { on := 7, ground := Ground.phase }], guard := none }) rfl (fun K hK => ?_) AllReadyH.nil
          go_simp
          refine hK.out _ _ trivial (fun _ => ?_)
          clear hK K
          try simp only [Act.put, List.setIfInBounds_toArray, List.set_cons_zero, List.set_cons_succ]
          refine wpAnyH_done (by kernel_rfl) ?_ _
          go_wp2
          constructor
          · exact ⟨j + 1, _, by go_num, by omega, HF.out, BF.out⟩
          · show n - ((j : Int) + 1).toNat < n - (j : Int).toNat
            omega
        · go_simp
          refine hK.out _ _ trivial (fun _ => ?_)
          clear hK K
          try simp only [Act.put, List.setIfInBounds_toArray, List.set_cons_zero, List.set_cons_succ]
          refine wpAnyH_ready (rs := [4]) (by kernel_rfl) (by simp) ?_
          refine AllReadyH.cons (o := { dst := some 23, op := Op.load 41 (Operand.tmp 22), type := 41, pos := "ref.go:31", after := #[{ on := 3, ground := Ground.data }], guard := none }) rfl (fun K hK => ?_) AllReadyH.nil
          go_simp
          refine hK.out _ _ trivial (fun _ => ?_)
          clear hK K
          try simp only [Act.put, List.setIfInBounds_toArray, List.set_cons_zero, List.set_cons_succ]
          refine wpAnyH_ready (rs := [7]) (by kernel_rfl) (by simp) ?_
          refine AllReadyH.cons (o := { dst := some 26, op := Op.call { callee := Callee.builtin Builtin.append, args := #[Operand.tmp 23, Operand.tmp 25], argTypes := #[41, 41] }, type := 41, pos := "ref.go:31", after := #[{ on := 4, ground := Ground.data }, { on := 6, ground := Ground.data }, { on := 5, ground := Ground.chain }], guard := none }) rfl (fun K hK => ?_) AllReadyH.nil
          refine step_append_str rfl _ _ rfl w.heap.size S j (scells (rfresh j).S) rfl (by have := HR4.out.hS; rw [hjl] at this; exact this) ⟨wz.heap.size, 0, none⟩ 1 rfl [.string zz] rfl ?_ ?_ (by omega) (Nat.le_of_lt HR4.out.lt) ?_
          · intro x u hx
            show (wz.alloc (.cells #[.string zz] 9)).cell? _ = _
            rw [add_off, Nat.zero_add, cell_of_row _ _ _ _ _ _ (heap_alloc_new wz _)]
            rw [← hx]
            exact List.getElem?_toArray
          · intro u hu
            simp only [List.mem_singleton] at hu
            rw [hu]; rfl
          intro v' w6 hown hgr
          obtain ⟨vp, vc, rfl⟩ := own_form hown
          obtain ⟨cd, fz, hfin, bfin⟩ := HR4.out.more (by omega) (by rw [HZZ.out]; exact hown) hgr
          have HF := Lib.hid hfin
          have BF := Lib.hid (HB4.out.trans bfin)
          clear hfin bfin hown hgr
          refine hK.out _ _ trivial (fun _ => ?_)
          clear hK K
          try simp only [Act.put, List.setIfInBounds_toArray, List.set_cons_zero, List.set_cons_succ]
          refine wpAnyH_take (i := 8) (oi := { dst := some 27, op := Op.nilCheck (Operand.tmp 19), type := 0, pos := "ref.go:31", after := #[{ on := 0, ground := Ground.data }, { on := 0, ground := Ground.phase }, { on := 1, ground := Ground.phase }, { on := 2, ground := Ground.phase }, { on := 3, ground := Ground.phase }, { on := 4, ground := Ground.phase }, { on := 5, ground := Ground.phase }, { on := 6, ground := Ground.phase }, { on := 7, ground := Ground.phase }], guard := none }) (v := ?_) rfl (by kernel_rfl) (by kernel_rfl) (by kernel_rfl) (fun _ _ _ h => h) (Or.inl ⟨by rfl, ?_⟩) (by assumption) ?_
          rotate_left
          · intro w hSw
            try dsimp only at hSw
            go_simp
            try with_reducible rfl
          try simp only [Act.put, List.setIfInBounds_toArray, List.set_cons_zero, List.set_cons_succ]
          refine wpAnyH_take (i := 9) (oi := { dst := some 28, op := Op.fieldAddr 44 (Operand.tmp 27) 0, type := 0, pos := "ref.go:31", after := #[{ on := 8, ground := Ground.data }, { on := 0, ground := Ground.phase }, { on := 1, ground := Ground.phase }, { on := 2, ground := Ground.phase }, { on := 3, ground := Ground.phase }, { on := 4, ground := Ground.phase }, { on := 5, ground := Ground.phase }, { on := 6, ground := Ground.phase }, { on := 7, ground := Ground.phase }], guard := none }) (v := ?_) rfl (by kernel_rfl) (by kernel_rfl) (by kernel_rfl) (fun _ _ _ h => h) (Or.inl ⟨by rfl, ?_⟩) (by assumption) ?_
          rotate_left
          · intro w hSw
            try dsimp only at hSw
            go_simp
            try with_reducible rfl
          try simp only [Act.put, List.setIfInBounds_toArray, List.set_cons_zero, List.set_cons_succ]
          refine wpAnyH_ready (rs := [10]) (by kernel_rfl) (by simp) ?_
          refine AllReadyH.cons (o := { dst := none, op := Op.store 41 (Operand.tmp 28) (Operand.tmp 26), type := 0, pos := "ref.go:31", after := #[{ on := 9, ground := Ground.data }, { on := 7, ground := Ground.data }, { on := 7, ground := Ground.chain }, { on := 0, ground := Ground.phase }, { on := 1, ground := Ground.phase }, { on := 2, ground := Ground.phase }, { on := 3, ground := Ground.phase }, { on := 4, ground := Ground.phase }, { on := 5, ground := Ground.phase }, { on := 6, ground := Ground.phase }, { on := 7, ground := Ground.phase }], guard := none }) rfl (fun K hK => ?_) AllReadyH.nil
          go_simp
          refine hK.out _ _ trivial (fun _ => ?_)
          clear hK K
          try simp only [Act.put, List.setIfInBounds_toArray, List.set_cons_zero, List.set_cons_succ]
          refine wpAnyH_done (by kernel_rfl) ?_ _
          go_wp2
          constructor
          · exact ⟨j + 1, _, by go_num, by omega, HF.out, BF.out⟩
          · show n - ((j : Int) + 1).toNat < n - (j : Int).toNat
            omega
    · have dj : decide ((j : Int) < (n : Int)) = false := decide_eq_false (by omega)
      obtain rfl : j = n := by omega
      go_wp2
      go_ret2
      exact ⟨_, rfl, HR.out, HB.out⟩
end Go.Proofs.Yticiaiiedagalaa.dk
