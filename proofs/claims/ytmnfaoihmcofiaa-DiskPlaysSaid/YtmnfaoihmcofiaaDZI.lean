/- DiskPlays: the loop. -/
import Derived.Test.YtmnfaoihmcofiaaDZH
import Derived.Deep.DeepCutAuto
import Derived.Deep.CutBlock
namespace Go.Proofs.Ytmnfaoihmcofiaa.dk
open Go.PlainAid Go.ChangeShapes Go.WideShapes Go.ChangeAt Go.RowKit
theorem wf_i64 {x : Int} (h : (Lit.int .i64 x).wf = true) : -9223372036854775808 ≤ x ∧ x ≤ 9223372036854775807 := by
  simp only [Lit.wf, Bool.and_eq_true, decide_eq_true_eq] at h
  exact h
set_option maxHeartbeats 8000000 in
set_option maxRecDepth 20000 in
theorem plays_some (n0 : Int) (o : Option Addr) (on oc : Nat) (os : Nat → Opc) (w : World) (ho : OpsAt w.heap.size w o on os) (hs : Small on os) (n : Nat) (hn1 : 1 ≤ n) (hn : n0 % 16 = n) :
    Calls Try.prog 3 #[.int .i64 n0, .slice o on oc] w fun e w' => e = .returned (.bool true) ∧ Below w.heap.size w w' := by
  have HA := Lib.hid (awake_any w)
  have hn15 : n ≤ 15 := by omega
  have hnn : bits .and .i64 n0 15 = (n : Int) := by rw [and15, hn]
  have HO := Lib.hid ho
  have HSm := Lib.hid hs
  have HS : ∀ w0, Below w.heap.size w w0 → Calls Try.prog 8 #[.slice o on oc] w0 fun e w' => e = .returned (.bool true) ∧ w0 = w' := fun w0 hb => small_any w.heap.size w0 o on oc os (HO.out.below hb) true ⟨fun _ => HSm.out, fun _ => rfl⟩
  clear ho hs hn
  go_enter Try.func3, Try.ntmps3
  go_wp2_with (first | (go_at_call 7; with_reducible refine HA.out.mono ?_; rintro e w0 ⟨rfl, hb0⟩) | (go_at_call 8; with_reducible refine (HS _ hb0).mono ?_; rintro e w1 ⟨rfl, rfl⟩))
  have hN := New_any n w0 hn1 (by omega)
  with_reducible refine hN.mono ?_
  clear hN HS HA
  rintro e w1 ⟨D, L, N, rfl, h1, hb1⟩
  have HR := Lib.hid (rNew_ok n w1 hn1 hn15)
  have H1 := Lib.hid h1
  have HB1 := Lib.hid (hb0.trans (hb1.mono hb0.size))
  have hBw : w.heap.size ≤ w0.heap.size := hb0.size
  clear h1 hb1 hb0
  go_wp2_with fail
  with_reducible refine HR.out.mono ?_
  clear HR
  rintro e w2 ⟨S, rfl, hr2, hb2⟩
  have H2 := Lib.hid (H1.out.below hb2)
  have HR2 := Lib.hid hr2
  have hBr : w.heap.size ≤ w1.heap.size := HB1.out.size
  have HB2 := Lib.hid (HB1.out.trans (hb2.mono HB1.out.size))
  clear hr2 hb2 H1 HB1
  go_wp2_with fail
  go_loopw [14] (fun i wr => ∃ j : Nat, i = .int .i64 (j : Int) ∧ j ≤ on ∧ Hid (St w w0.heap.size D L N w1.heap.size w1.heap.size n j wr)) (fun i _ => on - (intOf i).toNat)
  case atStart => exact ⟨0, rfl, Nat.zero_le _, _, _, _, _, _, { d := H2.out, rr := HR2.out, l := Like.fresh n hn1, wk := by show (0 : Int) ≤ 0; omega, pk := Nat.zero_le _, b := HB2.out }⟩
  case round =>
    clear H2 HR2 HB2
    obtain ⟨j, rfl, hj, HJ⟩ := hrel
    by_cases hjn : j < on
    · have dj : decide ((j : Int) < (on : Int)) = true := decide_eq_true (by omega)
      have hon := HSm.out.1
      have hbk := (HSm.out.2 j hjn)
      have hjs := HJ.out
      obtain ⟨_, _, _, _, _, hjx⟩ := hjs
      have hbj := hjx.b
      clear hjx
      obtain ⟨bb, off, rfl, hop⟩ := HO.out (by omega)
      have hopj := (hop j hjn).below hbj
      have hwr : w.heap.size ≤ wr.heap.size := hbj.size
      clear hop hbj
      generalize hoj : os j = oj at hopj hbk
      clear hoj
      obtain ⟨wt, x, ba, bn, bc, bl, ka, kn, kc, kl⟩ := oj
      have c0 := hopj.c0
      have c1 := hopj.c1
      have c2 := hopj.c2
      have c3 := hopj.c3
      have hwf := hopj.w1
      have HRb := Lib.hid hopj.rb
      have HKb := Lib.hid hopj.kb
      dsimp only at c0 c1 c2 c3 hwf hbk HRb HKb
      have hx := wf_i64 hwf
      have HX := Lib.hid hx
      clear hopj hwf hx
      go_upto_block 2 with fail
      generalize hwo : wr.alloc _ = wo
      have hoA : OAt wr.heap.size #[.int .i64 wt, .int .i64 x, .slice ba bn bc, .slice ka kn kc] wo := by rw [← hwo]; exact heap_alloc_new _ _
      have hbo : Below wr.heap.size wr wo := by rw [← hwo]; exact (Below.refl _ _).alloc (Nat.le_refl _) _
      have HSo := Lib.hid (HJ.out.below hbo)
      have HRo := Lib.hid (HRb.out.below (hbo.mono hwr))
      have HKo := Lib.hid (HKb.out.below (hbo.mono hwr))
      clear HRb HKb HJ c0 c1 c2 c3 hbo hwo hwr
      generalize wr.heap.size = ob at hoA ⊢
      have HOo := Lib.hid hoA
      clear hoA
      go_cut [] (fun wx => Hid (StO w w0.heap.size D L N w1.heap.size w1.heap.size n (j + 1) ob #[.int .i64 wt, .int .i64 x, .slice ba bn bc, .slice ka kn kc] wx))
      case first =>
        have c1 : wo.cell? ⟨ob, 1, none⟩ = some (.int .i64 x) := HOo.out.cell 1
        have c2 : wo.cell? ⟨ob, 2, none⟩ = some (.slice ba bn bc) := HOo.out.cell 2
        have c3 : wo.cell? ⟨ob, 3, none⟩ = some (.slice ka kn kc) := HOo.out.cell 3
        by_cases e12 : wt = 1 ∨ wt = 2
        · have hbd : Below wo.heap.size wo wo.drew := (Below.refl _ _).drew
          obtain ⟨_, _, _, _, _, hjx⟩ := HSo.out
          obtain ⟨ec, hW⟩ := both_write ⟨HOo.out.below hbd, HSo.out.below hbd⟩ (by omega) hBw hBr ba bn bc bl (HRo.out.below (hbd.mono hjx.b.size)) x
          have HW := Lib.hid hW
          have c1' := (HOo.out.below hbd).cell 1
          have c2' := (HOo.out.below hbd).cell 2
          clear hW hbd hjx c1 c2 c3
          have hT : (fun W : World => W.cell? ⟨ob, 1, none⟩ = some (.int .i64 x) ∧ W.cell? ⟨ob, 2, none⟩ = some (.slice ba bn bc)) wo.drew := ⟨c1', c2'⟩
          clear c1' c2'
          rcases e12 with rfl | rfl
          all_goals
            go_wp2_with fail
            refine wp_region_held_drew (S := (fun W : World => W.cell? ⟨ob, 1, none⟩ = some (.int .i64 x) ∧ W.cell? ⟨ob, 2, none⟩ = some (.slice ba bn bc))) (by kernel_rfl) hT (fun hHeld => ?_)
            clear hHeld
            refine wpAnyH_take (i := 0) (oi := { dst := some 78, op := Op.move (Operand.tmp 6), type := 25, pos := "law.go:60", after := #[], guard := none }) (v := ?_) rfl (by kernel_rfl) (by kernel_rfl) (by kernel_rfl) (fun _ _ _ h => h) (Or.inl ⟨by rfl, ?_⟩) (by assumption) ?_
            rotate_left
            · intro w hSw
              try dsimp only at hSw
              go_simp
              try with_reducible rfl
            try simp only [Act.put, List.setIfInBounds_toArray, List.set_cons_zero, List.set_cons_succ]
            refine wpAnyH_take (i := 1) (oi := { dst := some 79, op := Op.fieldAddr 35 (Operand.tmp 15) 1, type := 0, pos := "law.go:60", after := #[], guard := none }) (v := ?_) rfl (by kernel_rfl) (by kernel_rfl) (by kernel_rfl) (fun _ _ _ h => h) (Or.inl ⟨by rfl, ?_⟩) (by assumption) ?_
            rotate_left
            · intro w hSw
              try dsimp only at hSw
              go_simp
              try with_reducible rfl
            try simp only [Act.put, List.setIfInBounds_toArray, List.set_cons_zero, List.set_cons_succ]
            refine wpAnyH_take (i := 2) (oi := { dst := some 80, op := Op.load 3 (Operand.tmp 79), type := 3, pos := "law.go:60", after := #[{ on := 1, ground := Ground.data }], guard := none }) (v := ?_) rfl (by kernel_rfl) (by kernel_rfl) (by kernel_rfl) (fun _ _ _ h => h) (Or.inl ⟨by rfl, ?_⟩) (by assumption) ?_
            rotate_left
            · intro w hSw
              try dsimp only at hSw
              go_simp
              try with_reducible rfl
            try simp only [Act.put, List.setIfInBounds_toArray, List.set_cons_zero, List.set_cons_succ]
            refine wpAnyH_take (i := 3) (oi := { dst := some 81, op := Op.fieldAddr 35 (Operand.tmp 15) 2, type := 0, pos := "law.go:60", after := #[], guard := none }) (v := ?_) rfl (by kernel_rfl) (by kernel_rfl) (by kernel_rfl) (fun _ _ _ h => h) (Or.inl ⟨by rfl, ?_⟩) (by assumption) ?_
            rotate_left
            · intro w hSw
              try dsimp only at hSw
              go_simp
              try with_reducible rfl
            try simp only [Act.put, List.setIfInBounds_toArray, List.set_cons_zero, List.set_cons_succ]
            refine wpAnyH_take (i := 4) (oi := { dst := some 82, op := Op.load 32 (Operand.tmp 81), type := 32, pos := "law.go:60", after := #[{ on := 3, ground := Ground.data }], guard := none }) (v := ?_) rfl (by kernel_rfl) (by kernel_rfl) (by kernel_rfl) (fun _ _ _ h => h) (Or.inl ⟨by rfl, ?_⟩) (by assumption) ?_
            rotate_left
            · intro w hSw
              try dsimp only at hSw
              go_simp
              try with_reducible rfl
            try simp only [Act.put, List.setIfInBounds_toArray, List.set_cons_zero, List.set_cons_succ]
            refine wpAnyH_take (i := 6) (oi := { dst := some 84, op := Op.move (Operand.tmp 8), type := 29, pos := "law.go:60", after := #[], guard := none }) (v := ?_) rfl (by kernel_rfl) (by kernel_rfl) (by kernel_rfl) (fun _ _ _ h => h) (Or.inl ⟨by rfl, ?_⟩) (by assumption) ?_
            rotate_left
            · intro w hSw
              try dsimp only at hSw
              go_simp
              try with_reducible rfl
            try simp only [Act.put, List.setIfInBounds_toArray, List.set_cons_zero, List.set_cons_succ]
            refine wpAnyH_take (i := 7) (oi := { dst := some 85, op := Op.fieldAddr 35 (Operand.tmp 15) 1, type := 0, pos := "law.go:60", after := #[], guard := none }) (v := ?_) rfl (by kernel_rfl) (by kernel_rfl) (by kernel_rfl) (fun _ _ _ h => h) (Or.inl ⟨by rfl, ?_⟩) (by assumption) ?_
            rotate_left
            · intro w hSw
              try dsimp only at hSw
              go_simp
              try with_reducible rfl
            try simp only [Act.put, List.setIfInBounds_toArray, List.set_cons_zero, List.set_cons_succ]
            refine wpAnyH_take (i := 8) (oi := { dst := some 86, op := Op.load 3 (Operand.tmp 85), type := 3, pos := "law.go:60", after := #[{ on := 7, ground := Ground.data }], guard := none }) (v := ?_) rfl (by kernel_rfl) (by kernel_rfl) (by kernel_rfl) (fun _ _ _ h => h) (Or.inl ⟨by rfl, ?_⟩) (by assumption) ?_
            rotate_left
            · intro w hSw
              try dsimp only at hSw
              go_simp
              try with_reducible rfl
            try simp only [Act.put, List.setIfInBounds_toArray, List.set_cons_zero, List.set_cons_succ]
            refine wpAnyH_take (i := 9) (oi := { dst := some 87, op := Op.fieldAddr 35 (Operand.tmp 15) 2, type := 0, pos := "law.go:60", after := #[], guard := none }) (v := ?_) rfl (by kernel_rfl) (by kernel_rfl) (by kernel_rfl) (fun _ _ _ h => h) (Or.inl ⟨by rfl, ?_⟩) (by assumption) ?_
            rotate_left
            · intro w hSw
              try dsimp only at hSw
              go_simp
              try with_reducible rfl
            try simp only [Act.put, List.setIfInBounds_toArray, List.set_cons_zero, List.set_cons_succ]
            refine wpAnyH_take (i := 10) (oi := { dst := some 88, op := Op.load 32 (Operand.tmp 87), type := 32, pos := "law.go:60", after := #[{ on := 9, ground := Ground.data }], guard := none }) (v := ?_) rfl (by kernel_rfl) (by kernel_rfl) (by kernel_rfl) (fun _ _ _ h => h) (Or.inl ⟨by rfl, ?_⟩) (by assumption) ?_
            rotate_left
            · intro w hSw
              try dsimp only at hSw
              go_simp
              try with_reducible rfl
            try simp only [Act.put, List.setIfInBounds_toArray, List.set_cons_zero, List.set_cons_succ]
            refine wpAnyH_ready (rs := [5]) (by kernel_rfl) (by simp) ?_
            refine AllReadyH.cons (o := { dst := some 83, op := Op.call { callee := Callee.value (Operand.func 11), args := #[Operand.tmp 78, Operand.tmp 80, Operand.tmp 82], argTypes := #[25, 3, 32] }, type := 26, pos := "law.go:60", after := #[{ on := 0, ground := Ground.data }, { on := 2, ground := Ground.data }, { on := 4, ground := Ground.data }], guard := none }) rfl (fun K hK => ?_) AllReadyH.nil
            go_simp
            with_reducible refine HW.out.go.mono ?_
            clear HW
            rintro e w6 ⟨⟨rfl, ho6⟩, h6⟩
            have HW6 := Lib.hid h6
            have hT6 : (fun W : World => W.cell? ⟨ob, 1, none⟩ = some (.int .i64 x) ∧ W.cell? ⟨ob, 2, none⟩ = some (.slice ba bn bc)) w6 := ⟨ho6.cell 1, ho6.cell 2⟩
            clear h6 ho6
            try go_wp2_with fail
            refine hK.out _ _ hT6 (fun _ => ?_)
            clear hK K
            try simp only [Act.put, List.setIfInBounds_toArray, List.set_cons_zero, List.set_cons_succ]
            clear hT
            refine wpAnyH_ready (rs := [11]) (by kernel_rfl) (by simp) ?_
            refine AllReadyH.cons (o := { dst := some 89, op := Op.call { callee := Callee.value (Operand.func 12), args := #[Operand.tmp 84, Operand.tmp 86, Operand.tmp 88], argTypes := #[29, 3, 32] }, type := 26, pos := "law.go:60", after := #[{ on := 6, ground := Ground.data }, { on := 8, ground := Ground.data }, { on := 10, ground := Ground.data }, { on := 5, ground := Ground.chain }], guard := none }) rfl (fun K hK => ?_) AllReadyH.nil
            go_simp
            with_reducible refine HW6.out.mono ?_
            clear HW6
            rintro e w7 ⟨rfl, ho7, hs7⟩
            have HS7 : Hid (StO w w0.heap.size D L N w1.heap.size w1.heap.size n (j + 1) ob _ w7) := ⟨ho7, hs7⟩
            have hT7 : (fun W : World => W.cell? ⟨ob, 1, none⟩ = some (.int .i64 x) ∧ W.cell? ⟨ob, 2, none⟩ = some (.slice ba bn bc)) w7 := ⟨ho7.cell 1, ho7.cell 2⟩
            clear ho7 hs7
            try go_wp2_with fail
            refine hK.out _ _ hT7 (fun _ => ?_)
            clear hK K
            try simp only [Act.put, List.setIfInBounds_toArray, List.set_cons_zero, List.set_cons_succ]
            clear hT6
            refine wpAnyH_take (i := 12) (oi := { dst := some 90, op := Op.binOp BinOp.neq 26 (Operand.tmp 83) (Operand.tmp 89) 26, type := 4, pos := "law.go:60", after := #[{ on := 5, ground := Ground.data }, { on := 11, ground := Ground.data }], guard := none }) (v := ?_) rfl (by kernel_rfl) (by kernel_rfl) (by kernel_rfl) (fun _ _ _ h => h) (Or.inl ⟨by rfl, ?_⟩) (by assumption) ?_
            rotate_left
            · intro w hSw
              try dsimp only at hSw
              go_simp
              try with_reducible rfl
            try simp only [Act.put, List.setIfInBounds_toArray, List.set_cons_zero, List.set_cons_succ]
            refine wpAnyH_done (by kernel_rfl) ?_ _
            clear hT7
            go_wp2
            go_meet
            exact HS7.out
        · have n1 : (wt == 1) = false := beq_eq_false_iff_ne.2 (by omega)
          have n2 : (wt == 2) = false := beq_eq_false_iff_ne.2 (by omega)
          by_cases e3 : wt = 3
          · subst e3
            obtain ⟨ec, hW⟩ := both_sync (W := wo) ⟨HOo.out, HSo.out⟩ (by omega) hBw hBr
            have HW := Lib.hid hW
            clear hW n1 n2
            go_wp2_with fail
            with_reducible refine HW.out.go.mono ?_
            clear HW
            rintro e w6 ⟨⟨rfl, ho6⟩, h6⟩
            have HW6 := Lib.hid h6
            clear h6 ho6
            go_wp2_with fail
            with_reducible refine HW6.out.mono ?_
            clear HW6
            rintro e w7 ⟨rfl, hs7⟩
            have HS7 := Lib.hid hs7
            clear hs7
            go_wp2_with fail
            go_meet
            exact HS7.out
          · have n3 : (wt == 3) = false := beq_eq_false_iff_ne.2 (by omega)
            by_cases e4 : wt = 4
            · subst e4
              have HW := Lib.hid (both_limit (W := wo) ⟨HOo.out, HSo.out⟩ hBw hBr x HX.out.1 HX.out.2)
              clear n1 n2 n3
              go_wp2_with fail
              with_reducible refine HW.out.go.mono ?_
              clear HW
              rintro e w6 ⟨⟨rfl, ho6⟩, h6⟩
              have HW6 := Lib.hid h6
              have c1' : w6.cell? ⟨ob, 1, none⟩ = some (.int .i64 x) := ho6.cell 1
              clear h6 ho6
              go_wp2_with fail
              with_reducible refine HW6.out.mono ?_
              clear HW6
              rintro e w7 ⟨rfl, hs7⟩
              have HS7 := Lib.hid hs7
              clear hs7
              go_wp2_with fail
              go_meet
              exact HS7.out
            · have n4 : (wt == 4) = false := beq_eq_false_iff_ne.2 (by omega)
              by_cases e5 : wt = 5
              · subst e5
                obtain ⟨_, _, _, _, _, hjx⟩ := HSo.out
                have HW := Lib.hid (both_reopen (W := wo) ⟨HOo.out, HSo.out⟩ (by omega) hBw hBr ka kn kc kl HKo.out (by omega))
                clear n1 n2 n3 n4 hjx
                go_wp2_with fail
                with_reducible refine HW.out.go.mono ?_
                clear HW
                rintro e w6 ⟨⟨rfl, ho6⟩, h6⟩
                have HW6 := Lib.hid h6
                have c3' : w6.cell? ⟨ob, 3, none⟩ = some (.slice ka kn kc) := ho6.cell 3
                clear h6 ho6
                go_wp2_with fail
                with_reducible refine HW6.out.mono ?_
                clear HW6
                rintro e w7 ⟨rfl, hs7⟩
                have HS7 := Lib.hid hs7
                clear hs7
                go_wp2_with fail
                go_meet
                exact HS7.out
              · have n5 : (wt == 5) = false := beq_eq_false_iff_ne.2 (by omega)
                go_wp2_with fail
                go_meet
                exact ⟨HOo.out, HSo.out.more⟩
      case rest =>
        have HC := Lib.hid hcut.out
        clear hcut HSo HRo HKo HOo
        have c1 : wc.cell? ⟨ob, 1, none⟩ = some (.int .i64 x) := HC.out.1.cell 1
        obtain ⟨ec, hR⟩ := both_read HC.out x
        have HR := Lib.hid hR
        clear hR
        go_wp2_with fail
        with_reducible refine HR.out.mono ?_
        clear HR c1 HC
        rintro e w4 ⟨p, pn, pc, ⟨rfl, ho4⟩, h4⟩
        have HR4 := Lib.hid h4
        have c1 : w4.cell? ⟨ob, 1, none⟩ = some (.int .i64 x) := ho4.cell 1
        clear h4 ho4
        go_wp2_with fail
        with_reducible refine HR4.out.mono ?_
        clear HR4 c1
        rintro e w5 ⟨q, qn, qc, l, l', rfl, hr1, hr2, hll, hs5⟩
        have HS5 := Lib.hid hs5.2
        obtain ⟨P, S2, P2, m, r, hx⟩ := hs5.2
        have V1 : ∀ y, (convert 32 9 (.slice p pn pc)).run Try.prog (w5.drewN y) = .ok (.string (strOf l)) (w5.drewN y) := fun y => conv_rd (hr1.below (below_drewN (Below.refl _ _) _))
        have V2 : ∀ y, (convert 32 9 (.slice q qn qc)).run Try.prog (w5.drewN y) = .ok (.string (strOf l)) (w5.drewN y) := fun y => by rw [hll]; exact conv_rd (hr2.below (below_drewN (Below.refl _ _) _))
        generalize strOf l = s at V1 V2
        clear hs5 hr1 hr2 hll
        have HX5 := Lib.hid hx
        obtain ⟨pp, pc2, hpp⟩ := own_form hx.rr.hP
        have q3 : w5.cell? ⟨w1.heap.size, 3, none⟩ = some (.bool r.gone) := (hx.rr.cell 3).trans rfl
        have q4 : w5.cell? ⟨w1.heap.size, 4, none⟩ = some (.int .i64 r.count) := (hx.rr.cell 4).trans rfl
        have q1 : w5.cell? ⟨w1.heap.size, 1, none⟩ = some (.slice pp r.P.length pc2) := by rw [← hpp]; exact (hx.rr.cell 1).trans rfl
        have CD : ∀ y, Calls Try.prog 21 #[.pointer (some ⟨D, 0, none⟩)] (w5.drewN y) fun e w' => e = .returned (.bool r.gone) ∧ w' = w5.drewN y := fun y => by
          rw [← HX5.out.l.dead]; exact (Dead_any (HX5.out.d.below (below_drewN (Below.refl _ _) _))).mono fun _ _ hh => ⟨hh.1, hh.2.symm⟩
        have CW : ∀ y, Calls Try.prog 22 #[.pointer (some ⟨D, 0, none⟩)] (w5.drewN y) fun e w' => e = .returned (.int .i64 r.count) ∧ w' = w5.drewN y := fun y => by
          rw [← HX5.out.l.cnt]; exact (Writes_any (HX5.out.d.below (below_drewN (Below.refl _ _) _))).mono fun _ _ hh => ⟨hh.1, hh.2.symm⟩
        have CP : ∀ y, Calls Try.prog 23 #[.pointer (some ⟨D, 0, none⟩)] (w5.drewN y) fun e w' => e = .returned (.int .i64 r.P.length) ∧ w' = w5.drewN y := fun y => by
          rw [← HX5.out.l.pend]; exact (Pending_any (HX5.out.d.below (below_drewN (Below.refl _ _) _))).mono fun _ _ hh => ⟨hh.1, hh.2.symm⟩
        have CS : ∀ y, Calls Try.prog 24 #[.pointer (some ⟨D, 0, none⟩)] (w5.drewN y) fun e w' => e = .returned (.int .i64 n) ∧ w' = w5.drewN y := fun y => by
          rw [← HX5.out.l.mn]; exact (Size_any (HX5.out.d.below (below_drewN (Below.refl _ _) _))).mono fun _ _ hh => ⟨hh.1, hh.2.symm⟩
        have HCD := Lib.hid CD
        have HCW := Lib.hid CW
        have HCP := Lib.hid CP
        have HCS := Lib.hid CS
        generalize r.gone = rg at q3 HCD
        generalize r.count = rc at q4 HCW
        generalize r.P.length = rp at q1 HCP
        clear CD CW CP CS hpp hx HX5
        go_wp2_with fail
        go_quiet ((first
          | (go_at_call 21; exact Calls.quiet_of_same (HCD.out _))
          | (go_at_call 22; exact Calls.quiet_of_same (HCW.out _))
          | (go_at_call 23; exact Calls.quiet_of_same (HCP.out _))
          | (go_at_call 24; exact Calls.quiet_of_same (HCS.out _))))
        go_wp2
        constructor
        · exact ⟨j + 1, by go_num, by omega, HS5.out.below (below_drewN (Below.refl _ _) _)⟩
        · show on - ((j : Int) + 1).toNat < on - (j : Int).toNat
          omega
    · have dj : decide ((j : Int) < (on : Int)) = false := decide_eq_false (by omega)
      obtain ⟨_, _, _, _, _, hjx⟩ := HJ.out
      have HB := Lib.hid hjx.b
      clear hjx HJ
      go_wp2_with fail
      go_ret
      exact ⟨rfl, HB.out⟩
end Go.Proofs.Ytmnfaoihmcofiaa.dk
