/- JournalPlays: the walk. -/
import Derived.Test.YticiaiiedagalaaPl38
import Derived.Test.YticiaiiedagalaaPl16
import Derived.Test.YticiaiiedagalaaPl17
import Derived.Deep.DeepCutAuto
import Derived.Deep.CutBlock
import Derived.BigQuiet
namespace Go.Proofs.Yticiaiiedagalaa.dk
open Go.PlainAid Go.ChangeShapes Go.WideShapes Go.ChangeAt Go.RowKit
theorem wf_i64 {x : Int} (h : (Lit.int .i64 x).wf = true) : -9223372036854775808 ≤ x ∧ x ≤ 9223372036854775807 := by
  simp only [Lit.wf, Bool.and_eq_true, decide_eq_true_eq] at h
  exact h
theorem OpenTwo.go {w : World} {B D L N B2 D2 n fr kn k : Nat} {kz : Int} {W : World} (h : OpenTwo w B D L N B2 D2 n fr kn k kz W) : Calls Try.prog 13 #[.pointer (some ⟨D, 0, none⟩), .int .i64 (fr : Int), .int .i64 kz] W fun e W' => ∃ (va vx : Value) (ec : Int), (e = .returned (.tuple #[va, vx, .int .i64 ec]) ∧ Below W.heap.size W W') ∧
  Calls Try.prog 14 #[.pointer (some ⟨D2, 0, none⟩), .int .i64 (fr : Int), .int .i64 kz] W' fun e W'' => ∃ (vb vy : Value), e = .returned (.tuple #[vb, vy, .int .i64 ec]) ∧ Below W.heap.size W W'' ∧ Js w B D L N B2 D2 n fr kn k true ec va vb vx vy W'' := h
theorem AppTwo.go {T1 T : World → Prop} {va vb : Value} {kk : Nat} {c : Int} {W : World} (h : AppTwo T1 T va vb kk c W) : Calls Try.prog 28 #[.int .i64 (kk : Int), .int .u8 c] W fun e W1 => ∃ v1 : Value, (e = .returned v1 ∧ T1 W1) ∧
  ∃ ec : Int, Calls Try.prog 27 #[va, v1] W1 fun e W2 => (e = .returned (.int .i64 ec) ∧ T1 W2) ∧
  Calls Try.prog 28 #[.int .i64 (kk : Int), .int .u8 c] W2 fun e W3 => ∃ v3 : Value, (e = .returned v3 ∧ T1 W3) ∧
  Calls Try.prog 29 #[vb, v3] W3 fun e W4 => e = .returned (.int .i64 ec) ∧ T W4 := h
theorem dbys_fresh (n : Nat) : DBys (fresh n) := ⟨Bys.rep _, Bys.rep _, fun x hx => by cases hx⟩
set_option maxHeartbeats 8000000 in
set_option maxRecDepth 20000 in
theorem plays_great (n f : Int) (o : Option Addr) (on oc : Nat) (os : Nat → Opc) (w : World) (ho : OpsAt w.heap.size w o on os) (hs : ¬ Small on os) :
    Calls Try.prog 3 #[.int .i64 n, .int .i64 f, .slice o on oc] w fun e w' => e = .returned (.bool true) ∧ Below w.heap.size w w' := by
  have HA := Lib.hid (awake_any w)
  have HO := Lib.hid ho
  have HS : ∀ w0, Below w.heap.size w w0 → Calls Try.prog 10 #[.slice o on oc] w0 fun e w' => e = .returned (.bool false) ∧ w0 = w' := fun w0 hb => small_any w.heap.size w0 o on oc os (HO.out.below hb) false ⟨fun e => absurd e (by decide), fun e => absurd e hs⟩
  clear ho hs
  go_enter Try.func3, Try.ntmps3
  go_wp2_with (first | (go_at_call 9; with_reducible refine HA.out.mono ?_; rintro e w0 ⟨rfl, hb0⟩) | (go_at_call 10; with_reducible refine (HS _ hb0).mono ?_; rintro e w1 ⟨rfl, rfl⟩))
  go_ret
  exact ⟨rfl, hb0⟩
set_option maxHeartbeats 8000000 in
set_option maxRecDepth 100000 in
theorem plays_some (n0 f0 : Int) (o : Option Addr) (on oc : Nat) (os : Nat → Opc) (w : World) (ho : OpsAt w.heap.size w o on os) (hs : Small on os) (n fr : Nat) (hn1 : 1 ≤ n) (hn : n0 % 32 + 1 = n) (hfr : f0 % 8 = fr) (hw0 : n0 ≤ 9223372036854775807) :
    Calls Try.prog 3 #[.int .i64 n0, .int .i64 f0, .slice o on oc] w fun e w' => e = .returned (.bool true) ∧ Below w.heap.size w w' := by
  have HA := Lib.hid (awake_any w)
  have hn32 : n ≤ 32 := by omega
  have hfr7 : fr ≤ 7 := by omega
  have hnn : bits .and .i64 n0 31 = (n : Int) - 1 := by rw [andm31]; omega
  have hwn : IntKind.i64.wrap (1 + ((n : Int) - 1)) = (n : Int) := by rw [IntKind.wrap_i64]; omega
  have hff : bits .and .i64 f0 7 = (fr : Int) := by rw [andm7, hfr]
  obtain ⟨kz, hkz⟩ : ∃ kz : Int, kz = (n : Int) - fr := ⟨_, rfl⟩
  have hwk : IntKind.i64.wrap ((n : Int) - (fr : Int)) = kz := by rw [IntKind.wrap_i64]; omega
  obtain ⟨kn, hkn⟩ : ∃ kn, kn = n - fr := ⟨_, rfl⟩
  have HKz : Hid (kz < 1 ∨ (kz = kn ∧ 1 ≤ kn ∧ fr + kn ≤ n)) := by show _ ∨ _; omega
  have hkn40 : kn ≤ 40 := by omega
  have HO := Lib.hid ho
  have HSm := Lib.hid hs
  have HNd := Lib.hid (fun (v : World) => Need_any v n0 hw0)
  have HRNd := Lib.hid (fun (v : World) => rNeed_any v n0 hw0)
  have HS : ∀ w0, Below w.heap.size w w0 → Calls Try.prog 10 #[.slice o on oc] w0 fun e w' => e = .returned (.bool true) ∧ w0 = w' := fun w0 hb => small_any w.heap.size w0 o on oc os (HO.out.below hb) true ⟨fun _ => HSm.out, fun _ => rfl⟩
  clear ho hs hn hfr hkz hkn hw0
  go_enter Try.func3, Try.ntmps3
  go_wp2_with (first | (go_at_call 9; with_reducible refine HA.out.mono ?_; rintro e w0 ⟨rfl, hb0⟩) | (go_at_call 10; with_reducible refine (HS _ hb0).mono ?_; rintro e w1 ⟨rfl, rfl⟩))
  have hN := New_any n w0 hn1 (by omega)
  with_reducible refine hN.mono ?_
  clear hN HS HA
  rintro e w1 ⟨D, L, N, rfl, h1, hb1⟩
  have HR := Lib.hid (rNew_ok n w1 hn1 hn32)
  have H1 := Lib.hid h1
  have HB1 := Lib.hid (hb0.trans (hb1.mono hb0.size))
  have hBw : w.heap.size ≤ w0.heap.size := hb0.size
  clear h1 hb1 hb0
  go_wp2_with fail
  with_reducible refine HR.out.mono ?_
  clear HR
  rintro e w2 ⟨S, rfl, hr2, hb2⟩
  have hBr : w.heap.size ≤ w1.heap.size := HB1.out.size
  have hJ2 : Jt w w0.heap.size D L N w1.heap.size w1.heap.size n 0 true w2 := ⟨_, _, _, _, _, { d := H1.out.below hb2, rr := hr2, l := Like.fresh n hn1, y := dbys_fresh n, wk := by show (0 : Int) ≤ 0; omega, pk := Nat.zero_le _, b := HB1.out.trans (hb2.mono HB1.out.size) }, fun _ => rfl⟩
  have HOp := Lib.hid (both_open (kn := kn) hJ2 kz HKz.out)
  clear hr2 hb2 H1 HB1 hJ2
  generalize hB : w0.heap.size = B at hBw HOp
  generalize hB2 : w1.heap.size = B2 at hBr HOp ⊢
  clear hB hB2
  go_wp2_with fail
  with_reducible refine HOp.out.go.mono ?_
  clear HOp
  rintro e w3 ⟨va, vx, ec, ⟨rfl, _⟩, hop2⟩
  have HOp2 := Lib.hid hop2
  clear hop2
  go_wp2_with fail
  with_reducible refine HOp2.out.mono ?_
  clear HOp2
  rintro e w4 ⟨vb, vy, rfl, _, hjs⟩
  have HJ4 := Lib.hid hjs
  clear hjs
  go_wp2_with fail
  go_loopw [14, 15, 16, 17, 18, 19, 20] (fun v14 v15 v16 v17 v18 v19 v20 wr => ∃ (j : Nat) (ec : Int), v16 = .int .i64 ec ∧ v19 = .int .i64 ec ∧ v20 = .int .i64 (j : Int) ∧ j ≤ on ∧ Hid (Js w B D L N B2 B2 n fr kn (10 * j) false ec v14 v17 v15 v18 wr)) (fun _ _ _ _ _ _ v20 _ => on - (intOf v20).toNat)
  case atStart => exact ⟨0, ec, rfl, rfl, rfl, Nat.zero_le _, HJ4.out.more (Nat.le_refl _)⟩
  case round =>
    clear HJ4
    obtain ⟨j, ec, rfl, rfl, rfl, hj, HJ⟩ := hrel
    have dee : (ec != ec) = false := bne_self_eq_false ec
    by_cases hjn : j < on
    · have dj : decide ((j : Int) < (on : Int)) = true := decide_eq_true (by omega)
      have hon := HSm.out.1
      have hbk := (HSm.out.2 j hjn)
      obtain ⟨P, S2, P2, m, r, hjx, _⟩ := HJ.out.t
      have hbj := hjx.b
      have q4 : wr.cell? ⟨B2, 4, none⟩ = some (.int .i64 r.count) := (hjx.rr.cell 4).trans rfl
      have CW : ∀ y, Calls Try.prog 16 #[.pointer (some ⟨D, 0, none⟩)] (wr.drewN y) fun e w' => e = .returned (.int .i64 r.count) ∧ w' = wr.drewN y := fun y => by
        rw [← hjx.l.cnt]; exact (Writes_any (hjx.d.below (below_drewN (Below.refl _ _) _))).mono fun _ _ hh => ⟨hh.1, hh.2.symm⟩
      have HCW := Lib.hid CW
      have HCS := Lib.hid (fun (y : Nat) => both_same (HJ.out.c.ff (T := []) (Ff.new (below_drewN (Below.refl wr.heap.size wr) y)) (by decide) (by decide)))
      have dcc : (r.count != r.count) = false := bne_self_eq_false _
      clear hjx CW
      generalize r.count = rc at q4 HCW dcc
      obtain ⟨bb, off, rfl, hop⟩ := HO.out (by omega)
      have hopj := (hop j hjn).below hbj
      have hwr : w.heap.size ≤ wr.heap.size := hbj.size
      clear hop hbj
      generalize hoj : os j = oj at hopj hbk
      clear hoj
      obtain ⟨wt, x, ch, ba, bn, bc, bl, ka, kn2, kc, kl⟩ := oj
      have HOj := Lib.hid hopj
      clear hopj
      go_wp2_with fail
      go_quiet ((first
          | (go_at_call 15; exact Calls.quiet_of (HCS.out _))
          | (go_at_call 16; exact Calls.quiet_of_same (HCW.out _))))
      generalize hwd : wr.drewN _ = wd
      have hbd : Below wr.heap.size wr wd := by rw [← hwd]; exact below_drewN (Below.refl _ _) _
      have hopj := HOj.out.below (hbd.mono hwr)
      have hwd2 : w.heap.size ≤ wd.heap.size := Nat.le_trans hwr hbd.size
      have HJd := Lib.hid (HJ.out.below hbd)
      clear HJ hbd hwd HOj HCS HCW q4 dcc dee hwr
      have c0 := hopj.c0
      have c1 := hopj.c1
      have c2 := hopj.c2
      have c3 := hopj.c3
      have c4 := hopj.c4
      have HRb := Lib.hid hopj.rb
      have HKb := Lib.hid hopj.kb
      have HBy := Lib.hid hopj.by_
      have hwf := hopj.w1
      dsimp only at c0 c1 c2 c3 c4 hwf hbk HRb HKb HBy
      obtain ⟨kk, hkk⟩ := Int.eq_ofNat_of_zero_le (show 0 ≤ x % 256 by omega)
      have hx255 : bits .and .i64 x 255 = (kk : Int) := by rw [andm255, hkk]
      have hkk255 : kk ≤ 255 := by omega
      clear hopj hwf hkk
      go_upto_block 2 with fail
      generalize hwo : wd.alloc _ = wo
      have hoA : OAt wd.heap.size #[.int .i64 wt, .int .i64 x, .int .u8 ch, .slice ba bn bc, .slice ka kn2 kc] wo := by rw [← hwo]; exact heap_alloc_new _ _
      have hbo : Below wd.heap.size wd wo := by rw [← hwo]; exact (Below.refl _ _).alloc (Nat.le_refl _) _
      have HRo := Lib.hid (HRb.out.below (hbo.mono hwd2))
      have HKo := Lib.hid (HKb.out.below (hbo.mono hwd2))
      generalize hob : wd.heap.size = ob at hoA ⊢
      have HSo := Lib.hid (show Jo w B D L N B2 B2 n fr kn (10 * j) false ec u14 u17 u15 u18 ob _ wo from ⟨HJd.out.below hbo, hoA⟩)
      clear HRb HKb HJd c0 c1 c2 c3 c4 hbo hwo hwd2 hob hoA
      go_cut [14, 15, 16, 17, 18, 19] (fun v14 v15 v16 v17 v18 v19 wx => ∃ ec : Int, v16 = .int .i64 ec ∧ v19 = .int .i64 ec ∧ Hid (Jo w B D L N B2 B2 n fr kn (10 * j + 10) false ec v14 v17 v15 v18 ob #[.int .i64 wt, .int .i64 x, .int .u8 ch, .slice ba bn bc, .slice ka kn2 kc] wx))
      case first =>
        have c0 : wo.cell? ⟨ob, 0, none⟩ = some (.int .i64 wt) := HSo.out.o.cell 0
        have c1 : wo.cell? ⟨ob, 1, none⟩ = some (.int .i64 x) := HSo.out.o.cell 1
        have c3 : wo.cell? ⟨ob, 3, none⟩ = some (.slice ba bn bc) := HSo.out.o.cell 3
        have c4 : wo.cell? ⟨ob, 4, none⟩ = some (.slice ka kn2 kc) := HSo.out.o.cell 4
        by_cases e4 : wt = 4
        · subst e4
          have HW := Lib.hid (both_reopen HSo.out (by omega) hBw hBr ka kn2 kc kl HKo.out (by omega))
          go_wp2_with fail
          with_reducible refine HW.out.go.mono ?_
          clear HW
          rintro e w6 ⟨⟨rfl, ho6⟩, h6⟩
          have HW6 := Lib.hid h6
          have c4' : w6.cell? ⟨ob, 4, none⟩ = some (.slice ka kn2 kc) := ho6.cell 4
          clear h6 ho6
          go_wp2_with fail
          with_reducible refine HW6.out.mono ?_
          clear HW6
          rintro e w7 ⟨rfl, hs7⟩
          have HOp := Lib.hid (both_open (kn := kn) hs7.s.t kz HKz.out)
          have HS7 := Lib.hid hs7
          clear hs7
          go_wp2_with fail
          with_reducible refine HOp.out.go.mono ?_
          clear HOp
          rintro e w8 ⟨va8, vx8, ec8, ⟨rfl, _⟩, hop2⟩
          have HOp2 := Lib.hid hop2
          clear hop2
          go_wp2_with fail
          with_reducible refine HOp2.out.mono ?_
          clear HOp2
          rintro e w9 ⟨vb9, vy9, rfl, hb9, hjs⟩
          have HJ9 : Hid (Jo w B D L N B2 B2 n fr kn (10 * j + 10) false ec8 va8 vb9 vx8 vy9 ob _ w9) := ⟨hjs.more (by omega), HS7.out.o.below hb9⟩
          clear hjs hb9 HS7
          go_wp2_with fail
          go_meet
          exact ⟨ec8, rfl, rfl, HJ9.out⟩
        · have n4 : (wt == 4) = false := beq_eq_false_iff_ne.2 e4
          by_cases e5 : wt = 5
          · subst e5
            have hbd : Below wo.heap.size wo wo.drew := (Below.refl _ _).drew
            have HSd := Lib.hid (HSo.out.below hbd)
            obtain ⟨ec1, hW⟩ := both_write HSd.out (by omega) hBw hBr ba bn bc bl HBy.out (HRo.out.below (hbd.mono HSo.out.s.t.b.size)) x
            have HW := Lib.hid hW
            have hT : (fun W : World => W.cell? ⟨ob, 1, none⟩ = some (.int .i64 x) ∧ W.cell? ⟨ob, 3, none⟩ = some (.slice ba bn bc)) wo.drew := ⟨HSd.out.o.cell 1, HSd.out.o.cell 3⟩
            clear hW hbd
            go_upto_region 23 with fail
            clear c0 c1 c3 c4
            refine wp_region_held_drew (S := (fun W : World => W.cell? ⟨ob, 1, none⟩ = some (.int .i64 x) ∧ W.cell? ⟨ob, 3, none⟩ = some (.slice ba bn bc))) (by kernel_rfl) hT (fun hHeld => ?_)
            clear hHeld
            refine wpAnyH_take (i := 0) (oi := { dst := some 130, op := Op.move (Operand.tmp 10), type := 25, pos := "law.go:77", after := #[], guard := none }) (v := ?_) rfl (by kernel_rfl) (by kernel_rfl) (by kernel_rfl) (fun _ _ _ h => h) (Or.inl ⟨by rfl, ?_⟩) (by assumption) ?_
            rotate_left
            · intro w hSw
              try dsimp only at hSw
              go_simp
              try with_reducible rfl
            try simp only [Act.put, List.setIfInBounds_toArray, List.set_cons_zero, List.set_cons_succ]
            refine wpAnyH_take (i := 1) (oi := { dst := some 131, op := Op.fieldAddr 48 (Operand.tmp 21) 1, type := 0, pos := "law.go:77", after := #[], guard := none }) (v := ?_) rfl (by kernel_rfl) (by kernel_rfl) (by kernel_rfl) (fun _ _ _ h => h) (Or.inl ⟨by rfl, ?_⟩) (by assumption) ?_
            rotate_left
            · intro w hSw
              try dsimp only at hSw
              go_simp
              try with_reducible rfl
            try simp only [Act.put, List.setIfInBounds_toArray, List.set_cons_zero, List.set_cons_succ]
            refine wpAnyH_take (i := 2) (oi := { dst := some 132, op := Op.load 3 (Operand.tmp 131), type := 3, pos := "law.go:77", after := #[{ on := 1, ground := Ground.data }], guard := none }) (v := ?_) rfl (by kernel_rfl) (by kernel_rfl) (by kernel_rfl) (fun _ _ _ h => h) (Or.inl ⟨by rfl, ?_⟩) (by assumption) ?_
            rotate_left
            · intro w hSw
              try dsimp only at hSw
              go_simp
              try with_reducible rfl
            try simp only [Act.put, List.setIfInBounds_toArray, List.set_cons_zero, List.set_cons_succ]
            refine wpAnyH_take (i := 3) (oi := { dst := some 133, op := Op.fieldAddr 48 (Operand.tmp 21) 3, type := 0, pos := "law.go:77", after := #[], guard := none }) (v := ?_) rfl (by kernel_rfl) (by kernel_rfl) (by kernel_rfl) (fun _ _ _ h => h) (Or.inl ⟨by rfl, ?_⟩) (by assumption) ?_
            rotate_left
            · intro w hSw
              try dsimp only at hSw
              go_simp
              try with_reducible rfl
            try simp only [Act.put, List.setIfInBounds_toArray, List.set_cons_zero, List.set_cons_succ]
            refine wpAnyH_take (i := 4) (oi := { dst := some 134, op := Op.load 45 (Operand.tmp 133), type := 45, pos := "law.go:77", after := #[{ on := 3, ground := Ground.data }], guard := none }) (v := ?_) rfl (by kernel_rfl) (by kernel_rfl) (by kernel_rfl) (fun _ _ _ h => h) (Or.inl ⟨by rfl, ?_⟩) (by assumption) ?_
            rotate_left
            · intro w hSw
              try dsimp only at hSw
              go_simp
              try with_reducible rfl
            try simp only [Act.put, List.setIfInBounds_toArray, List.set_cons_zero, List.set_cons_succ]
            refine wpAnyH_take (i := 6) (oi := { dst := some 136, op := Op.move (Operand.tmp 12), type := 29, pos := "law.go:77", after := #[], guard := none }) (v := ?_) rfl (by kernel_rfl) (by kernel_rfl) (by kernel_rfl) (fun _ _ _ h => h) (Or.inl ⟨by rfl, ?_⟩) (by assumption) ?_
            rotate_left
            · intro w hSw
              try dsimp only at hSw
              go_simp
              try with_reducible rfl
            try simp only [Act.put, List.setIfInBounds_toArray, List.set_cons_zero, List.set_cons_succ]
            refine wpAnyH_take (i := 7) (oi := { dst := some 137, op := Op.fieldAddr 48 (Operand.tmp 21) 1, type := 0, pos := "law.go:77", after := #[], guard := none }) (v := ?_) rfl (by kernel_rfl) (by kernel_rfl) (by kernel_rfl) (fun _ _ _ h => h) (Or.inl ⟨by rfl, ?_⟩) (by assumption) ?_
            rotate_left
            · intro w hSw
              try dsimp only at hSw
              go_simp
              try with_reducible rfl
            try simp only [Act.put, List.setIfInBounds_toArray, List.set_cons_zero, List.set_cons_succ]
            refine wpAnyH_take (i := 8) (oi := { dst := some 138, op := Op.load 3 (Operand.tmp 137), type := 3, pos := "law.go:77", after := #[{ on := 7, ground := Ground.data }], guard := none }) (v := ?_) rfl (by kernel_rfl) (by kernel_rfl) (by kernel_rfl) (fun _ _ _ h => h) (Or.inl ⟨by rfl, ?_⟩) (by assumption) ?_
            rotate_left
            · intro w hSw
              try dsimp only at hSw
              go_simp
              try with_reducible rfl
            try simp only [Act.put, List.setIfInBounds_toArray, List.set_cons_zero, List.set_cons_succ]
            refine wpAnyH_take (i := 9) (oi := { dst := some 139, op := Op.fieldAddr 48 (Operand.tmp 21) 3, type := 0, pos := "law.go:77", after := #[], guard := none }) (v := ?_) rfl (by kernel_rfl) (by kernel_rfl) (by kernel_rfl) (fun _ _ _ h => h) (Or.inl ⟨by rfl, ?_⟩) (by assumption) ?_
            rotate_left
            · intro w hSw
              try dsimp only at hSw
              go_simp
              try with_reducible rfl
            try simp only [Act.put, List.setIfInBounds_toArray, List.set_cons_zero, List.set_cons_succ]
            refine wpAnyH_take (i := 10) (oi := { dst := some 140, op := Op.load 45 (Operand.tmp 139), type := 45, pos := "law.go:77", after := #[{ on := 9, ground := Ground.data }], guard := none }) (v := ?_) rfl (by kernel_rfl) (by kernel_rfl) (by kernel_rfl) (fun _ _ _ h => h) (Or.inl ⟨by rfl, ?_⟩) (by assumption) ?_
            rotate_left
            · intro w hSw
              try dsimp only at hSw
              go_simp
              try with_reducible rfl
            try simp only [Act.put, List.setIfInBounds_toArray, List.set_cons_zero, List.set_cons_succ]
            refine wpAnyH_ready (rs := [5]) (by kernel_rfl) (by simp) ?_
            refine AllReadyH.cons (o := { dst := some 135, op := Op.call { callee := Callee.value (Operand.func 19), args := #[Operand.tmp 130, Operand.tmp 132, Operand.tmp 134], argTypes := #[25, 3, 45] }, type := 26, pos := "law.go:77", after := #[{ on := 0, ground := Ground.data }, { on := 2, ground := Ground.data }, { on := 4, ground := Ground.data }], guard := none }) rfl (fun K hK => ?_) AllReadyH.nil
            go_simp
            with_reducible refine HW.out.go.mono ?_
            clear HW
            rintro e w6 ⟨⟨rfl, ho6⟩, h6⟩
            have HW6 := Lib.hid h6
            have hT6 : (fun W : World => W.cell? ⟨ob, 1, none⟩ = some (.int .i64 x) ∧ W.cell? ⟨ob, 3, none⟩ = some (.slice ba bn bc)) w6 := ⟨ho6.cell 1, ho6.cell 3⟩
            clear h6 ho6
            try go_wp2_with fail
            refine hK.out _ _ hT6 (fun _ => ?_)
            clear hK K
            try simp only [Act.put, List.setIfInBounds_toArray, List.set_cons_zero, List.set_cons_succ]
            clear hT
            refine wpAnyH_ready (rs := [11]) (by kernel_rfl) (by simp) ?_
            refine AllReadyH.cons (o := { dst := some 141, op := Op.call { callee := Callee.value (Operand.func 20), args := #[Operand.tmp 136, Operand.tmp 138, Operand.tmp 140], argTypes := #[29, 3, 45] }, type := 26, pos := "law.go:77", after := #[{ on := 6, ground := Ground.data }, { on := 8, ground := Ground.data }, { on := 10, ground := Ground.data }, { on := 5, ground := Ground.chain }], guard := none }) rfl (fun K hK => ?_) AllReadyH.nil
            go_simp
            with_reducible refine HW6.out.mono ?_
            clear HW6
            rintro e w7 ⟨rfl, hs7⟩
            have HS7 := Lib.hid hs7
            have hT7 : (fun W : World => W.cell? ⟨ob, 1, none⟩ = some (.int .i64 x) ∧ W.cell? ⟨ob, 3, none⟩ = some (.slice ba bn bc)) w7 := ⟨hs7.o.cell 1, hs7.o.cell 3⟩
            obtain ⟨ec2, hY⟩ := both_sync hs7 (by omega) hBw hBr
            have HY := Lib.hid hY
            clear hs7 hY
            try go_wp2_with fail
            refine hK.out _ _ hT7 (fun _ => ?_)
            clear hK K
            try simp only [Act.put, List.setIfInBounds_toArray, List.set_cons_zero, List.set_cons_succ]
            clear hT6
            refine wpAnyH_take (i := 12) (oi := { dst := some 142, op := Op.binOp BinOp.neq 26 (Operand.tmp 135) (Operand.tmp 141) 26, type := 4, pos := "law.go:77", after := #[{ on := 5, ground := Ground.data }, { on := 11, ground := Ground.data }], guard := none }) (v := ?_) rfl (by kernel_rfl) (by kernel_rfl) (by kernel_rfl) (fun _ _ _ h => h) (Or.inl ⟨by rfl, ?_⟩) (by assumption) ?_
            rotate_left
            · intro w hSw
              try dsimp only at hSw
              go_simp
              try with_reducible rfl
            try simp only [Act.put, List.setIfInBounds_toArray, List.set_cons_zero, List.set_cons_succ]
            refine wpAnyH_take (i := 13) (oi := { dst := some 143, op := Op.move (Operand.tmp 142), type := 4, pos := "law.go:77", after := #[{ on := 12, ground := Ground.data }, { on := 11, ground := Ground.chain }], guard := none }) (v := ?_) rfl (by kernel_rfl) (by kernel_rfl) (by kernel_rfl) (fun _ _ _ h => h) (Or.inl ⟨by rfl, ?_⟩) (by assumption) ?_
            rotate_left
            · intro w hSw
              try dsimp only at hSw
              go_simp
              try with_reducible rfl
            try simp only [Act.put, List.setIfInBounds_toArray, List.set_cons_zero, List.set_cons_succ]
            refine wpAnyH_take (i := 14) (oi := { dst := some 144, op := Op.move (Operand.tmp 10), type := 25, pos := "law.go:77", after := #[{ on := 13, ground := Ground.guard }], guard := some (13, false) }) (v := ?_) rfl (by kernel_rfl) (by kernel_rfl) (by kernel_rfl) (fun _ _ _ h => h) (Or.inl ⟨by rfl, ?_⟩) (by assumption) ?_
            rotate_left
            · intro w hSw
              try dsimp only at hSw
              go_simp
              try with_reducible rfl
            try simp only [Act.put, List.setIfInBounds_toArray, List.set_cons_zero, List.set_cons_succ]
            refine wpAnyH_take (i := 16) (oi := { dst := some 146, op := Op.move (Operand.tmp 12), type := 29, pos := "law.go:77", after := #[{ on := 13, ground := Ground.guard }], guard := some (13, false) }) (v := ?_) rfl (by kernel_rfl) (by kernel_rfl) (by kernel_rfl) (fun _ _ _ h => h) (Or.inl ⟨by rfl, ?_⟩) (by assumption) ?_
            rotate_left
            · intro w hSw
              try dsimp only at hSw
              go_simp
              try with_reducible rfl
            try simp only [Act.put, List.setIfInBounds_toArray, List.set_cons_zero, List.set_cons_succ]
            refine wpAnyH_ready (rs := [15]) (by kernel_rfl) (by simp) ?_
            refine AllReadyH.cons (o := { dst := some 145, op := Op.call { callee := Callee.value (Operand.func 21), args := #[Operand.tmp 144], argTypes := #[25] }, type := 26, pos := "law.go:77", after := #[{ on := 14, ground := Ground.data }, { on := 13, ground := Ground.chain }, { on := 13, ground := Ground.guard }], guard := some (13, false) }) rfl (fun K hK => ?_) AllReadyH.nil
            go_simp
            with_reducible refine HY.out.go.mono ?_
            clear HY
            rintro e w8 ⟨⟨rfl, ho8⟩, h8⟩
            have HY8 := Lib.hid h8
            have hT8 : (fun W : World => W.cell? ⟨ob, 1, none⟩ = some (.int .i64 x) ∧ W.cell? ⟨ob, 3, none⟩ = some (.slice ba bn bc)) w8 := ⟨ho8.cell 1, ho8.cell 3⟩
            clear h8 ho8
            try go_wp2_with fail
            refine hK.out _ _ hT8 (fun _ => ?_)
            clear hK K
            try simp only [Act.put, List.setIfInBounds_toArray, List.set_cons_zero, List.set_cons_succ]
            clear hT7
            refine wpAnyH_ready (rs := [17]) (by kernel_rfl) (by simp) ?_
            refine AllReadyH.cons (o := { dst := some 147, op := Op.call { callee := Callee.value (Operand.func 22), args := #[Operand.tmp 146], argTypes := #[29] }, type := 26, pos := "law.go:77", after := #[{ on := 16, ground := Ground.data }, { on := 15, ground := Ground.chain }, { on := 13, ground := Ground.guard }], guard := some (13, false) }) rfl (fun K hK => ?_) AllReadyH.nil
            go_simp
            with_reducible refine HY8.out.mono ?_
            clear HY8
            rintro e w9 ⟨rfl, hs9⟩
            have HS9 : Hid (Jo w B D L N B2 B2 n fr kn (10 * j + 10) false ec u14 u17 u15 u18 ob _ w9) := ⟨hs9.s.more (by omega), hs9.o⟩
            have hT9 : (fun W : World => W.cell? ⟨ob, 1, none⟩ = some (.int .i64 x) ∧ W.cell? ⟨ob, 3, none⟩ = some (.slice ba bn bc)) w9 := ⟨hs9.o.cell 1, hs9.o.cell 3⟩
            clear hs9
            try go_wp2_with fail
            refine hK.out _ _ hT9 (fun _ => ?_)
            clear hK K
            try simp only [Act.put, List.setIfInBounds_toArray, List.set_cons_zero, List.set_cons_succ]
            clear hT8
            refine wpAnyH_take (i := 18) (oi := { dst := some 148, op := Op.binOp BinOp.neq 26 (Operand.tmp 145) (Operand.tmp 147) 26, type := 4, pos := "law.go:77", after := #[{ on := 15, ground := Ground.data }, { on := 17, ground := Ground.data }, { on := 13, ground := Ground.guard }], guard := some (13, false) }) (v := ?_) rfl (by kernel_rfl) (by kernel_rfl) (by kernel_rfl) (fun _ _ _ h => h) (Or.inl ⟨by rfl, ?_⟩) (by assumption) ?_
            rotate_left
            · intro w hSw
              try dsimp only at hSw
              go_simp
              try with_reducible rfl
            try simp only [Act.put, List.setIfInBounds_toArray, List.set_cons_zero, List.set_cons_succ]
            refine wpAnyH_take (i := 19) (oi := { dst := some 149, op := Op.pick (Operand.tmp 143) (Operand.const (Value.bool true)) (Operand.tmp 148), type := 4, pos := "law.go:77", after := #[{ on := 13, ground := Ground.data }, { on := 18, ground := Ground.data }], guard := none }) (v := ?_) rfl (by kernel_rfl) (by kernel_rfl) (by kernel_rfl) (fun _ _ _ h => h) (Or.inl ⟨by rfl, ?_⟩) (by assumption) ?_
            rotate_left
            · intro w hSw
              try dsimp only at hSw
              go_simp
              try with_reducible rfl
            try simp only [Act.put, List.setIfInBounds_toArray, List.set_cons_zero, List.set_cons_succ]
            refine wpAnyH_done (by kernel_rfl) ?_ _
            clear hT9
            go_wp2_with fail
            go_meet
            exact ⟨ec, rfl, rfl, HS9.out⟩
          · have n5 : (wt == 5) = false := beq_eq_false_iff_ne.2 e5
            by_cases e3 : wt = 3
            · subst e3
              obtain ⟨k15, hk15⟩ := Int.eq_ofNat_of_zero_le (show 0 ≤ (kk : Int) % 16 by omega)
              have hx15 : bits .and .i64 (kk : Int) 15 = (k15 : Int) := by rw [andm15, hk15]
              have HW := Lib.hid (both_limit HSo.out hBw hBr (k15 : Int) (by omega) (by omega))
              clear hk15
              go_wp2_with fail
              with_reducible refine HW.out.go.mono ?_
              clear HW
              rintro e w6 ⟨⟨rfl, _⟩, h6⟩
              have HW6 := Lib.hid h6
              clear h6
              go_wp2_with fail
              with_reducible refine HW6.out.mono ?_
              clear HW6
              rintro e w7 ⟨rfl, hs7⟩
              have HS7 : Hid (Jo w B D L N B2 B2 n fr kn (10 * j + 10) false ec u14 u17 u15 u18 ob _ w7) := ⟨hs7.s.more (by omega), hs7.o⟩
              clear hs7
              go_wp2_with fail
              go_meet
              exact ⟨ec, rfl, rfl, HS7.out⟩
            · have n3 : (wt == 3) = false := beq_eq_false_iff_ne.2 e3
              by_cases e0 : ec = 0
              · subst e0
                by_cases e2 : wt = 2
                · subst e2
                  have HW := Lib.hid (both_reset HSo.out hBw hBr)
                  go_wp2_with fail
                  with_reducible refine HW.out.go.mono ?_
                  clear HW
                  rintro e w6 ⟨⟨rfl, _⟩, h6⟩
                  have HW6 := Lib.hid h6
                  clear h6
                  go_wp2_with fail
                  with_reducible refine HW6.out.mono ?_
                  clear HW6
                  rintro e w7 ⟨rfl, hs7⟩
                  have HS7 : Hid (Jo w B D L N B2 B2 n fr kn (10 * j + 10) false 0 u14 u17 u15 u18 ob _ w7) := ⟨hs7.s.more (by omega), hs7.o⟩
                  clear hs7
                  go_wp2_with fail
                  go_meet
                  exact ⟨0, rfl, rfl, HS7.out⟩
                · have n2 : (wt == 2) = false := beq_eq_false_iff_ne.2 e2
                  by_cases e01 : wt = 0 ∨ wt = 1
                  · rcases e01 with rfl | rfl
                    all_goals
                      have hbd : Below wo.heap.size wo wo.drew := (Below.refl _ _).drew
                      have HSd := Lib.hid (HSo.out.below hbd)
                      have HA := Lib.hid (both_append HSd.out (by omega) hBw hBr (by omega) hkn40 kk hkk255 ch)
                      have hT : (fun W : World => W.cell? ⟨ob, 2, none⟩ = some (.int .u8 ch)) wo.drew := HSd.out.o.cell 2
                      clear hbd c1 c3 c4
                      go_upto_region 33 with fail
                      refine wp_region_held_drew (S := (fun W : World => W.cell? ⟨ob, 2, none⟩ = some (.int .u8 ch))) (by kernel_rfl) hT (fun hHeld => ?_)
                      clear hHeld
                      refine wpAnyH_take (i := 0) (oi := { dst := some 182, op := Op.move (Operand.tmp 14), type := 32, pos := "law.go:88", after := #[], guard := none }) (v := ?_) rfl (by kernel_rfl) (by kernel_rfl) (by kernel_rfl) (fun _ _ _ h => h) (Or.inl ⟨by rfl, ?_⟩) (by assumption) ?_
                      rotate_left
                      · intro w hSw
                        try dsimp only at hSw
                        go_simp
                        try with_reducible rfl
                      try simp only [Act.put, List.setIfInBounds_toArray, List.set_cons_zero, List.set_cons_succ]
                      refine wpAnyH_take (i := 1) (oi := { dst := some 183, op := Op.move (Operand.tmp 22), type := 3, pos := "law.go:88", after := #[], guard := none }) (v := ?_) rfl (by kernel_rfl) (by kernel_rfl) (by kernel_rfl) (fun _ _ _ h => h) (Or.inl ⟨by rfl, ?_⟩) (by assumption) ?_
                      rotate_left
                      · intro w hSw
                        try dsimp only at hSw
                        go_simp
                        try with_reducible rfl
                      try simp only [Act.put, List.setIfInBounds_toArray, List.set_cons_zero, List.set_cons_succ]
                      refine wpAnyH_take (i := 2) (oi := { dst := some 184, op := Op.fieldAddr 48 (Operand.tmp 21) 2, type := 0, pos := "law.go:88", after := #[], guard := none }) (v := ?_) rfl (by kernel_rfl) (by kernel_rfl) (by kernel_rfl) (fun _ _ _ h => h) (Or.inl ⟨by rfl, ?_⟩) (by assumption) ?_
                      rotate_left
                      · intro w hSw
                        try dsimp only at hSw
                        go_simp
                        try with_reducible rfl
                      try simp only [Act.put, List.setIfInBounds_toArray, List.set_cons_zero, List.set_cons_succ]
                      refine wpAnyH_take (i := 3) (oi := { dst := some 185, op := Op.load 5 (Operand.tmp 184), type := 5, pos := "law.go:88", after := #[{ on := 2, ground := Ground.data }], guard := none }) (v := ?_) rfl (by kernel_rfl) (by kernel_rfl) (by kernel_rfl) (fun _ _ _ h => h) (Or.inl ⟨by rfl, ?_⟩) (by assumption) ?_
                      rotate_left
                      · intro w hSw
                        try dsimp only at hSw
                        go_simp
                        try with_reducible rfl
                      try simp only [Act.put, List.setIfInBounds_toArray, List.set_cons_zero, List.set_cons_succ]
                      refine wpAnyH_take (i := 6) (oi := { dst := some 188, op := Op.move (Operand.tmp 17), type := 36, pos := "law.go:88", after := #[], guard := none }) (v := ?_) rfl (by kernel_rfl) (by kernel_rfl) (by kernel_rfl) (fun _ _ _ h => h) (Or.inl ⟨by rfl, ?_⟩) (by assumption) ?_
                      rotate_left
                      · intro w hSw
                        try dsimp only at hSw
                        go_simp
                        try with_reducible rfl
                      try simp only [Act.put, List.setIfInBounds_toArray, List.set_cons_zero, List.set_cons_succ]
                      refine wpAnyH_take (i := 7) (oi := { dst := some 189, op := Op.move (Operand.tmp 22), type := 3, pos := "law.go:88", after := #[], guard := none }) (v := ?_) rfl (by kernel_rfl) (by kernel_rfl) (by kernel_rfl) (fun _ _ _ h => h) (Or.inl ⟨by rfl, ?_⟩) (by assumption) ?_
                      rotate_left
                      · intro w hSw
                        try dsimp only at hSw
                        go_simp
                        try with_reducible rfl
                      try simp only [Act.put, List.setIfInBounds_toArray, List.set_cons_zero, List.set_cons_succ]
                      refine wpAnyH_take (i := 8) (oi := { dst := some 190, op := Op.fieldAddr 48 (Operand.tmp 21) 2, type := 0, pos := "law.go:88", after := #[], guard := none }) (v := ?_) rfl (by kernel_rfl) (by kernel_rfl) (by kernel_rfl) (fun _ _ _ h => h) (Or.inl ⟨by rfl, ?_⟩) (by assumption) ?_
                      rotate_left
                      · intro w hSw
                        try dsimp only at hSw
                        go_simp
                        try with_reducible rfl
                      try simp only [Act.put, List.setIfInBounds_toArray, List.set_cons_zero, List.set_cons_succ]
                      refine wpAnyH_take (i := 9) (oi := { dst := some 191, op := Op.load 5 (Operand.tmp 190), type := 5, pos := "law.go:88", after := #[{ on := 8, ground := Ground.data }], guard := none }) (v := ?_) rfl (by kernel_rfl) (by kernel_rfl) (by kernel_rfl) (fun _ _ _ h => h) (Or.inl ⟨by rfl, ?_⟩) (by assumption) ?_
                      rotate_left
                      · intro w hSw
                        try dsimp only at hSw
                        go_simp
                        try with_reducible rfl
                      try simp only [Act.put, List.setIfInBounds_toArray, List.set_cons_zero, List.set_cons_succ]
                      refine wpAnyH_ready (rs := [4]) (by kernel_rfl) (by simp) ?_
                      refine AllReadyH.cons (o := { dst := some 186, op := Op.call { callee := Callee.value (Operand.func 28), args := #[Operand.tmp 183, Operand.tmp 185], argTypes := #[3, 5] }, type := 45, pos := "law.go:88", after := #[{ on := 1, ground := Ground.data }, { on := 3, ground := Ground.data }], guard := none }) rfl (fun K hK => ?_) AllReadyH.nil
                      go_simp
                      with_reducible refine HA.out.go.mono ?_
                      clear HA
                      rintro e w6 ⟨v6, ⟨rfl, ho6⟩, ecA, h6⟩
                      have HA6 := Lib.hid h6
                      have hT6 : (fun W : World => W.cell? ⟨ob, 2, none⟩ = some (.int .u8 ch)) w6 := ho6.cell 2
                      clear h6 ho6
                      try go_wp2_with fail
                      refine hK.out _ _ hT6 (fun _ => ?_)
                      clear hK K
                      try simp only [Act.put, List.setIfInBounds_toArray, List.set_cons_zero, List.set_cons_succ]
                      clear hT
                      refine wpAnyH_ready (rs := [5]) (by kernel_rfl) (by simp) ?_
                      refine AllReadyH.cons (o := { dst := some 187, op := Op.call { callee := Callee.value (Operand.func 27), args := #[Operand.tmp 182, Operand.tmp 186], argTypes := #[32, 45] }, type := 26, pos := "law.go:88", after := #[{ on := 0, ground := Ground.data }, { on := 4, ground := Ground.data }, { on := 4, ground := Ground.chain }], guard := none }) rfl (fun K hK => ?_) AllReadyH.nil
                      go_simp
                      with_reducible refine HA6.out.mono ?_
                      clear HA6
                      rintro e w7 ⟨⟨rfl, ho7⟩, h7⟩
                      have HA7 := Lib.hid h7
                      have hT7 : (fun W : World => W.cell? ⟨ob, 2, none⟩ = some (.int .u8 ch)) w7 := ho7.cell 2
                      clear h7 ho7
                      try go_wp2_with fail
                      refine hK.out _ _ hT7 (fun _ => ?_)
                      clear hK K
                      try simp only [Act.put, List.setIfInBounds_toArray, List.set_cons_zero, List.set_cons_succ]
                      clear hT6
                      refine wpAnyH_ready (rs := [10]) (by kernel_rfl) (by simp) ?_
                      refine AllReadyH.cons (o := { dst := some 192, op := Op.call { callee := Callee.value (Operand.func 28), args := #[Operand.tmp 189, Operand.tmp 191], argTypes := #[3, 5] }, type := 45, pos := "law.go:88", after := #[{ on := 7, ground := Ground.data }, { on := 9, ground := Ground.data }, { on := 5, ground := Ground.chain }], guard := none }) rfl (fun K hK => ?_) AllReadyH.nil
                      go_simp
                      with_reducible refine HA7.out.mono ?_
                      clear HA7
                      rintro e w8 ⟨v8, ⟨rfl, ho8⟩, h8⟩
                      have HA8 := Lib.hid h8
                      have hT8 : (fun W : World => W.cell? ⟨ob, 2, none⟩ = some (.int .u8 ch)) w8 := ho8.cell 2
                      clear h8 ho8
                      try go_wp2_with fail
                      refine hK.out _ _ hT8 (fun _ => ?_)
                      clear hK K
                      try simp only [Act.put, List.setIfInBounds_toArray, List.set_cons_zero, List.set_cons_succ]
                      clear hT7
                      refine wpAnyH_ready (rs := [11]) (by kernel_rfl) (by simp) ?_
                      refine AllReadyH.cons (o := { dst := some 193, op := Op.call { callee := Callee.value (Operand.func 29), args := #[Operand.tmp 188, Operand.tmp 192], argTypes := #[36, 45] }, type := 26, pos := "law.go:88", after := #[{ on := 6, ground := Ground.data }, { on := 10, ground := Ground.data }, { on := 10, ground := Ground.chain }], guard := none }) rfl (fun K hK => ?_) AllReadyH.nil
                      go_simp
                      with_reducible refine HA8.out.mono ?_
                      clear HA8
                      rintro e w9 ⟨rfl, hs9⟩
                      have HS9 : Hid (Jo w B D L N B2 B2 n fr kn (10 * j + 10) false 0 u14 u17 u15 u18 ob _ w9) := ⟨hs9.s.more (by omega), hs9.o⟩
                      have hT9 : (fun W : World => W.cell? ⟨ob, 2, none⟩ = some (.int .u8 ch)) w9 := hs9.o.cell 2
                      clear hs9
                      try go_wp2_with fail
                      refine hK.out _ _ hT9 (fun _ => ?_)
                      clear hK K
                      try simp only [Act.put, List.setIfInBounds_toArray, List.set_cons_zero, List.set_cons_succ]
                      clear hT8
                      refine wpAnyH_take (i := 12) (oi := { dst := some 194, op := Op.binOp BinOp.neq 26 (Operand.tmp 187) (Operand.tmp 193) 26, type := 4, pos := "law.go:88", after := #[{ on := 5, ground := Ground.data }, { on := 11, ground := Ground.data }], guard := none }) (v := ?_) rfl (by kernel_rfl) (by kernel_rfl) (by kernel_rfl) (fun _ _ _ h => h) (Or.inl ⟨by rfl, ?_⟩) (by assumption) ?_
                      rotate_left
                      · intro w hSw
                        try dsimp only at hSw
                        go_simp
                        try with_reducible rfl
                      try simp only [Act.put, List.setIfInBounds_toArray, List.set_cons_zero, List.set_cons_succ]
                      refine wpAnyH_done (by kernel_rfl) ?_ _
                      clear hT9
                      go_wp2_with fail
                      go_meet
                      exact ⟨0, rfl, rfl, HS9.out⟩
                  · have n0 : (wt == 0) = false := beq_eq_false_iff_ne.2 (by omega)
                    have n1 : (wt == 1) = false := beq_eq_false_iff_ne.2 (by omega)
                    go_wp2_with fail
                    go_meet
                    exact ⟨0, rfl, rfl, HSo.out.s.more (by omega), HSo.out.o⟩
              · have de : (ec != 0) = true := by simpa using e0
                go_wp2_with fail
                go_meet
                exact ⟨ec, rfl, rfl, HSo.out.s.more (by omega), HSo.out.o⟩
      case rest =>
        obtain ⟨ec9, rfl, rfl, HC⟩ := hcut
        clear HSo HRo HKo HBy
        by_cases e9 : ec9 = 0
        · subst e9
          obtain ⟨rm, hr1, hr2⟩ := both_room HC.out.s hkn40
          have HR1 := Lib.hid hr1
          have HR2 := Lib.hid hr2
          clear hr1 hr2
          go_wp2_with (first | (go_at_call 30; with_reducible refine HR1.out.mono ?_; rintro e w' ⟨rfl, y1, rfl⟩) | (go_at_call 31; with_reducible refine (HR2.out _).mono ?_; rintro e w' ⟨rfl, y2, rfl⟩))
          constructor
          · exact ⟨j + 1, 0, rfl, rfl, by go_num, by omega, (HC.out.s.below (below_drewN (Below.refl _ _) _)).more (by omega)⟩
          · show on - ((j : Int) + 1).toNat < on - (j : Int).toNat
            omega
        · have de : (ec9 == 0) = false := beq_eq_false_iff_ne.2 e9
          go_wp2_with fail
          constructor
          · exact ⟨j + 1, ec9, rfl, rfl, by go_num, by omega, HC.out.s.more (by omega)⟩
          · show on - ((j : Int) + 1).toNat < on - (j : Int).toNat
            omega
    · have dj : decide ((j : Int) < (on : Int)) = false := decide_eq_false (by omega)
      have HSa := Lib.hid (both_same HJ.out.c)
      have HB := Lib.hid HJ.out.t.b
      have HSz := Lib.hid HB.out.size
      clear HJ
      go_wp2_with (first | (go_at_call 15; with_reducible refine HSa.out.mono ?_; rintro e w' ⟨rfl, y1, rfl⟩) | (go_at_call 32; with_reducible refine (HNd.out _).mono ?_; rintro e w' ⟨rfl, rfl⟩) | (go_at_call 33; with_reducible refine (HRNd.out _).mono ?_; rintro e w' ⟨rfl, rfl⟩))
      go_ret
      exact ⟨rfl, HB.out.trans (below_drewN (Below.refl _ _) _)⟩
end Go.Proofs.Yticiaiiedagalaa.dk
