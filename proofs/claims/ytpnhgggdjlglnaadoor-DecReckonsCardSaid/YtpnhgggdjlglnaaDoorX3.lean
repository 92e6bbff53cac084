/- Compare. -/
import Derived.Test.YtpnhgggdjlglnaaDoorX2
namespace Go.Proofs.YtpnhgggdjlglnaaDoor.dk
open Go.PlainAid Go.ChangeShapes Go.WideShapes Go.ChangeAt Go.RowKit

/-- Two numbers compared. -/
def cmpD (n1 : Bool) (d1 : ByteArray) (e1 : Int) (n2 : Bool) (d2 : ByteArray) (e2 : Int) : Int :=
  if dsane n1 (unstr d1) e1 = true ∧ dsane n2 (unstr d2) e2 = true then (if sgd n1 d1 = sgd n2 d2 then sgd n1 d1 * lgr d1 d2 e1 e2 else cmpI (sgd n1 d1) (sgd n2 d2)) else 0
theorem compareBytes_range : ∀ a b : List UInt8, -1 ≤ Lib.compareBytes a b ∧ Lib.compareBytes a b ≤ 1
  | [], [] => by decide
  | [], _ :: _ => by show (-1 : Int) ≤ -1 ∧ (-1 : Int) ≤ 1; decide
  | _ :: _, [] => by show (-1 : Int) ≤ 1 ∧ (1 : Int) ≤ 1; decide
  | a :: s, b :: t => by
    unfold Lib.compareBytes
    have := compareBytes_range s t
    split
    · decide
    · split
      · decide
      · exact this
theorem cmpI_range (a b : Int) : -1 ≤ cmpI a b ∧ cmpI a b ≤ 1 := by
  unfold cmpI
  split
  · decide
  · split
    · decide
    · decide
theorem lgr_range (d1 d2 : ByteArray) (e1 e2 : Int) : -1 ≤ lgr d1 d2 e1 e2 ∧ lgr d1 d2 e1 e2 ≤ 1 := by
  unfold lgr
  split
  · exact compareBytes_range _ _
  · exact cmpI_range _ _
theorem sgd_range (n : Bool) (d : ByteArray) : sgd n d = 0 ∨ sgd n d = -1 ∨ sgd n d = 1 := by
  unfold sgd
  split
  · exact .inl rfl
  · split
    · exact .inr (.inl rfl)
    · exact .inr (.inr rfl)
theorem dsane_any {n : Bool} {d : ByteArray} {e : Int} (h : dsane n (unstr d) e = true) : d.size ≤ 40 ∧ -440 ≤ e ∧ e ≤ 400 := by
  by_cases h0 : d.size = 0
  · unfold dsane at h
    rw [if_pos (by rw [unstr_length]; exact h0)] at h
    simp at h
    omega
  · obtain ⟨a, b, c, _⟩ := dsane_bounds h h0
    omega
set_option maxRecDepth 100000 in
set_option maxHeartbeats 2000000 in
theorem Compare_any (w : World) (n1 n2 : Bool) (d1 d2 : ByteArray) (e1 e2 : Int) (s1 : d1.size ≤ 1000000) (s2 : d2.size ≤ 1000000) :
    Calls Tryd.prog 15 #[.agg #[.bool n1, .string d1, .int .i64 e1], .agg #[.bool n2, .string d2, .int .i64 e2]] w fun e w' => e = .returned (.int .i64 (cmpD n1 d1 e1 n2 d2 e2)) ∧ Below w.heap.size w w' := by
  obtain ⟨wa, hwa, r1, r2, hB⟩ := two_rows_at w n1 n2 d1 d2 e1 e2
  have HS1 := Lib.hid (fun v => Sane_any v n1 d1 e1 (by omega))
  have HS2 := Lib.hid (fun v => Sane_any v n2 d2 e2 (by omega))
  have HG1 := Lib.hid (fun v => sign_any v n1 d1 e1)
  have HG2 := Lib.hid (fun v => sign_any v n2 d2 e2)
  have HQ1 := Lib.hid (@dsane_any n1 d1 e1)
  have HQ2 := Lib.hid (@dsane_any n2 d2 e2)
  have HL := Lib.hid (fun v => larger_any v n1 n2 d1 d2 e1 e2 s1 s2)
  unfold cmpD
  have hlr := lgr_range d1 d2 e1 e2
  have hsr := sgd_range n1 d1
  generalize dsane n1 (unstr d1) e1 = ok1 at HS1 HQ1 ⊢
  generalize dsane n2 (unstr d2) e2 = ok2 at HS2 HQ2 ⊢
  generalize sgd n1 d1 = g1 at HG1 hsr ⊢
  generalize sgd n2 d2 = g2 at HG2 ⊢
  generalize lgr d1 d2 e1 e2 = lr at HL hlr ⊢
  have HW := Lib.hid hwa
  have HR1 := Lib.hid r1
  have HR2 := Lib.hid r2
  have HB := Lib.hid hB
  obtain ⟨⟨x0, x1, x2⟩, _⟩ := row3 r1
  clear hwa r1 r2 hB
  cases ok1 with
  | false =>
    rw [if_neg (by simp)]
    go_enter Tryd.func15, Tryd.ntmps15
    go_upto_region 1 with fail
    rw [← HW.out]
    clear HW
    go_wp2_with fail
    with_reducible refine (HS1.out _).mono ?_
    rintro e w2 ⟨rfl, hb2⟩
    have HK := Lib.hid (HB.out.trans (hb2.mono HB.out.size))
    clear x0 x1 x2 hb2
    go_wp2_with fail
    go_ret
    exact ⟨rfl, HK.out⟩
  | true =>
    cases ok2 with
    | false =>
      rw [if_neg (by simp)]
      go_enter Tryd.func15, Tryd.ntmps15
      go_upto_region 1 with fail
      rw [← HW.out]
      clear HW
      go_wp2_with fail
      with_reducible refine (HS1.out _).mono ?_
      rintro e w2 ⟨rfl, hb2⟩
      obtain ⟨⟨y0, y1, y2⟩, _⟩ := row3 ((hb2.block _ (lt_of_block HR2.out)).trans HR2.out)
      have HK := Lib.hid (HB.out.trans (hb2.mono HB.out.size))
      clear x0 x1 x2 hb2
      go_wp2_with fail
      with_reducible refine (HS2.out _).mono ?_
      rintro e w3 ⟨rfl, hb3⟩
      have HK3 := Lib.hid (HK.out.trans (hb3.mono HK.out.size))
      clear y0 y1 y2 hb3
      go_wp2_with fail
      go_ret
      exact ⟨rfl, HK3.out⟩
    | true =>
      obtain ⟨_, u1, u2⟩ := HQ1.out rfl
      obtain ⟨_, u3, u4⟩ := HQ2.out rfl
      have HL2 := Lib.hid (fun v => HL.out v (by omega) (by omega) (by omega) (by omega))
      clear HL
      rw [if_pos ⟨rfl, rfl⟩]
      by_cases hg : g1 = g2
      · subst hg
        rw [if_pos rfl]
        have hw : IntKind.i64.wrap (g1 * lr) = g1 * lr := by
          rcases hsr with rfl | rfl | rfl <;> rw [IntKind.wrap_i64] <;> omega
        have HWr := Lib.hid hw
        clear hsr hlr hw
        go_enter Tryd.func15, Tryd.ntmps15
        go_upto_region 1 with fail
        rw [← HW.out]
        clear HW
        go_wp2_with fail
        with_reducible refine (HS1.out _).mono ?_
        rintro e w2 ⟨rfl, hb2⟩
        have HT1 := Lib.hid ((hb2.block _ (lt_of_block HR1.out)).trans HR1.out)
        have HT2 := Lib.hid ((hb2.block _ (lt_of_block HR2.out)).trans HR2.out)
        have HK := Lib.hid (HB.out.trans (hb2.mono HB.out.size))
        obtain ⟨⟨y0, y1, y2⟩, _⟩ := row3 HT2.out
        clear x0 x1 x2 hb2 HR1 HR2 HB
        go_wp2_with fail
        with_reducible refine (HS2.out _).mono ?_
        rintro e w3 ⟨rfl, hb3⟩
        have HR1 := Lib.hid ((hb3.block _ (lt_of_block HT1.out)).trans HT1.out)
        have HR2 := Lib.hid ((hb3.block _ (lt_of_block HT2.out)).trans HT2.out)
        have HB := Lib.hid (HK.out.trans (hb3.mono HK.out.size))
        clear y0 y1 y2 hb3 HT1 HT2 HK HS1 HS2
        go_upto_region 3 with fail
        have hbd : Below w3.heap.size w3 w3.drew := (Below.refl _ _).drew
        have HBd := Lib.hid (HB.out.trans (hbd.mono HB.out.size))
        have HR1d := Lib.hid ((hbd.block _ (lt_of_block HR1.out)).trans HR1.out)
        have HR2d := Lib.hid ((hbd.block _ (lt_of_block HR2.out)).trans HR2.out)
        have hT : (fun W : World => Below w3.drew.heap.size w3.drew W) w3.drew := Below.refl _ _
        clear hbd HB HR1 HR2
        refine wp_region_held_drew (S := (fun W : World => Below w3.drew.heap.size w3.drew W)) (by kernel_rfl) hT (fun hHeld => ?_)
        clear hHeld
        generalize w3.drew = wd at HBd HR1d HR2d hT ⊢
        refine wpAnyH_take (i := 0) (oi := { dst := some 13, op := Op.load 23 (Operand.tmp 2), type := 23, pos := "dec.go:167", after := #[], guard := none }) (v := ?_) rfl (by kernel_rfl) (by kernel_rfl) (by kernel_rfl) (fun _ _ _ h => h) (Or.inl ⟨by rfl, ?_⟩) (by assumption) ?_
        rotate_left
        · intro w hSw
          try dsimp only at hSw
          obtain ⟨⟨c0, c1, c2⟩, _⟩ := row3 ((hSw.block _ (lt_of_block HR1d.out)).trans HR1d.out)
          go_simp
          try with_reducible rfl
        try simp only [Act.put, List.setIfInBounds_toArray, List.set_cons_zero, List.set_cons_succ]
        refine wpAnyH_take (i := 2) (oi := { dst := some 15, op := Op.load 23 (Operand.tmp 3), type := 23, pos := "dec.go:167", after := #[], guard := none }) (v := ?_) rfl (by kernel_rfl) (by kernel_rfl) (by kernel_rfl) (fun _ _ _ h => h) (Or.inl ⟨by rfl, ?_⟩) (by assumption) ?_
        rotate_left
        · intro w hSw
          try dsimp only at hSw
          obtain ⟨⟨c0, c1, c2⟩, _⟩ := row3 ((hSw.block _ (lt_of_block HR2d.out)).trans HR2d.out)
          go_simp
          try with_reducible rfl
        try simp only [Act.put, List.setIfInBounds_toArray, List.set_cons_zero, List.set_cons_succ]
        refine wpAnyH_ready (rs := [1]) (by kernel_rfl) (by simp) ?_
        refine AllReadyH.cons (o := { dst := some 14, op := Op.call { callee := Callee.value (Operand.func 36), args := #[Operand.tmp 13], argTypes := #[23] }, type := 3, pos := "dec.go:167", after := #[{ on := 0, ground := Ground.data }], guard := none }) rfl (fun K hK => ?_) AllReadyH.nil
        go_simp
        with_reducible refine (HG1.out _).mono ?_
        rintro e w4 ⟨rfl, hb⟩
        have hT4 : (fun W : World => Below wd.heap.size wd W) w4 := hT.trans (hb.mono hT.size)
        refine hK.out _ _ hT4 (fun _ => ?_)
        clear hK K hb
        try simp only [Act.put, List.setIfInBounds_toArray, List.set_cons_zero, List.set_cons_succ]
        refine wpAnyH_ready (rs := [3]) (by kernel_rfl) (by simp) ?_
        refine AllReadyH.cons (o := { dst := some 16, op := Op.call { callee := Callee.value (Operand.func 36), args := #[Operand.tmp 15], argTypes := #[23] }, type := 3, pos := "dec.go:167", after := #[{ on := 2, ground := Ground.data }, { on := 1, ground := Ground.chain }], guard := none }) rfl (fun K hK => ?_) AllReadyH.nil
        go_simp
        with_reducible refine (HG2.out _).mono ?_
        rintro e w5 ⟨rfl, hb⟩
        have hT5 : (fun W : World => Below wd.heap.size wd W) w5 := hT4.trans (hb.mono hT4.size)
        refine hK.out _ _ hT5 (fun _ => ?_)
        clear hK K hb
        try simp only [Act.put, List.setIfInBounds_toArray, List.set_cons_zero, List.set_cons_succ]
        refine wpAnyH_take (i := 4) (oi := { dst := some 17, op := Op.binOp BinOp.neq 3 (Operand.tmp 14) (Operand.tmp 16) 3, type := 4, pos := "dec.go:167", after := #[{ on := 1, ground := Ground.data }, { on := 3, ground := Ground.data }], guard := none }) (v := ?_) rfl (by kernel_rfl) (by kernel_rfl) (by kernel_rfl) (fun _ _ _ h => h) (Or.inl ⟨by rfl, ?_⟩) (by assumption) ?_
        rotate_left
        · intro w hSw
          try dsimp only at hSw
          go_simp
          try with_reducible rfl
        try simp only [Act.put, List.setIfInBounds_toArray, List.set_cons_zero, List.set_cons_succ]
        refine wpAnyH_done (by kernel_rfl) ?_ _
        have HB := Lib.hid (HBd.out.trans (hT5.mono HBd.out.size))
        have HR1 := Lib.hid ((hT5.block _ (lt_of_block HR1d.out)).trans HR1d.out)
        have HR2 := Lib.hid ((hT5.block _ (lt_of_block HR2d.out)).trans HR2d.out)
        clear HBd HR1d HR2d hT hT4 hT5
        go_upto_region 5 with fail
        have hbd : Below w5.heap.size w5 w5.drew := (Below.refl _ _).drew
        have HBd := Lib.hid (HB.out.trans (hbd.mono HB.out.size))
        have HR1d := Lib.hid ((hbd.block _ (lt_of_block HR1.out)).trans HR1.out)
        have HR2d := Lib.hid ((hbd.block _ (lt_of_block HR2.out)).trans HR2.out)
        have hT : (fun W : World => Below w5.drew.heap.size w5.drew W) w5.drew := Below.refl _ _
        clear hbd HB HR1 HR2
        refine wp_region_held_drew (S := (fun W : World => Below w5.drew.heap.size w5.drew W)) (by kernel_rfl) hT (fun hHeld => ?_)
        clear hHeld
        generalize w5.drew = wd at HBd HR1d HR2d hT ⊢
        refine wpAnyH_take (i := 0) (oi := { dst := some 23, op := Op.load 23 (Operand.tmp 2), type := 23, pos := "dec.go:170", after := #[], guard := none }) (v := ?_) rfl (by kernel_rfl) (by kernel_rfl) (by kernel_rfl) (fun _ _ _ h => h) (Or.inl ⟨by rfl, ?_⟩) (by assumption) ?_
        rotate_left
        · intro w hSw
          try dsimp only at hSw
          obtain ⟨⟨c0, c1, c2⟩, _⟩ := row3 ((hSw.block _ (lt_of_block HR1d.out)).trans HR1d.out)
          go_simp
          try with_reducible rfl
        try simp only [Act.put, List.setIfInBounds_toArray, List.set_cons_zero, List.set_cons_succ]
        refine wpAnyH_take (i := 2) (oi := { dst := some 25, op := Op.load 23 (Operand.tmp 2), type := 23, pos := "dec.go:170", after := #[], guard := none }) (v := ?_) rfl (by kernel_rfl) (by kernel_rfl) (by kernel_rfl) (fun _ _ _ h => h) (Or.inl ⟨by rfl, ?_⟩) (by assumption) ?_
        rotate_left
        · intro w hSw
          try dsimp only at hSw
          obtain ⟨⟨c0, c1, c2⟩, _⟩ := row3 ((hSw.block _ (lt_of_block HR1d.out)).trans HR1d.out)
          go_simp
          try with_reducible rfl
        try simp only [Act.put, List.setIfInBounds_toArray, List.set_cons_zero, List.set_cons_succ]
        refine wpAnyH_take (i := 3) (oi := { dst := some 26, op := Op.load 23 (Operand.tmp 3), type := 23, pos := "dec.go:170", after := #[], guard := none }) (v := ?_) rfl (by kernel_rfl) (by kernel_rfl) (by kernel_rfl) (fun _ _ _ h => h) (Or.inl ⟨by rfl, ?_⟩) (by assumption) ?_
        rotate_left
        · intro w hSw
          try dsimp only at hSw
          obtain ⟨⟨c0, c1, c2⟩, _⟩ := row3 ((hSw.block _ (lt_of_block HR2d.out)).trans HR2d.out)
          go_simp
          try with_reducible rfl
        try simp only [Act.put, List.setIfInBounds_toArray, List.set_cons_zero, List.set_cons_succ]
        refine wpAnyH_ready (rs := [1]) (by kernel_rfl) (by simp) ?_
        refine AllReadyH.cons (o := { dst := some 24, op := Op.call { callee := Callee.value (Operand.func 36), args := #[Operand.tmp 23], argTypes := #[23] }, type := 3, pos := "dec.go:170", after := #[{ on := 0, ground := Ground.data }], guard := none }) rfl (fun K hK => ?_) AllReadyH.nil
        go_simp
        with_reducible refine (HG1.out _).mono ?_
        rintro e w6 ⟨rfl, hb⟩
        have hT6 : (fun W : World => Below wd.heap.size wd W) w6 := hT.trans (hb.mono hT.size)
        refine hK.out _ _ hT6 (fun _ => ?_)
        clear hK K hb
        try simp only [Act.put, List.setIfInBounds_toArray, List.set_cons_zero, List.set_cons_succ]
        refine wpAnyH_ready (rs := [4]) (by kernel_rfl) (by simp) ?_
        refine AllReadyH.cons (o := { dst := some 27, op := Op.call { callee := Callee.value (Operand.func 26), args := #[Operand.tmp 25, Operand.tmp 26], argTypes := #[23, 23] }, type := 3, pos := "dec.go:170", after := #[{ on := 2, ground := Ground.data }, { on := 3, ground := Ground.data }, { on := 1, ground := Ground.chain }], guard := none }) rfl (fun K hK => ?_) AllReadyH.nil
        go_simp
        with_reducible refine (HL2.out _).mono ?_
        rintro e w7 ⟨rfl, hb⟩
        have hT7 : (fun W : World => Below wd.heap.size wd W) w7 := hT6.trans (hb.mono hT6.size)
        refine hK.out _ _ hT7 (fun _ => ?_)
        clear hK K hb
        try simp only [Act.put, List.setIfInBounds_toArray, List.set_cons_zero, List.set_cons_succ]
        have hw := HWr.out
        refine wpAnyH_take (i := 5) (oi := { dst := some 28, op := Op.binOp BinOp.mul 3 (Operand.tmp 24) (Operand.tmp 27) 3, type := 3, pos := "dec.go:170", after := #[{ on := 1, ground := Ground.data }, { on := 4, ground := Ground.data }], guard := none }) (v := ?_) rfl (by kernel_rfl) (by kernel_rfl) (by kernel_rfl) (fun _ _ _ h => h) (Or.inl ⟨by rfl, ?_⟩) (by assumption) ?_
        rotate_left
        · intro w hSw
          try dsimp only at hSw
          go_simp
          try with_reducible rfl
        try simp only [Act.put, List.setIfInBounds_toArray, List.set_cons_zero, List.set_cons_succ]
        refine wpAnyH_take (i := 6) (oi := { dst := some 4, op := Op.assign (Operand.tmp 28), type := 3, pos := "dec.go:170", after := #[{ on := 5, ground := Ground.data }, { on := 4, ground := Ground.chain }, { on := 0, ground := Ground.phase }, { on := 1, ground := Ground.phase }, { on := 2, ground := Ground.phase }, { on := 3, ground := Ground.phase }, { on := 4, ground := Ground.phase }, { on := 5, ground := Ground.phase }], guard := none }) (v := ?_) rfl (by kernel_rfl) (by kernel_rfl) (by kernel_rfl) (fun _ _ _ h => h) (Or.inl ⟨by rfl, ?_⟩) (by assumption) ?_
        rotate_left
        · intro w hSw
          try dsimp only at hSw
          go_simp
          try with_reducible rfl
        try simp only [Act.put, List.setIfInBounds_toArray, List.set_cons_zero, List.set_cons_succ]
        refine wpAnyH_done (by kernel_rfl) ?_ _
        have HB := Lib.hid (HBd.out.trans (hT7.mono HBd.out.size))
        have HR1 := Lib.hid ((hT7.block _ (lt_of_block HR1d.out)).trans HR1d.out)
        have HR2 := Lib.hid ((hT7.block _ (lt_of_block HR2d.out)).trans HR2d.out)
        clear HBd HR1d HR2d hT hT6 hT7 HL2 HG1 HG2 hw HWr
        go_wp2_with fail
        go_ret
        exact ⟨rfl, HB.out⟩
      · rw [if_neg hg]
        have dg : (g1 == g2) = false := beq_eq_false_iff_ne.2 hg
        have HC := Lib.hid (fun v => cmpI_any v g1 g2)
        generalize cmpI g1 g2 = cc at HC ⊢
        have HDg := Lib.hid dg
        clear hsr hlr HL2 dg hg
        go_enter Tryd.func15, Tryd.ntmps15
        go_upto_region 1 with fail
        rw [← HW.out]
        clear HW
        go_wp2_with fail
        with_reducible refine (HS1.out _).mono ?_
        rintro e w2 ⟨rfl, hb2⟩
        have HT1 := Lib.hid ((hb2.block _ (lt_of_block HR1.out)).trans HR1.out)
        have HT2 := Lib.hid ((hb2.block _ (lt_of_block HR2.out)).trans HR2.out)
        have HK := Lib.hid (HB.out.trans (hb2.mono HB.out.size))
        obtain ⟨⟨y0, y1, y2⟩, _⟩ := row3 HT2.out
        clear x0 x1 x2 hb2 HR1 HR2 HB
        go_wp2_with fail
        with_reducible refine (HS2.out _).mono ?_
        rintro e w3 ⟨rfl, hb3⟩
        have HR1 := Lib.hid ((hb3.block _ (lt_of_block HT1.out)).trans HT1.out)
        have HR2 := Lib.hid ((hb3.block _ (lt_of_block HT2.out)).trans HT2.out)
        have HB := Lib.hid (HK.out.trans (hb3.mono HK.out.size))
        clear y0 y1 y2 hb3 HT1 HT2 HK HS1 HS2
        go_upto_region 3 with fail
        have hbd : Below w3.heap.size w3 w3.drew := (Below.refl _ _).drew
        have HBd := Lib.hid (HB.out.trans (hbd.mono HB.out.size))
        have HR1d := Lib.hid ((hbd.block _ (lt_of_block HR1.out)).trans HR1.out)
        have HR2d := Lib.hid ((hbd.block _ (lt_of_block HR2.out)).trans HR2.out)
        have hT : (fun W : World => Below w3.drew.heap.size w3.drew W) w3.drew := Below.refl _ _
        clear hbd HB HR1 HR2
        refine wp_region_held_drew (S := (fun W : World => Below w3.drew.heap.size w3.drew W)) (by kernel_rfl) hT (fun hHeld => ?_)
        clear hHeld
        generalize w3.drew = wd at HBd HR1d HR2d hT ⊢
        refine wpAnyH_take (i := 0) (oi := { dst := some 13, op := Op.load 23 (Operand.tmp 2), type := 23, pos := "dec.go:167", after := #[], guard := none }) (v := ?_) rfl (by kernel_rfl) (by kernel_rfl) (by kernel_rfl) (fun _ _ _ h => h) (Or.inl ⟨by rfl, ?_⟩) (by assumption) ?_
        rotate_left
        · intro w hSw
          try dsimp only at hSw
          obtain ⟨⟨c0, c1, c2⟩, _⟩ := row3 ((hSw.block _ (lt_of_block HR1d.out)).trans HR1d.out)
          go_simp
          try with_reducible rfl
        try simp only [Act.put, List.setIfInBounds_toArray, List.set_cons_zero, List.set_cons_succ]
        refine wpAnyH_take (i := 2) (oi := { dst := some 15, op := Op.load 23 (Operand.tmp 3), type := 23, pos := "dec.go:167", after := #[], guard := none }) (v := ?_) rfl (by kernel_rfl) (by kernel_rfl) (by kernel_rfl) (fun _ _ _ h => h) (Or.inl ⟨by rfl, ?_⟩) (by assumption) ?_
        rotate_left
        · intro w hSw
          try dsimp only at hSw
          obtain ⟨⟨c0, c1, c2⟩, _⟩ := row3 ((hSw.block _ (lt_of_block HR2d.out)).trans HR2d.out)
          go_simp
          try with_reducible rfl
        try simp only [Act.put, List.setIfInBounds_toArray, List.set_cons_zero, List.set_cons_succ]
        refine wpAnyH_ready (rs := [1]) (by kernel_rfl) (by simp) ?_
        refine AllReadyH.cons (o := { dst := some 14, op := Op.call { callee := Callee.value (Operand.func 36), args := #[Operand.tmp 13], argTypes := #[23] }, type := 3, pos := "dec.go:167", after := #[{ on := 0, ground := Ground.data }], guard := none }) rfl (fun K hK => ?_) AllReadyH.nil
        go_simp
        with_reducible refine (HG1.out _).mono ?_
        rintro e w4 ⟨rfl, hb⟩
        have hT4 : (fun W : World => Below wd.heap.size wd W) w4 := hT.trans (hb.mono hT.size)
        refine hK.out _ _ hT4 (fun _ => ?_)
        clear hK K hb
        try simp only [Act.put, List.setIfInBounds_toArray, List.set_cons_zero, List.set_cons_succ]
        refine wpAnyH_ready (rs := [3]) (by kernel_rfl) (by simp) ?_
        refine AllReadyH.cons (o := { dst := some 16, op := Op.call { callee := Callee.value (Operand.func 36), args := #[Operand.tmp 15], argTypes := #[23] }, type := 3, pos := "dec.go:167", after := #[{ on := 2, ground := Ground.data }, { on := 1, ground := Ground.chain }], guard := none }) rfl (fun K hK => ?_) AllReadyH.nil
        go_simp
        with_reducible refine (HG2.out _).mono ?_
        rintro e w5 ⟨rfl, hb⟩
        have hT5 : (fun W : World => Below wd.heap.size wd W) w5 := hT4.trans (hb.mono hT4.size)
        refine hK.out _ _ hT5 (fun _ => ?_)
        clear hK K hb
        try simp only [Act.put, List.setIfInBounds_toArray, List.set_cons_zero, List.set_cons_succ]
        have dg := HDg.out
        refine wpAnyH_take (i := 4) (oi := { dst := some 17, op := Op.binOp BinOp.neq 3 (Operand.tmp 14) (Operand.tmp 16) 3, type := 4, pos := "dec.go:167", after := #[{ on := 1, ground := Ground.data }, { on := 3, ground := Ground.data }], guard := none }) (v := ?_) rfl (by kernel_rfl) (by kernel_rfl) (by kernel_rfl) (fun _ _ _ h => h) (Or.inl ⟨by rfl, ?_⟩) (by assumption) ?_
        rotate_left
        · intro w hSw
          try dsimp only at hSw
          go_simp
          try with_reducible rfl
        try simp only [Act.put, List.setIfInBounds_toArray, List.set_cons_zero, List.set_cons_succ]
        refine wpAnyH_done (by kernel_rfl) ?_ _
        have HB := Lib.hid (HBd.out.trans (hT5.mono HBd.out.size))
        have HR1 := Lib.hid ((hT5.block _ (lt_of_block HR1d.out)).trans HR1d.out)
        have HR2 := Lib.hid ((hT5.block _ (lt_of_block HR2d.out)).trans HR2d.out)
        clear HBd HR1d HR2d hT hT4 hT5
        go_upto_region 4 with fail
        have hbd : Below w5.heap.size w5 w5.drew := (Below.refl _ _).drew
        have HBd := Lib.hid (HB.out.trans (hbd.mono HB.out.size))
        have HR1d := Lib.hid ((hbd.block _ (lt_of_block HR1.out)).trans HR1.out)
        have HR2d := Lib.hid ((hbd.block _ (lt_of_block HR2.out)).trans HR2.out)
        have hT : (fun W : World => Below w5.drew.heap.size w5.drew W) w5.drew := Below.refl _ _
        clear hbd HB HR1 HR2
        refine wp_region_held_drew (S := (fun W : World => Below w5.drew.heap.size w5.drew W)) (by kernel_rfl) hT (fun hHeld => ?_)
        clear hHeld
        generalize w5.drew = wd at HBd HR1d HR2d hT ⊢
        refine wpAnyH_take (i := 0) (oi := { dst := some 18, op := Op.load 23 (Operand.tmp 2), type := 23, pos := "dec.go:168", after := #[], guard := none }) (v := ?_) rfl (by kernel_rfl) (by kernel_rfl) (by kernel_rfl) (fun _ _ _ h => h) (Or.inl ⟨by rfl, ?_⟩) (by assumption) ?_
        rotate_left
        · intro w hSw
          try dsimp only at hSw
          obtain ⟨⟨c0, c1, c2⟩, _⟩ := row3 ((hSw.block _ (lt_of_block HR1d.out)).trans HR1d.out)
          go_simp
          try with_reducible rfl
        try simp only [Act.put, List.setIfInBounds_toArray, List.set_cons_zero, List.set_cons_succ]
        refine wpAnyH_take (i := 2) (oi := { dst := some 20, op := Op.load 23 (Operand.tmp 3), type := 23, pos := "dec.go:168", after := #[], guard := none }) (v := ?_) rfl (by kernel_rfl) (by kernel_rfl) (by kernel_rfl) (fun _ _ _ h => h) (Or.inl ⟨by rfl, ?_⟩) (by assumption) ?_
        rotate_left
        · intro w hSw
          try dsimp only at hSw
          obtain ⟨⟨c0, c1, c2⟩, _⟩ := row3 ((hSw.block _ (lt_of_block HR2d.out)).trans HR2d.out)
          go_simp
          try with_reducible rfl
        try simp only [Act.put, List.setIfInBounds_toArray, List.set_cons_zero, List.set_cons_succ]
        refine wpAnyH_ready (rs := [1]) (by kernel_rfl) (by simp) ?_
        refine AllReadyH.cons (o := { dst := some 19, op := Op.call { callee := Callee.value (Operand.func 36), args := #[Operand.tmp 18], argTypes := #[23] }, type := 3, pos := "dec.go:168", after := #[{ on := 0, ground := Ground.data }], guard := none }) rfl (fun K hK => ?_) AllReadyH.nil
        go_simp
        with_reducible refine (HG1.out _).mono ?_
        rintro e w6 ⟨rfl, hb⟩
        have hT6 : (fun W : World => Below wd.heap.size wd W) w6 := hT.trans (hb.mono hT.size)
        refine hK.out _ _ hT6 (fun _ => ?_)
        clear hK K hb
        try simp only [Act.put, List.setIfInBounds_toArray, List.set_cons_zero, List.set_cons_succ]
        refine wpAnyH_ready (rs := [3]) (by kernel_rfl) (by simp) ?_
        refine AllReadyH.cons (o := { dst := some 21, op := Op.call { callee := Callee.value (Operand.func 36), args := #[Operand.tmp 20], argTypes := #[23] }, type := 3, pos := "dec.go:168", after := #[{ on := 2, ground := Ground.data }, { on := 1, ground := Ground.chain }], guard := none }) rfl (fun K hK => ?_) AllReadyH.nil
        go_simp
        with_reducible refine (HG2.out _).mono ?_
        rintro e w7 ⟨rfl, hb⟩
        have hT7 : (fun W : World => Below wd.heap.size wd W) w7 := hT6.trans (hb.mono hT6.size)
        refine hK.out _ _ hT7 (fun _ => ?_)
        clear hK K hb
        try simp only [Act.put, List.setIfInBounds_toArray, List.set_cons_zero, List.set_cons_succ]
        refine wpAnyH_ready (rs := [4]) (by kernel_rfl) (by simp) ?_
        refine AllReadyH.cons (o := { dst := some 22, op := Op.call { callee := Callee.value (Operand.func 37), args := #[Operand.tmp 19, Operand.tmp 21], argTypes := #[3, 3] }, type := 3, pos := "dec.go:168", after := #[{ on := 1, ground := Ground.data }, { on := 3, ground := Ground.data }, { on := 3, ground := Ground.chain }], guard := none }) rfl (fun K hK => ?_) AllReadyH.nil
        go_simp
        with_reducible refine (HC.out _).mono ?_
        rintro e w8 ⟨rfl, rfl⟩
        refine hK.out _ _ hT7 (fun _ => ?_)
        clear hK K
        try simp only [Act.put, List.setIfInBounds_toArray, List.set_cons_zero, List.set_cons_succ]
        refine wpAnyH_take (i := 5) (oi := { dst := some 4, op := Op.assign (Operand.tmp 22), type := 3, pos := "dec.go:168", after := #[{ on := 4, ground := Ground.data }, { on := 4, ground := Ground.chain }, { on := 0, ground := Ground.phase }, { on := 1, ground := Ground.phase }, { on := 2, ground := Ground.phase }, { on := 3, ground := Ground.phase }, { on := 4, ground := Ground.phase }], guard := none }) (v := ?_) rfl (by kernel_rfl) (by kernel_rfl) (by kernel_rfl) (fun _ _ _ h => h) (Or.inl ⟨by rfl, ?_⟩) (by assumption) ?_
        rotate_left
        · intro w hSw
          try dsimp only at hSw
          go_simp
          try with_reducible rfl
        try simp only [Act.put, List.setIfInBounds_toArray, List.set_cons_zero, List.set_cons_succ]
        refine wpAnyH_done (by kernel_rfl) ?_ _
        have HB := Lib.hid (HBd.out.trans (hT7.mono HBd.out.size))
        have HR1 := Lib.hid ((hT7.block _ (lt_of_block HR1d.out)).trans HR1d.out)
        have HR2 := Lib.hid ((hT7.block _ (lt_of_block HR2d.out)).trans HR2d.out)
        clear HBd HR1d HR2d hT hT6 hT7 HC HG1 HG2
        go_wp2_with fail
        go_ret
        exact ⟨rfl, HB.out⟩
end Go.Proofs.YtpnhgggdjlglnaaDoor.dk
