/- Mul. -/
import Derived.Test.YtpnhgggdjlglnaaDoorX5
import Derived.Deep.DeepCutAuto
import Derived.Deep.CutBlock
namespace Go.Proofs.YtpnhgggdjlglnaaDoor.dk
open Go.PlainAid Go.ChangeShapes Go.WideShapes Go.ChangeAt Go.RowKit

theorem dsane_digs {n : Bool} {d : ByteArray} {e : Int} (h : dsane n (unstr d) e = true) : ∀ x ∈ unstr d, isDig x = true := by
  by_cases h0 : d.size = 0
  · obtain rfl := ba_nil h0
    intro x hx
    cases hx
  · exact (dsane_bounds h h0).2.2.2
set_option maxRecDepth 100000 in
set_option maxHeartbeats 4000000 in
theorem Mul_bad1 (w : World) (n1 n2 : Bool) (d1 d2 : ByteArray) (e1 e2 : Int) (s1 : d1.size ≤ 1000000) (s2 : d2.size ≤ 1000000) (h1 : dsane n1 (unstr d1) e1 = false) :
    Calls Tryd.prog 13 #[.agg #[.bool n1, .string d1, .int .i64 e1], .agg #[.bool n2, .string d2, .int .i64 e2]] w fun e w' => e = .returned (.tuple #[Nm.zero.v, .int .i64 1]) ∧ Below w.heap.size w w' := by
  obtain ⟨wa, hwa, r1, r2, r3, hB⟩ := three_rows_at w n1 n2 d1 d2 e1 e2
  have HS1 := Lib.hid (fun v => Sane_any v n1 d1 e1 (by omega))
  have HS2 := Lib.hid (fun v => Sane_any v n2 d2 e2 (by omega))
  have HW := Lib.hid hwa
  have HR1 := Lib.hid r1
  have HR2 := Lib.hid r2
  have HR3 := Lib.hid r3
  have HB := Lib.hid hB
  obtain ⟨⟨x0, x1, x2⟩, _⟩ := row3 r1
  clear hwa r1 r2 r3 hB
  rw [h1] at HS1
  clear h1
  go_enter Tryd.func13, Tryd.ntmps13
  go_upto_region 1 with fail
  rw [← HW.out]
  clear HW
  go_wp2_with fail
  with_reducible refine (HS1.out _).mono ?_
  rintro e w2 ⟨rfl, hb2⟩
  have HT1 := Lib.hid ((hb2.block _ (lt_of_block HR1.out)).trans HR1.out)
  have HT2 := Lib.hid ((hb2.block _ (lt_of_block HR2.out)).trans HR2.out)
  have HT3 := Lib.hid ((hb2.block _ (lt_of_block HR3.out)).trans HR3.out)
  have HK := Lib.hid (HB.out.trans (hb2.mono HB.out.size))
  clear x0 x1 x2 hb2 HR1 HR2 HR3 HB
  obtain ⟨⟨z0, z1, z2⟩, f0, f1, f2⟩ := row3 HT3.out
  have hS := set3 (v0 := (.bool false)) (v1 := (.string ⟨#[]⟩)) (v2 := (.int .i64 0)) HT3.out (by omega) HK.out
  have HS := Lib.hid hS
  clear hS HT3 HK
  go_wp2_with fail
  refine bodyPost_ret (results_row_tmp rfl _ _ (w.heap.size + 1 + 1) _ _ _ _ rfl HS.out.1 Tryd.underlying23 rfl (by kernel_rfl)) rfl ⟨rfl, HS.out.2⟩
set_option maxRecDepth 100000 in
set_option maxHeartbeats 4000000 in
theorem Mul_bad2 (w : World) (n1 n2 : Bool) (d1 d2 : ByteArray) (e1 e2 : Int) (s1 : d1.size ≤ 1000000) (s2 : d2.size ≤ 1000000) (h1 : dsane n1 (unstr d1) e1 = true) (h2 : dsane n2 (unstr d2) e2 = false) :
    Calls Tryd.prog 13 #[.agg #[.bool n1, .string d1, .int .i64 e1], .agg #[.bool n2, .string d2, .int .i64 e2]] w fun e w' => e = .returned (.tuple #[Nm.zero.v, .int .i64 1]) ∧ Below w.heap.size w w' := by
  obtain ⟨wa, hwa, r1, r2, r3, hB⟩ := three_rows_at w n1 n2 d1 d2 e1 e2
  have HS1 := Lib.hid (fun v => Sane_any v n1 d1 e1 (by omega))
  have HS2 := Lib.hid (fun v => Sane_any v n2 d2 e2 (by omega))
  have HW := Lib.hid hwa
  have HR1 := Lib.hid r1
  have HR2 := Lib.hid r2
  have HR3 := Lib.hid r3
  have HB := Lib.hid hB
  obtain ⟨⟨x0, x1, x2⟩, _⟩ := row3 r1
  clear hwa r1 r2 r3 hB
  rw [h1] at HS1
  rw [h2] at HS2
  clear h1 h2
  go_enter Tryd.func13, Tryd.ntmps13
  go_upto_region 1 with fail
  rw [← HW.out]
  clear HW
  go_wp2_with fail
  with_reducible refine (HS1.out _).mono ?_
  rintro e w2 ⟨rfl, hb2⟩
  have HT1 := Lib.hid ((hb2.block _ (lt_of_block HR1.out)).trans HR1.out)
  have HT2 := Lib.hid ((hb2.block _ (lt_of_block HR2.out)).trans HR2.out)
  have HT3 := Lib.hid ((hb2.block _ (lt_of_block HR3.out)).trans HR3.out)
  have HK := Lib.hid (HB.out.trans (hb2.mono HB.out.size))
  clear x0 x1 x2 hb2 HR1 HR2 HR3 HB
  obtain ⟨⟨y0, y1, y2⟩, _⟩ := row3 HT2.out
  go_wp2_with fail
  with_reducible refine (HS2.out _).mono ?_
  rintro e w3 ⟨rfl, hb3⟩
  have HR1 := Lib.hid ((hb3.block _ (lt_of_block HT1.out)).trans HT1.out)
  have HR2 := Lib.hid ((hb3.block _ (lt_of_block HT2.out)).trans HT2.out)
  have HR3 := Lib.hid ((hb3.block _ (lt_of_block HT3.out)).trans HT3.out)
  have HB := Lib.hid (HK.out.trans (hb3.mono HK.out.size))
  clear y0 y1 y2 hb3 HT1 HT2 HT3 HK HS1 HS2
  obtain ⟨⟨z0, z1, z2⟩, f0, f1, f2⟩ := row3 HR3.out
  have hS := set3 (v0 := (.bool false)) (v1 := (.string ⟨#[]⟩)) (v2 := (.int .i64 0)) HR3.out (by omega) HB.out
  have HS := Lib.hid hS
  clear hS HR3 HB
  go_wp2_with fail
  refine bodyPost_ret (results_row_tmp rfl _ _ (w.heap.size + 1 + 1) _ _ _ _ rfl HS.out.1 Tryd.underlying23 rfl (by kernel_rfl)) rfl ⟨rfl, HS.out.2⟩
set_option maxRecDepth 100000 in
set_option maxHeartbeats 4000000 in
theorem Mul_ok (w : World) (n1 n2 : Bool) (d1 d2 : ByteArray) (e1 e2 : Int) (s1 : d1.size ≤ 1000000) (s2 : d2.size ≤ 1000000) (h1 : dsane n1 (unstr d1) e1 = true) (h2 : dsane n2 (unstr d2) e2 = true) (hd1 : ∀ x ∈ unstr d1, isDig x = true) (hd2 : ∀ x ∈ unstr d2, isDig x = true) :
    Calls Tryd.prog 13 #[.agg #[.bool n1, .string d1, .int .i64 e1], .agg #[.bool n2, .string d2, .int .i64 e2]] w fun e w' => e = .returned (toldN (fmN (n1 != n2) (strOf (pdig d1 d2 e1 e2)) (e1 + e2))) ∧ Below w.heap.size w w' := by
  obtain ⟨k11, k12, k13⟩ := dsane_any h1
  obtain ⟨k21, k22, k23⟩ := dsane_any h2
  have hM := fun v => formed_any v (n1 != n2) (strOf (pdig d1 d2 e1 e2)) (e1 + e2) (by rw [strOf_len]; unfold pdig; rw [psum_len]; omega) (by omega) (by omega)
  have hds := Nat.le_trans (fdig_size (strOf (pdig d1 d2 e1 e2))) (by rw [strOf_len]; unfold pdig; rw [psum_len]; show _ ≤ 5000; omega)
  unfold fmN
  rw [fmd_eq] at hM
  have hC := fun v => checked_any v (fneg (n1 != n2) (strOf (pdig d1 d2 e1 e2))) (fdig (strOf (pdig d1 d2 e1 e2))) (fexp (strOf (pdig d1 d2 e1 e2)) (e1 + e2)) (by omega)
  show Calls _ _ _ _ fun e w' => e = .returned (told #[.bool (fneg (n1 != n2) (strOf (pdig d1 d2 e1 e2))), .string (fdig (strOf (pdig d1 d2 e1 e2))), .int .i64 (fexp (strOf (pdig d1 d2 e1 e2)) (e1 + e2))] (dsane (fneg (n1 != n2) (strOf (pdig d1 d2 e1 e2))) (unstr (fdig (strOf (pdig d1 d2 e1 e2)))) (fexp (strOf (pdig d1 d2 e1 e2)) (e1 + e2)))) ∧ _
  generalize ho : strOf (pdig d1 d2 e1 e2) = os at hM hC ⊢
  generalize fneg (n1 != n2) os = en at hM hC ⊢
  generalize fdig os = ed at hM hC ⊢
  generalize fexp os (e1 + e2) = ee at hM hC ⊢
  generalize dsane en (unstr ed) ee = okk at hC ⊢
  obtain ⟨c, hc⟩ : ∃ c, c = pC (unstr d1) (unstr d2) e1 e2 d1.size := ⟨_, rfl⟩
  obtain ⟨m, hm⟩ : ∃ m : Nat, m = d1.size + d2.size := ⟨_, rfl⟩
  have ho2 : strOf (psum c m).2 = os := by rw [← ho, hc, hm]; rfl
  have hF : ∀ i k, 0 ≤ pF (unstr d1) (unstr d2) e1 e2 i k ∧ pF (unstr d1) (unstr d2) e1 e2 i k ≤ 81 := fun i k => digit_mul (dat_range _ _ _ hd1) (dat_range _ _ _ hd2)
  have hcr : ∀ i, 0 ≤ c i ∧ c i ≤ 3240 := fun i => by
    have := isum_range (pF (unstr d1) (unstr d2) e1 e2 i) (hF i) (min (i + 1) d1.size)
    rw [hc]
    unfold pC
    omega
  have hce : ∀ i, c i = isum (pF (unstr d1) (unstr d2) e1 e2 i) (min (i + 1) d1.size) := fun i => by rw [hc]; rfl
  rw [show (n1 != n2) = (!(n1 == n2)) from rfl] at hM
  have HM := Lib.hid hM
  have HC := Lib.hid hC
  have HO := Lib.hid ho2
  have HF := Lib.hid hF
  have HCr := Lib.hid hcr
  have HCe := Lib.hid hce
  have HG1 := Lib.hid hd1
  have HG2 := Lib.hid hd2
  clear hM hC hds ho ho2 hc hF hcr hce hd1 hd2
  obtain ⟨wa, hwa, r1, r2, r3, hB⟩ := three_rows_at w n1 n2 d1 d2 e1 e2
  have HS1 := Lib.hid (fun v => Sane_any v n1 d1 e1 (by omega))
  have HS2 := Lib.hid (fun v => Sane_any v n2 d2 e2 (by omega))
  have HW := Lib.hid hwa
  have HR1 := Lib.hid r1
  have HR2 := Lib.hid r2
  have HR3 := Lib.hid r3
  have HB := Lib.hid hB
  obtain ⟨⟨x0, x1, x2⟩, _⟩ := row3 r1
  clear hwa r1 r2 r3 hB
  rw [h1] at HS1
  rw [h2] at HS2
  clear h1 h2
  go_enter Tryd.func13, Tryd.ntmps13
  go_upto_region 1 with fail
  rw [← HW.out]
  clear HW
  go_wp2_with fail
  with_reducible refine (HS1.out _).mono ?_
  rintro e w2 ⟨rfl, hb2⟩
  have HT1 := Lib.hid ((hb2.block _ (lt_of_block HR1.out)).trans HR1.out)
  have HT2 := Lib.hid ((hb2.block _ (lt_of_block HR2.out)).trans HR2.out)
  have HT3 := Lib.hid ((hb2.block _ (lt_of_block HR3.out)).trans HR3.out)
  have HK := Lib.hid (HB.out.trans (hb2.mono HB.out.size))
  clear x0 x1 x2 hb2 HR1 HR2 HR3 HB
  obtain ⟨⟨y0, y1, y2⟩, _⟩ := row3 HT2.out
  go_wp2_with fail
  with_reducible refine (HS2.out _).mono ?_
  rintro e w3 ⟨rfl, hb3⟩
  have HR1 := Lib.hid ((hb3.block _ (lt_of_block HT1.out)).trans HT1.out)
  have HR2 := Lib.hid ((hb3.block _ (lt_of_block HT2.out)).trans HT2.out)
  have HR3 := Lib.hid ((hb3.block _ (lt_of_block HT3.out)).trans HT3.out)
  have HB := Lib.hid (HK.out.trans (hb3.mono HK.out.size))
  clear y0 y1 y2 hb3 HT1 HT2 HT3 HK HS1 HS2
  go_upto_region 3 with fail
  have hbd : Below w3.heap.size w3 w3.drew := (Below.refl _ _).drew
  have HBd := Lib.hid (HB.out.trans (hbd.mono HB.out.size))
  have HR1d := Lib.hid ((hbd.block _ (lt_of_block HR1.out)).trans HR1.out)
  have HR2d := Lib.hid ((hbd.block _ (lt_of_block HR2.out)).trans HR2.out)
  have HR3d := Lib.hid ((hbd.block _ (lt_of_block HR3.out)).trans HR3.out)
  have hT : (fun W : World => Below w3.drew.heap.size w3.drew W) w3.drew := Below.refl _ _
  clear hbd HB HR1 HR2 HR3
  refine wp_region_held_drew (S := (fun W : World => Below w3.drew.heap.size w3.drew W)) (by kernel_rfl) hT (fun hHeld => ?_)
  clear hHeld
  generalize w3.drew = wd at HBd HR1d HR2d HR3d hT ⊢
  refine wpAnyH_take (i := 0) (oi := { dst := some 22, op := Op.load 23 (Operand.tmp 2), type := 23, pos := "dec.go:238", after := #[], guard := none }) (v := ?_) rfl (by kernel_rfl) (by kernel_rfl) (by kernel_rfl) (fun _ _ _ h => h) (Or.inl ⟨by rfl, ?_⟩) (by assumption) ?_
  rotate_left
  · intro w hSw
    try dsimp only at hSw
    obtain ⟨⟨c0, c1, c2⟩, _⟩ := row3 ((hSw.block _ (lt_of_block HR1d.out)).trans HR1d.out)
    go_simp
    try with_reducible rfl
  try simp only [Act.put, List.setIfInBounds_toArray, List.set_cons_zero, List.set_cons_succ]
  refine wpAnyH_take (i := 2) (oi := { dst := some 24, op := Op.load 23 (Operand.tmp 3), type := 23, pos := "dec.go:238", after := #[], guard := none }) (v := ?_) rfl (by kernel_rfl) (by kernel_rfl) (by kernel_rfl) (fun _ _ _ h => h) (Or.inl ⟨by rfl, ?_⟩) (by assumption) ?_
  rotate_left
  · intro w hSw
    try dsimp only at hSw
    obtain ⟨⟨c0, c1, c2⟩, _⟩ := row3 ((hSw.block _ (lt_of_block HR2d.out)).trans HR2d.out)
    go_simp
    try with_reducible rfl
  try simp only [Act.put, List.setIfInBounds_toArray, List.set_cons_zero, List.set_cons_succ]
  refine wpAnyH_ready (rs := [1]) (by kernel_rfl) (by simp) ?_
  refine AllReadyH.cons (o := { dst := some 23, op := Op.call { callee := Callee.value (Operand.func 34), args := #[Operand.tmp 22], argTypes := #[23] }, type := 48, pos := "dec.go:238", after := #[{ on := 0, ground := Ground.data }], guard := none }) rfl (fun K hK => ?_) AllReadyH.nil
  go_simp
  with_reducible refine (digitsOf_any wd n1 d1 e1 (by omega) (by omega) (by omega)).mono ?_
  rintro e w6 ⟨g1, j1, rfl, lg1, lh1, rg1, rh1, hb⟩
  have hT6 : (fun W : World => Below wd.heap.size wd W) w6 := hT.trans (hb.mono hT.size)
  have HQ1 := Lib.hid (And.intro rg1 rh1)
  have HBB1 := Lib.hid hb
  refine hK.out _ _ hT6 (fun _ => ?_)
  clear hK K hb rg1 rh1 lg1 lh1
  try simp only [Act.put, List.setIfInBounds_toArray, List.set_cons_zero, List.set_cons_succ]
  refine wpAnyH_ready (rs := [3]) (by kernel_rfl) (by simp) ?_
  refine AllReadyH.cons (o := { dst := some 25, op := Op.call { callee := Callee.value (Operand.func 34), args := #[Operand.tmp 24], argTypes := #[23] }, type := 48, pos := "dec.go:238", after := #[{ on := 2, ground := Ground.data }, { on := 1, ground := Ground.chain }], guard := none }) rfl (fun K hK => ?_) AllReadyH.nil
  go_simp
  with_reducible refine (digitsOf_any w6 n2 d2 e2 (by omega) (by omega) (by omega)).mono ?_
  rintro e w7 ⟨g2, j2, rfl, lg2, lh2, rg2, rh2, hb⟩
  have hT7 : (fun W : World => Below wd.heap.size wd W) w7 := hT6.trans (hb.mono hT6.size)
  have HQ2 := Lib.hid (And.intro rg2 rh2)
  have HBB2 := Lib.hid hb
  refine hK.out _ _ hT7 (fun _ => ?_)
  clear hK K hb rg2 rh2 lg2 lh2
  try simp only [Act.put, List.setIfInBounds_toArray, List.set_cons_zero, List.set_cons_succ]
  refine wpAnyH_take (i := 4) (oi := { dst := some 6, op := Op.assign (Operand.tmp 23), type := 48, pos := "dec.go:238", after := #[{ on := 1, ground := Ground.data }, { on := 3, ground := Ground.chain }, { on := 0, ground := Ground.phase }, { on := 1, ground := Ground.phase }, { on := 2, ground := Ground.textOnly Departure.lateStores }, { on := 3, ground := Ground.textOnly Departure.lateStoresUnsure }], guard := none }) (v := ?_) rfl (by kernel_rfl) (by kernel_rfl) (by kernel_rfl) (fun _ _ _ h => h) (Or.inl ⟨by rfl, ?_⟩) (by assumption) ?_
  rotate_left
  · intro w hSw
    try dsimp only at hSw
    go_simp
    try with_reducible rfl
  try simp only [Act.put, List.setIfInBounds_toArray, List.set_cons_zero, List.set_cons_succ]
  refine wpAnyH_take (i := 5) (oi := { dst := some 7, op := Op.assign (Operand.tmp 25), type := 48, pos := "dec.go:238", after := #[{ on := 3, ground := Ground.data }, { on := 4, ground := Ground.chain }, { on := 0, ground := Ground.phase }, { on := 1, ground := Ground.phase }, { on := 2, ground := Ground.phase }, { on := 3, ground := Ground.phase }, { on := 4, ground := Ground.phase }], guard := none }) (v := ?_) rfl (by kernel_rfl) (by kernel_rfl) (by kernel_rfl) (fun _ _ _ h => h) (Or.inl ⟨by rfl, ?_⟩) (by assumption) ?_
  rotate_left
  · intro w hSw
    try dsimp only at hSw
    go_simp
    try with_reducible rfl
  try simp only [Act.put, List.setIfInBounds_toArray, List.set_cons_zero, List.set_cons_succ]
  refine wpAnyH_done (by kernel_rfl) ?_ _
  have HB := Lib.hid (HBd.out.trans (hT7.mono HBd.out.size))
  have HR1 := Lib.hid ((hT7.block _ (lt_of_block HR1d.out)).trans HR1d.out)
  have HR2 := Lib.hid ((hT7.block _ (lt_of_block HR2d.out)).trans HR2d.out)
  have HR3 := Lib.hid ((hT7.block _ (lt_of_block HR3d.out)).trans HR3d.out)
  clear HBd HR1d HR2d HR3d 
  have hq1 := (HBB2.out.block _ (lt_of_block HQ1.out.1)).trans HQ1.out.1
  have hb1 : Boxed w7 j1 3 (.int .i64 ((d1.size : Int) + e1)) := (HBB2.out.block _ HQ1.out.2.lt).trans HQ1.out.2
  have HA := Lib.hid (And.intro hq1 hb1)
  clear hT hT6 hT7 HBB1 HBB2 hq1 hb1 HQ1
  have wl1 : IntKind.i64.wrap ((d1.size : Int) + (d2.size : Int)) = (m : Int) := by rw [IntKind.wrap_i64]; omega
  obtain ⟨iu, hiu, hz8, hs8, hb8⟩ : ∃ i, Tryd.prog.info? 5 = some i ∧ i.zero = some (.int .u8 0) ∧ i.size = 1 ∧ i.bytes = 1 := by
    have h := infoU8
    cases hq : Tryd.prog.info? 5 with
    | none => rw [hq] at h; cases h
    | some i =>
      rw [hq] at h
      injection h with h
      injection h with h1 h
      injection h with h2 h3
      exact ⟨i, rfl, h1, h2, h3⟩
  have HIu := Lib.hid (And.intro hiu (And.intro hz8 (And.intro hs8 hb8)))
  have hm9 : m ≤ 5000 := by omega
  clear hiu hz8 hs8 hb8
  have HMm := Lib.hid hm
  clear hm
  obtain ⟨⟨p0, p1, p2⟩, _⟩ := row3 HR1.out
  obtain ⟨⟨q0, q1, q2⟩, _⟩ := row3 HR2.out
  go_wp2_with (at_make; refine wpList_make_full w7 rfl _ _ 50 rfl w.heap.size 5 iu (.int .u8 0) 1 Tryd.underlying50 HIu.out.1 HIu.out.2.1 HIu.out.2.2.1 .i64 .i64 (m : Int) (m : Int) m rfl rfl rfl rfl (by rw [HIu.out.2.2.2]; omega) (by unfold maxLen; omega) HB.out.size ?_; intro w8 ho8 hg8)
  have bk : ∀ {k : Nat} {o : Obj}, w7.heap[k]? = some o → w8.heap[k]? = some o := fun h => (hg8.block _ (lt_of_block h) (fun e => by cases e)).trans h
  have hMI : MJ w n1 n2 d1 d2 e1 e2 g1 j1 g2 j2 w7.heap.size m (List.replicate (m - 0) 0 ++ []) w8 := ⟨⟨by rw [Nat.sub_zero, List.append_nil, ← made_zero]; exact ho8, bk HR1.out, bk HR3.out, bk HA.out.1, bk HA.out.2, bk HQ2.out.1, bk HQ2.out.2, HB.out.grown hg8 HB.out.size (fun k e => by cases e), lt_of_block HR3.out, lt_of_block HA.out.1, HA.out.2.lt, lt_of_block HQ2.out.1, HQ2.out.2.lt⟩, bk HR2.out⟩
  have HJ := Lib.hid hMI
  generalize w7.heap.size = G at HJ ⊢
  clear ho8 hg8 bk hMI HR1 HR2 HR3 HA HQ2 HB HIu p0 p1 p2 q0 q1 q2
  go_loopw [10, 36] (fun cv iv wr => ∃ i : Nat, i ≤ m ∧ cv = .int .i64 (psum c i).1 ∧ iv = .int .i64 (i : Int) ∧ Hid (MJ w n1 n2 d1 d2 e1 e2 g1 j1 g2 j2 G m (List.replicate (m - i) 0 ++ (psum c i).2) wr)) (fun _ p _ => ((m : Int) - intOf p).toNat)
  case atStart => exact ⟨0, Nat.zero_le _, rfl, rfl, HJ⟩
  case round =>
    obtain ⟨i, hi, rfl, rfl, HI⟩ := hrel
    have hm := HMm.out
    by_cases him : i < m
    · have di : decide ((i : Int) < (m : Int)) = true := decide_eq_true (by omega)
      have din : decide (i < m) = true := decide_eq_true him
      have wi1 : IntKind.i64.wrap ((i : Int) + 1) = (i : Int) + 1 := by rw [IntKind.wrap_i64]; omega
      obtain ⟨mm, hmm⟩ : ∃ mm, mm = min (i + 1) d1.size := ⟨_, rfl⟩
      have hmn : min ((i : Int) + 1) (d1.size : Int) = (mm : Int) := by omega
      have qc := psum_carry c HCr.out i
      have hci := HCr.out i
      have hst : psum c (i + 1) = (((psum c i).1 + c i) / 10, (48 + ((psum c i).1 + c i) % 10) :: (psum c i).2) := rfl
      have HSt := Lib.hid hst
      generalize (psum c i).1 = C at qc HSt ⊢
      generalize hps : (psum c i).2 = PL at HI HSt
      have HCi := Lib.hid (HCe.out i)
      rw [← hmm] at HCi
      obtain ⟨⟨p0, p1, p2⟩, _⟩ := row3 HI.out.mi.r0
      have HMM := Lib.hid hmm
      clear hst hps hmm hm
      go_wp2_with fail
      clear p0 p1 p2
      go_loopw [10, 45] (fun cv kv wx => ∃ k : Nat, k ≤ mm ∧ cv = .int .i64 (C + isum (pF (unstr d1) (unstr d2) e1 e2 i) k) ∧ kv = .int .i64 (k : Int) ∧ Hid (MJ w n1 n2 d1 d2 e1 e2 g1 j1 g2 j2 G m (List.replicate (m - i) 0 ++ PL) wx)) (fun _ p _ => ((mm : Int) - intOf p).toNat)
      case atStart => exact ⟨0, Nat.zero_le _, by show _ = Value.int .i64 (C + 0); rw [Int.add_zero], rfl, HI⟩
      case round =>
        obtain ⟨k, hk, rfl, rfl, HX⟩ := hrel
        have hmm := HMM.out
        have hm := HMm.out
        by_cases hkm : k < mm
        · have dk : decide ((k : Int) < (mm : Int)) = true := decide_eq_true (by omega)
          have dkn : decide (k < mm) = true := decide_eq_true hkm
          have qs := isum_range (pF (unstr d1) (unstr d2) e1 e2 i) (HF.out i) k
          have qF := HF.out i k
          have hs1 : isum (pF (unstr d1) (unstr d2) e1 e2 i) (k + 1) = isum (pF (unstr d1) (unstr d2) e1 e2 i) k + dat (unstr d1) e1 (e1 + (k : Int)) * dat (unstr d2) e2 (e2 + (i : Int) - (k : Int)) := rfl
          have hpf : pF (unstr d1) (unstr d2) e1 e2 i k = dat (unstr d1) e1 (e1 + (k : Int)) * dat (unstr d2) e2 (e2 + (i : Int) - (k : Int)) := rfl
          rw [hpf] at qF
          have HS1 := Lib.hid hs1
          generalize isum (pF (unstr d1) (unstr d2) e1 e2 i) k = Sk at qs HS1 ⊢
          have D1 := Lib.hid (fun (v : World) hr hb => dat_any v g1 j1 n1 d1 e1 (e1 + (k : Int)) HG1.out (by omega) (by omega) (by omega) (by omega) (by omega) hr hb)
          have D2 := Lib.hid (fun (v : World) hr hb => dat_any v g2 j2 n2 d2 e2 (e2 + (i : Int) - (k : Int)) HG2.out (by omega) (by omega) (by omega) (by omega) (by omega) hr hb)
          generalize dat (unstr d1) e1 (e1 + (k : Int)) = da at qF HS1 D1
          generalize dat (unstr d2) e2 (e2 + (i : Int) - (k : Int)) = db at qF HS1 D2
          obtain ⟨y, hy⟩ : ∃ y, da * db = y := ⟨_, rfl⟩
          have wy : IntKind.i64.wrap (da * db) = y := by rw [IntKind.wrap_i64]; omega
          rw [hy] at qF HS1
          have wk1 : IntKind.i64.wrap (e1 + (k : Int)) = e1 + (k : Int) := by rw [IntKind.wrap_i64]; omega
          have wk2 : IntKind.i64.wrap (e2 + (i : Int)) = e2 + (i : Int) := by rw [IntKind.wrap_i64]; omega
          have wk3 : IntKind.i64.wrap (e2 + (i : Int) - (k : Int)) = e2 + (i : Int) - (k : Int) := by rw [IntKind.wrap_i64]; omega
          have wk4 : IntKind.i64.wrap (C + Sk + y) = C + Sk + y := by rw [IntKind.wrap_i64]; omega
          have wk5 : IntKind.i64.wrap ((k : Int) + 1) = (k : Int) + 1 := by rw [IntKind.wrap_i64]; omega
          have HE := Lib.hid (And.intro (show C + Sk + y = C + (Sk + y) by omega) (And.intro (show (k : Int) + 1 = ((k + 1 : Nat) : Int) by omega) (show ((mm : Int) - ((k : Int) + 1)).toNat < ((mm : Int) - (k : Int)).toNat by omega)))
          clear hs1 hpf hy qs qF hci qc hmm hm HI HJ
          go_upto_region 13 with fail
          refine wp_region_held_drew (S := (fun W : World => W = wr.drew)) (by kernel_rfl) rfl (fun hHeld => ?_)
          clear hHeld
          have HXd := Lib.hid (HX.out.below (Below.refl _ _).drew)
          generalize wr.drew = wd at HXd ⊢
          have hT : (fun W : World => W = wd) wd := rfl
          refine wpAnyH_take (i := 0) (oi := { dst := some 48, op := Op.move (Operand.tmp 10), type := 3, pos := "dec.go:244", after := #[], guard := none }) (v := ?_) rfl (by kernel_rfl) (by kernel_rfl) (by kernel_rfl) (fun _ _ _ h => h) (Or.inl ⟨by rfl, ?_⟩) (by assumption) ?_
          rotate_left
          · intro w hSw
            try dsimp only at hSw
            go_simp
            try with_reducible rfl
          try simp only [Act.put, List.setIfInBounds_toArray, List.set_cons_zero, List.set_cons_succ]
          refine wpAnyH_take (i := 1) (oi := { dst := some 49, op := Op.move (Operand.tmp 6), type := 48, pos := "dec.go:244", after := #[], guard := none }) (v := ?_) rfl (by kernel_rfl) (by kernel_rfl) (by kernel_rfl) (fun _ _ _ h => h) (Or.inl ⟨by rfl, ?_⟩) (by assumption) ?_
          rotate_left
          · intro w hSw
            try dsimp only at hSw
            go_simp
            try with_reducible rfl
          try simp only [Act.put, List.setIfInBounds_toArray, List.set_cons_zero, List.set_cons_succ]
          refine wpAnyH_take (i := 2) (oi := { dst := some 50, op := Op.fieldAddr 23 (Operand.tmp 2) 2, type := 0, pos := "dec.go:244", after := #[], guard := none }) (v := ?_) rfl (by kernel_rfl) (by kernel_rfl) (by kernel_rfl) (fun _ _ _ h => h) (Or.inl ⟨by rfl, ?_⟩) (by assumption) ?_
          rotate_left
          · intro w hSw
            try dsimp only at hSw
            go_simp
            try with_reducible rfl
          try simp only [Act.put, List.setIfInBounds_toArray, List.set_cons_zero, List.set_cons_succ]
          refine wpAnyH_take (i := 3) (oi := { dst := some 51, op := Op.load 3 (Operand.tmp 50), type := 3, pos := "dec.go:244", after := #[{ on := 2, ground := Ground.data }], guard := none }) (v := ?_) rfl (by kernel_rfl) (by kernel_rfl) (by kernel_rfl) (fun _ _ _ h => h) (Or.inl ⟨by rfl, ?_⟩) (by assumption) ?_
          rotate_left
          · intro w hSw
            try dsimp only at hSw
            rw [show w = wd from hSw]
            obtain ⟨⟨c0, c1, c2⟩, _⟩ := row3 HXd.out.mi.r0
            go_simp
            try with_reducible rfl
          try simp only [Act.put, List.setIfInBounds_toArray, List.set_cons_zero, List.set_cons_succ]
          refine wpAnyH_take (i := 4) (oi := { dst := some 52, op := Op.move (Operand.tmp 12), type := 3, pos := "dec.go:244", after := #[], guard := none }) (v := ?_) rfl (by kernel_rfl) (by kernel_rfl) (by kernel_rfl) (fun _ _ _ h => h) (Or.inl ⟨by rfl, ?_⟩) (by assumption) ?_
          rotate_left
          · intro w hSw
            try dsimp only at hSw
            go_simp
            try with_reducible rfl
          try simp only [Act.put, List.setIfInBounds_toArray, List.set_cons_zero, List.set_cons_succ]
          refine wpAnyH_take (i := 5) (oi := { dst := some 53, op := Op.binOp BinOp.add 3 (Operand.tmp 51) (Operand.tmp 52) 3, type := 3, pos := "dec.go:244", after := #[{ on := 3, ground := Ground.data }, { on := 4, ground := Ground.data }], guard := none }) (v := ?_) rfl (by kernel_rfl) (by kernel_rfl) (by kernel_rfl) (fun _ _ _ h => h) (Or.inl ⟨by rfl, ?_⟩) (by assumption) ?_
          rotate_left
          · intro w hSw
            try dsimp only at hSw
            go_simp
            try with_reducible rfl
          try simp only [Act.put, List.setIfInBounds_toArray, List.set_cons_zero, List.set_cons_succ]
          refine wpAnyH_take (i := 7) (oi := { dst := some 55, op := Op.move (Operand.tmp 7), type := 48, pos := "dec.go:244", after := #[], guard := none }) (v := ?_) rfl (by kernel_rfl) (by kernel_rfl) (by kernel_rfl) (fun _ _ _ h => h) (Or.inl ⟨by rfl, ?_⟩) (by assumption) ?_
          rotate_left
          · intro w hSw
            try dsimp only at hSw
            go_simp
            try with_reducible rfl
          try simp only [Act.put, List.setIfInBounds_toArray, List.set_cons_zero, List.set_cons_succ]
          refine wpAnyH_take (i := 8) (oi := { dst := some 56, op := Op.fieldAddr 23 (Operand.tmp 3) 2, type := 0, pos := "dec.go:244", after := #[], guard := none }) (v := ?_) rfl (by kernel_rfl) (by kernel_rfl) (by kernel_rfl) (fun _ _ _ h => h) (Or.inl ⟨by rfl, ?_⟩) (by assumption) ?_
          rotate_left
          · intro w hSw
            try dsimp only at hSw
            go_simp
            try with_reducible rfl
          try simp only [Act.put, List.setIfInBounds_toArray, List.set_cons_zero, List.set_cons_succ]
          refine wpAnyH_take (i := 9) (oi := { dst := some 57, op := Op.load 3 (Operand.tmp 56), type := 3, pos := "dec.go:244", after := #[{ on := 8, ground := Ground.data }], guard := none }) (v := ?_) rfl (by kernel_rfl) (by kernel_rfl) (by kernel_rfl) (fun _ _ _ h => h) (Or.inl ⟨by rfl, ?_⟩) (by assumption) ?_
          rotate_left
          · intro w hSw
            try dsimp only at hSw
            rw [show w = wd from hSw]
            obtain ⟨⟨c0, c1, c2⟩, _⟩ := row3 HXd.out.r9
            go_simp
            try with_reducible rfl
          try simp only [Act.put, List.setIfInBounds_toArray, List.set_cons_zero, List.set_cons_succ]
          refine wpAnyH_take (i := 10) (oi := { dst := some 58, op := Op.move (Operand.tmp 11), type := 3, pos := "dec.go:244", after := #[], guard := none }) (v := ?_) rfl (by kernel_rfl) (by kernel_rfl) (by kernel_rfl) (fun _ _ _ h => h) (Or.inl ⟨by rfl, ?_⟩) (by assumption) ?_
          rotate_left
          · intro w hSw
            try dsimp only at hSw
            go_simp
            try with_reducible rfl
          try simp only [Act.put, List.setIfInBounds_toArray, List.set_cons_zero, List.set_cons_succ]
          refine wpAnyH_take (i := 11) (oi := { dst := some 59, op := Op.binOp BinOp.add 3 (Operand.tmp 57) (Operand.tmp 58) 3, type := 3, pos := "dec.go:244", after := #[{ on := 9, ground := Ground.data }, { on := 10, ground := Ground.data }], guard := none }) (v := ?_) rfl (by kernel_rfl) (by kernel_rfl) (by kernel_rfl) (fun _ _ _ h => h) (Or.inl ⟨by rfl, ?_⟩) (by assumption) ?_
          rotate_left
          · intro w hSw
            try dsimp only at hSw
            go_simp
            try with_reducible rfl
          try simp only [Act.put, List.setIfInBounds_toArray, List.set_cons_zero, List.set_cons_succ]
          refine wpAnyH_take (i := 12) (oi := { dst := some 60, op := Op.move (Operand.tmp 12), type := 3, pos := "dec.go:244", after := #[], guard := none }) (v := ?_) rfl (by kernel_rfl) (by kernel_rfl) (by kernel_rfl) (fun _ _ _ h => h) (Or.inl ⟨by rfl, ?_⟩) (by assumption) ?_
          rotate_left
          · intro w hSw
            try dsimp only at hSw
            go_simp
            try with_reducible rfl
          try simp only [Act.put, List.setIfInBounds_toArray, List.set_cons_zero, List.set_cons_succ]
          refine wpAnyH_take (i := 13) (oi := { dst := some 61, op := Op.binOp BinOp.sub 3 (Operand.tmp 59) (Operand.tmp 60) 3, type := 3, pos := "dec.go:244", after := #[{ on := 11, ground := Ground.data }, { on := 12, ground := Ground.data }], guard := none }) (v := ?_) rfl (by kernel_rfl) (by kernel_rfl) (by kernel_rfl) (fun _ _ _ h => h) (Or.inl ⟨by rfl, ?_⟩) (by assumption) ?_
          rotate_left
          · intro w hSw
            try dsimp only at hSw
            go_simp
            try with_reducible rfl
          try simp only [Act.put, List.setIfInBounds_toArray, List.set_cons_zero, List.set_cons_succ]
          refine wpAnyH_ready (rs := [6]) (by kernel_rfl) (by simp) ?_
          refine AllReadyH.cons (o := { dst := some 54, op := Op.call { callee := Callee.value (Operand.tmp 49), args := #[Operand.tmp 53], argTypes := #[3] }, type := 3, pos := "dec.go:244", after := #[{ on := 1, ground := Ground.data }, { on := 5, ground := Ground.data }], guard := none }) rfl (fun K hK => ?_) AllReadyH.nil
          go_simp
          with_reducible refine (D1.out _ HXd.out.mi.r1 HXd.out.mi.k1).mono ?_
          rintro e wz ⟨rfl, rfl⟩
          refine hK.out _ _ hT (fun _ => ?_)
          clear hK K
          try simp only [Act.put, List.setIfInBounds_toArray, List.set_cons_zero, List.set_cons_succ]
          refine wpAnyH_ready (rs := [14]) (by kernel_rfl) (by simp) ?_
          refine AllReadyH.cons (o := { dst := some 62, op := Op.call { callee := Callee.value (Operand.tmp 55), args := #[Operand.tmp 61], argTypes := #[3] }, type := 3, pos := "dec.go:244", after := #[{ on := 7, ground := Ground.data }, { on := 13, ground := Ground.data }, { on := 6, ground := Ground.chain }], guard := none }) rfl (fun K hK => ?_) AllReadyH.nil
          go_simp
          with_reducible refine (D2.out _ HXd.out.mi.r2 HXd.out.mi.k2).mono ?_
          rintro e wz ⟨rfl, rfl⟩
          refine hK.out _ _ hT (fun _ => ?_)
          clear hK K
          try simp only [Act.put, List.setIfInBounds_toArray, List.set_cons_zero, List.set_cons_succ]
          refine wpAnyH_take (i := 15) (oi := { dst := some 63, op := Op.binOp BinOp.mul 3 (Operand.tmp 54) (Operand.tmp 62) 3, type := 3, pos := "dec.go:244", after := #[{ on := 6, ground := Ground.data }, { on := 14, ground := Ground.data }], guard := none }) (v := ?_) rfl (by kernel_rfl) (by kernel_rfl) (by kernel_rfl) (fun _ _ _ h => h) (Or.inl ⟨by rfl, ?_⟩) (by assumption) ?_
          rotate_left
          · intro w hSw
            try dsimp only at hSw
            go_simp
            try with_reducible rfl
          try simp only [Act.put, List.setIfInBounds_toArray, List.set_cons_zero, List.set_cons_succ]
          refine wpAnyH_take (i := 16) (oi := { dst := some 64, op := Op.binOp BinOp.add 3 (Operand.tmp 48) (Operand.tmp 63) 3, type := 3, pos := "dec.go:244", after := #[{ on := 0, ground := Ground.data }, { on := 15, ground := Ground.data }], guard := none }) (v := ?_) rfl (by kernel_rfl) (by kernel_rfl) (by kernel_rfl) (fun _ _ _ h => h) (Or.inl ⟨by rfl, ?_⟩) (by assumption) ?_
          rotate_left
          · intro w hSw
            try dsimp only at hSw
            go_simp
            try with_reducible rfl
          try simp only [Act.put, List.setIfInBounds_toArray, List.set_cons_zero, List.set_cons_succ]
          refine wpAnyH_take (i := 17) (oi := { dst := some 10, op := Op.assign (Operand.tmp 64), type := 3, pos := "dec.go:244", after := #[{ on := 16, ground := Ground.data }, { on := 14, ground := Ground.chain }, { on := 0, ground := Ground.phase }, { on := 1, ground := Ground.phase }, { on := 2, ground := Ground.phase }, { on := 3, ground := Ground.phase }, { on := 4, ground := Ground.phase }, { on := 5, ground := Ground.phase }, { on := 6, ground := Ground.phase }, { on := 7, ground := Ground.phase }, { on := 8, ground := Ground.phase }, { on := 9, ground := Ground.phase }, { on := 10, ground := Ground.phase }, { on := 11, ground := Ground.phase }, { on := 12, ground := Ground.phase }, { on := 13, ground := Ground.phase }, { on := 14, ground := Ground.phase }, { on := 15, ground := Ground.phase }, { on := 16, ground := Ground.phase }], guard := none }) (v := ?_) rfl (by kernel_rfl) (by kernel_rfl) (by kernel_rfl) (fun _ _ _ h => h) (Or.inl ⟨by rfl, ?_⟩) (by assumption) ?_
          rotate_left
          · intro w hSw
            try dsimp only at hSw
            go_simp
            try with_reducible rfl
          try simp only [Act.put, List.setIfInBounds_toArray, List.set_cons_zero, List.set_cons_succ]
          refine wpAnyH_done (by kernel_rfl) ?_ _
          clear HX D1 D2 hT
          go_wp2_with fail
          refine ⟨⟨k + 1, by omega, ?_, ?_, HXd⟩, ?_⟩
          · rw [HS1.out, HE.out.1]
          · rw [HE.out.2.1]
          · exact HE.out.2.2
        · have dk : decide ((k : Int) < (mm : Int)) = false := decide_eq_false (by omega)
          have dkn : decide (k < mm) = false := decide_eq_false hkm
          obtain rfl : k = mm := by omega
          rw [← HCi.out]
          obtain ⟨qq, rr, hq, hr, hqr, hrr⟩ : ∃ qq rr : Int, (C + c i) / 10 = qq ∧ (C + c i) % 10 = rr ∧ (0 ≤ qq ∧ qq ≤ 400) ∧ 0 ≤ rr ∧ rr ≤ 9 := ⟨_, _, rfl, rfl, by omega, by omega⟩
          rw [hq, hr] at HSt
          have v4 : Int.tdiv (C + c i) 10 = qq := by rw [Int.tdiv_eq_ediv_of_nonneg (by omega)]; exact hq
          have v5 : Int.tmod (C + c i) 10 = rr := by rw [Int.tmod_eq_emod_of_nonneg (by omega)]; exact hr
          have v4w : IntKind.i64.wrap qq = qq := by rw [IntKind.wrap_i64]; omega
          have v5w : IntKind.i64.wrap rr = rr := by rw [IntKind.wrap_i64]; omega
          have v7 : IntKind.i64.wrap (48 + rr) = 48 + rr := by rw [IntKind.wrap_i64]; omega
          have v8 : IntKind.u8.wrap (48 + rr) = 48 + rr := by rw [IntKind.wrap_u8]; omega
          have v9 : IntKind.i64.wrap ((m : Int) - 1) = (m : Int) - 1 := by rw [IntKind.wrap_i64]; omega
          have va : IntKind.i64.wrap ((m : Int) - 1 - (i : Int)) = ((m - 1 - i : Nat) : Int) := by rw [IntKind.wrap_i64]; omega
          have hrd := owned_rd HX.out.mi.own
          have c0 := hrd.cell (m - 1 - i) (by omega)
          rw [Nat.zero_add] at c0
          have f0 := own_spot HX.out.mi.own (m - 1 - i)
          have l1 : ((m - 1 - i : Nat) : Int) < (m : Int) := by omega
          have l2 : m - 1 - i < m := by omega
          have HI2 := Lib.hid (HX.out.put (m - 1 - i) (48 + rr))
          have HE := Lib.hid (And.intro (show (i : Int) + 1 = ((i + 1 : Nat) : Int) by omega) (show ((m : Int) - ((i : Int) + 1)).toNat < ((m : Int) - (i : Int)).toNat by omega))
          clear hq hr hrd hm hmm HI HJ HX qc hci
          go_wp2_with fail
          refine ⟨⟨i + 1, by omega, ?_, ?_, ?_⟩, ?_⟩
          · rw [HSt.out]
          · rw [HE.out.1]
          · have := HI2.out
            rw [row_step m i _ _ him] at this
            rw [HSt.out]
            exact this
          · exact HE.out.2
    · have di : decide ((i : Int) < (m : Int)) = false := decide_eq_false (by omega)
      have din : decide (i < m) = false := decide_eq_false him
      obtain rfl : i = m := by omega
      have hrd := owned_rd HI.out.mi.own
      rw [Nat.sub_self] at hrd
      have hcv := conv_rd (c := i) hrd
      rw [show List.replicate 0 (0 : Int) ++ (psum c i).2 = (psum c i).2 from rfl, HO.out] at hcv
      obtain ⟨⟨p0, p1, p2⟩, _⟩ := row3 HI.out.mi.r0
      obtain ⟨⟨q0, q1, q2⟩, _⟩ := row3 HI.out.r9
      have we : IntKind.i64.wrap (e1 + e2) = e1 + e2 := by rw [IntKind.wrap_i64]; omega
      have HV0 := Lib.hid HI.out.mi.rz
      have HX0 := Lib.hid HI.out.mi.below
      clear hrd hm HI HJ
      go_wp2_with fail
      with_reducible refine (HM.out _).mono ?_
      rintro e w7 ⟨rfl, hb7⟩
      go_wp2_with fail
      with_reducible refine (HC.out _).mono ?_
      rintro e w8 ⟨rfl, hb8⟩
      have k7 := (hb7.block _ (lt_of_block HV0.out)).trans HV0.out
      have HV := Lib.hid ((hb8.block _ (lt_of_block k7)).trans k7)
      have HX := Lib.hid ((HX0.out.trans (hb7.mono HX0.out.size)).trans (hb8.mono (Nat.le_trans HX0.out.size hb7.size)))
      clear k7 hb7 hb8 HM HC
      unfold told
      cases okk with
      | true =>
        obtain ⟨⟨z0, z1, z2⟩, f0, f1, f2⟩ := row3 HV.out
        have hS := set3 (v0 := .bool en) (v1 := .string ed) (v2 := .int .i64 ee) HV.out (by omega) HX.out
        have HS := Lib.hid hS
        clear hS HV HX
        go_wp2_with fail
        refine bodyPost_ret (results_row_tmp rfl _ _ (w.heap.size + 1 + 1) _ _ _ _ rfl HS.out.1 Tryd.underlying23 rfl (by kernel_rfl)) rfl ⟨rfl, HS.out.2⟩
      | false =>
        obtain ⟨⟨z0, z1, z2⟩, f0, f1, f2⟩ := row3 HV.out
        have hS := set3 (v0 := (.bool false)) (v1 := (.string ⟨#[]⟩)) (v2 := (.int .i64 0)) HV.out (by omega) HX.out
        have HS := Lib.hid hS
        clear hS HV HX
        go_wp2_with fail
        refine bodyPost_ret (results_row_tmp rfl _ _ (w.heap.size + 1 + 1) _ _ _ _ rfl HS.out.1 Tryd.underlying23 rfl (by kernel_rfl)) rfl ⟨rfl, HS.out.2⟩
theorem Mul_any (w : World) (a b : Nm) (s1 : a.dg.size ≤ 1000000) (s2 : b.dg.size ≤ 1000000) :
    Calls Tryd.prog 13 #[a.v, b.v] w fun e w' => e = .returned (mulV a b) ∧ Below w.heap.size w w' := by
  obtain ⟨n1, d1, e1⟩ := a
  obtain ⟨n2, d2, e2⟩ := b
  unfold mulV mulN
  show Calls _ _ #[.agg #[.bool n1, .string d1, .int .i64 e1], .agg #[.bool n2, .string d2, .int .i64 e2]] _ _
  by_cases h1 : dsane n1 (unstr d1) e1 = true
  · by_cases h2 : dsane n2 (unstr d2) e2 = true
    · rw [if_pos ⟨h1, h2⟩]
      exact Mul_ok w n1 n2 d1 d2 e1 e2 s1 s2 h1 h2 (dsane_digs h1) (dsane_digs h2)
    · rw [if_neg fun h => h2 h.2]
      exact Mul_bad2 w n1 n2 d1 d2 e1 e2 s1 s2 h1 (by simpa using h2)
  · rw [if_neg fun h => h1 h.1]
    exact Mul_bad1 w n1 n2 d1 d2 e1 e2 s1 s2 (by simpa using h1)
end Go.Proofs.YtpnhgggdjlglnaaDoor.dk
