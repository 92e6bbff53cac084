/- The document's Add. -/
import Derived.Test.YtpnhgggdjlglnaaDoorRc
import Derived.Test.YtpnhgggdjlglnaaDoorC1
import Derived.Deep.DeepCutAuto
import Derived.Deep.CutBlock
namespace Go.Proofs.YtpnhgggdjlglnaaDoor.dk
open Go.PlainAid Go.ChangeShapes Go.WideShapes Go.ChangeAt Go.RowKit

/-- All that lay there lies there, but for one block. -/
structure Ex (B g : Nat) (W0 W1 W2 : World) : Prop where
  old : ∀ k, k < W1.heap.size → k ≠ g → W2.heap[k]? = W1.heap[k]?
  grow : W1.heap.size ≤ W2.heap.size
  below : Below B W0 W2
theorem Ex.start {B g : Nat} {W0 W1 : World} (h : Below B W0 W1) : Ex B g W0 W1 W1 := ⟨fun _ _ _ => rfl, Nat.le_refl _, h⟩
theorem Ex.call {g : Nat} {W0 W1 W2 W3 : World} (h : Ex W0.heap.size g W0 W1 W2) (hb : Below W2.heap.size W2 W3) : Ex W0.heap.size g W0 W1 W3 :=
  ⟨fun k hk hn => (hb.block k (Nat.lt_of_lt_of_le hk h.grow)).trans (h.old k hk hn), Nat.le_trans h.grow hb.size, h.below.trans (hb.mono h.below.size)⟩
theorem Ex.put {B g : Nat} {W0 W1 W2 : World} {t : TypeId} {a0 a1 a2 : Value} (h : Ex B g W0 W1 W2) (hr : W2.heap[g]? = some (.cells #[a0, a1, a2] t (0, 0))) (hB : B ≤ g) (v0 v1 v2 : Value) :
    Ex B g W0 W1 (((W2.setCell ⟨g, 0, none⟩ v0).setCell ⟨g, 1, none⟩ v1).setCell ⟨g, 2, none⟩ v2) ∧ (((W2.setCell ⟨g, 0, none⟩ v0).setCell ⟨g, 1, none⟩ v1).setCell ⟨g, 2, none⟩ v2).heap[g]? = some (.cells #[v0, v1, v2] t (0, 0)) := by
  obtain ⟨k1, k2⟩ := set3 (v0 := v0) (v1 := v1) (v2 := v2) hr hB h.below
  refine ⟨⟨fun k hk hn => (Below.heap_setCell _ _ _ _ (show k ≠ g from hn)).trans ((Below.heap_setCell _ _ _ _ (show k ≠ g from hn)).trans ((Below.heap_setCell _ _ _ _ (show k ≠ g from hn)).trans (h.old k hk hn))), ?_, k2⟩, k1⟩
  have hg := (set3 (v0 := v0) (v1 := v1) (v2 := v2) hr (Nat.le_refl g) (Below.refl g W2)).2.size
  have hsz : ∀ (W : World) (a : Addr) (v : Value), (W.setCell a v).heap.size = W.heap.size := fun W a v => World.size_setCell W a v
  rw [hsz, hsz, hsz]
  exact h.grow
set_option maxRecDepth 100000 in
set_option maxHeartbeats 4000000 in
theorem addr_bad1 (w : World) (n1 n2 : Bool) (d1 d2 : ByteArray) (e1 e2 : Int) (s1 : d1.size ≤ 1000000) (s2 : d2.size ≤ 1000000) (h1 : dsane n1 (unstr d1) e1 = false) :
    Calls Tryd.prog 12 #[.agg #[.bool n1, .string d1, .int .i64 e1], .agg #[.bool n2, .string d2, .int .i64 e2]] w fun e w' => e = .returned (.tuple #[.agg #[.bool false, .string ⟨#[]⟩, .int .i64 0], .int .i64 1]) ∧ Below w.heap.size w w' := by
  obtain ⟨wa, hwa, r1, r2, r3, hB⟩ := three_rows_at w n1 n2 d1 d2 e1 e2
  have HS1 := Lib.hid (fun v => sane_ref v n1 d1 e1 (by omega))
  have HS2 := Lib.hid (fun v => sane_ref v n2 d2 e2 (by omega))
  have HW := Lib.hid hwa
  have HR1 := Lib.hid r1
  have HR2 := Lib.hid r2
  have HR3 := Lib.hid r3
  have HB := Lib.hid hB
  obtain ⟨⟨x0, x1, x2⟩, _⟩ := row3 r1
  clear hwa r1 r2 r3 hB
  rw [h1] at HS1
  clear h1
  go_enter Tryd.func12, Tryd.ntmps12
  go_upto_region 1 with fail
  rw [← HW.out]
  clear HW
  go_wp2_with fail
  with_reducible refine (HS1.out _).mono ?_
  rintro e w2 ⟨rfl, hb2⟩
  have HT1 := Lib.hid ((hb2.block _ (lt_of_block HR1.out)).trans HR1.out)
  have HT2 := Lib.hid ((hb2.block _ (lt_of_block HR2.out)).trans HR2.out)
  have HT3 := Lib.hid ((hb2.block _ (lt_of_block HR3.out)).trans HR3.out)
  have HK := Lib.hid (HB.out.trans (hb2.mono HB.out.size))
  clear x0 x1 x2 hb2 HR1 HR2 HR3 HB
  obtain ⟨⟨z0, z1, z2⟩, f0, f1, f2⟩ := row3 HT3.out
  have hS := set3 (v0 := (.bool false)) (v1 := (.string ⟨#[]⟩)) (v2 := (.int .i64 0)) HT3.out (by omega) HK.out
  have HS := Lib.hid hS
  clear hS HT3 HK
  go_wp2_with fail
  refine bodyPost_ret (results_row_tmp rfl _ _ (w.heap.size + 1 + 1) _ _ _ _ rfl HS.out.1 Tryd.underlying23 rfl (by kernel_rfl)) rfl ⟨rfl, HS.out.2⟩
set_option maxRecDepth 100000 in
set_option maxHeartbeats 4000000 in
theorem addr_bad2 (w : World) (n1 n2 : Bool) (d1 d2 : ByteArray) (e1 e2 : Int) (s1 : d1.size ≤ 1000000) (s2 : d2.size ≤ 1000000) (h1 : dsane n1 (unstr d1) e1 = true) (h2 : dsane n2 (unstr d2) e2 = false) :
    Calls Tryd.prog 12 #[.agg #[.bool n1, .string d1, .int .i64 e1], .agg #[.bool n2, .string d2, .int .i64 e2]] w fun e w' => e = .returned (.tuple #[.agg #[.bool false, .string ⟨#[]⟩, .int .i64 0], .int .i64 1]) ∧ Below w.heap.size w w' := by
  obtain ⟨wa, hwa, r1, r2, r3, hB⟩ := three_rows_at w n1 n2 d1 d2 e1 e2
  have HS1 := Lib.hid (fun v => sane_ref v n1 d1 e1 (by omega))
  have HS2 := Lib.hid (fun v => sane_ref v n2 d2 e2 (by omega))
  have HW := Lib.hid hwa
  have HR1 := Lib.hid r1
  have HR2 := Lib.hid r2
  have HR3 := Lib.hid r3
  have HB := Lib.hid hB
  obtain ⟨⟨x0, x1, x2⟩, _⟩ := row3 r1
  clear hwa r1 r2 r3 hB
  rw [h1] at HS1
  rw [h2] at HS2
  clear h1 h2
  go_enter Tryd.func12, Tryd.ntmps12
  go_upto_region 1 with fail
  rw [← HW.out]
  clear HW
  go_wp2_with fail
  with_reducible refine (HS1.out _).mono ?_
  rintro e w2 ⟨rfl, hb2⟩
  have HT1 := Lib.hid ((hb2.block _ (lt_of_block HR1.out)).trans HR1.out)
  have HT2 := Lib.hid ((hb2.block _ (lt_of_block HR2.out)).trans HR2.out)
  have HT3 := Lib.hid ((hb2.block _ (lt_of_block HR3.out)).trans HR3.out)
  have HK := Lib.hid (HB.out.trans (hb2.mono HB.out.size))
  clear x0 x1 x2 hb2 HR1 HR2 HR3 HB
  obtain ⟨⟨y0, y1, y2⟩, _⟩ := row3 HT2.out
  go_wp2_with fail
  with_reducible refine (HS2.out _).mono ?_
  rintro e w3 ⟨rfl, hb3⟩
  have HR1 := Lib.hid ((hb3.block _ (lt_of_block HT1.out)).trans HT1.out)
  have HR2 := Lib.hid ((hb3.block _ (lt_of_block HT2.out)).trans HT2.out)
  have HR3 := Lib.hid ((hb3.block _ (lt_of_block HT3.out)).trans HT3.out)
  have HB := Lib.hid (HK.out.trans (hb3.mono HK.out.size))
  clear y0 y1 y2 hb3 HT1 HT2 HT3 HK HS1 HS2
  obtain ⟨⟨z0, z1, z2⟩, f0, f1, f2⟩ := row3 HR3.out
  have hS := set3 (v0 := (.bool false)) (v1 := (.string ⟨#[]⟩)) (v2 := (.int .i64 0)) HR3.out (by omega) HB.out
  have HS := Lib.hid hS
  clear hS HR3 HB
  go_wp2_with fail
  refine bodyPost_ret (results_row_tmp rfl _ _ (w.heap.size + 1 + 1) _ _ _ _ rfl HS.out.1 Tryd.underlying23 rfl (by kernel_rfl)) rfl ⟨rfl, HS.out.2⟩
set_option maxRecDepth 100000 in
set_option maxHeartbeats 4000000 in
theorem addr_zero1 (w : World) (n1 n2 : Bool) (d1 d2 : ByteArray) (e1 e2 : Int) (s1 : d1.size ≤ 1000000) (s2 : d2.size ≤ 1000000) (h1 : dsane n1 (unstr d1) e1 = true) (h2 : dsane n2 (unstr d2) e2 = true) (hz : d1.size = 0) :
    Calls Tryd.prog 12 #[.agg #[.bool n1, .string d1, .int .i64 e1], .agg #[.bool n2, .string d2, .int .i64 e2]] w fun e w' => e = .returned (.tuple #[.agg #[.bool n2, .string d2, .int .i64 e2], .int .i64 0]) ∧ Below w.heap.size w w' := by
  obtain rfl := ba_nil hz
  obtain ⟨wa, hwa, r1, r2, r3, hB⟩ := three_rows_at w n1 n2 ⟨#[]⟩ d2 e1 e2
  have HS1 := Lib.hid (fun v => sane_ref v n1 ⟨#[]⟩ e1 (by omega))
  have HS2 := Lib.hid (fun v => sane_ref v n2 d2 e2 (by omega))
  have HW := Lib.hid hwa
  have HR1 := Lib.hid r1
  have HR2 := Lib.hid r2
  have HR3 := Lib.hid r3
  have HB := Lib.hid hB
  obtain ⟨⟨x0, x1, x2⟩, _⟩ := row3 r1
  clear hwa r1 r2 r3 hB
  rw [h1] at HS1
  rw [h2] at HS2
  clear h1 h2 hz
  go_enter Tryd.func12, Tryd.ntmps12
  go_upto_region 1 with fail
  rw [← HW.out]
  clear HW
  go_wp2_with fail
  with_reducible refine (HS1.out _).mono ?_
  rintro e w2 ⟨rfl, hb2⟩
  have HT1 := Lib.hid ((hb2.block _ (lt_of_block HR1.out)).trans HR1.out)
  have HT2 := Lib.hid ((hb2.block _ (lt_of_block HR2.out)).trans HR2.out)
  have HT3 := Lib.hid ((hb2.block _ (lt_of_block HR3.out)).trans HR3.out)
  have HK := Lib.hid (HB.out.trans (hb2.mono HB.out.size))
  clear x0 x1 x2 hb2 HR1 HR2 HR3 HB
  obtain ⟨⟨y0, y1, y2⟩, _⟩ := row3 HT2.out
  go_wp2_with fail
  with_reducible refine (HS2.out _).mono ?_
  rintro e w3 ⟨rfl, hb3⟩
  have HR1 := Lib.hid ((hb3.block _ (lt_of_block HT1.out)).trans HT1.out)
  have HR2 := Lib.hid ((hb3.block _ (lt_of_block HT2.out)).trans HT2.out)
  have HR3 := Lib.hid ((hb3.block _ (lt_of_block HT3.out)).trans HT3.out)
  have HB := Lib.hid (HK.out.trans (hb3.mono HK.out.size))
  clear y0 y1 y2 hb3 HT1 HT2 HT3 HK HS1 HS2
  obtain ⟨⟨p0, p1, p2⟩, _⟩ := row3 HR1.out
  obtain ⟨⟨q0, q1, q2⟩, _⟩ := row3 HR2.out
  obtain ⟨⟨z0, z1, z2⟩, f0, f1, f2⟩ := row3 HR3.out
  have hS := set3 (v0 := .bool n2) (v1 := .string d2) (v2 := .int .i64 e2) HR3.out (by omega) HB.out
  have HS := Lib.hid hS
  clear hS HR3 HB
  go_wp2_with fail
  refine bodyPost_ret (results_row_tmp rfl _ _ (w.heap.size + 1 + 1) _ _ _ _ rfl HS.out.1 Tryd.underlying23 rfl (by kernel_rfl)) rfl ⟨rfl, HS.out.2⟩
set_option maxRecDepth 100000 in
set_option maxHeartbeats 4000000 in
theorem addr_zero2 (w : World) (n1 n2 : Bool) (d1 d2 : ByteArray) (e1 e2 : Int) (s1 : d1.size ≤ 1000000) (s2 : d2.size ≤ 1000000) (h1 : dsane n1 (unstr d1) e1 = true) (h2 : dsane n2 (unstr d2) e2 = true) (hz1 : ¬ d1.size = 0) (hz : d2.size = 0) :
    Calls Tryd.prog 12 #[.agg #[.bool n1, .string d1, .int .i64 e1], .agg #[.bool n2, .string d2, .int .i64 e2]] w fun e w' => e = .returned (.tuple #[.agg #[.bool n1, .string d1, .int .i64 e1], .int .i64 0]) ∧ Below w.heap.size w w' := by
  obtain rfl := ba_nil hz
  have dz : (((d1.size : Nat) : Int) == 0) = false := beq_eq_false_iff_ne.2 (by omega)
  obtain ⟨wa, hwa, r1, r2, r3, hB⟩ := three_rows_at w n1 n2 d1 ⟨#[]⟩ e1 e2
  have HS1 := Lib.hid (fun v => sane_ref v n1 d1 e1 (by omega))
  have HS2 := Lib.hid (fun v => sane_ref v n2 ⟨#[]⟩ e2 (by omega))
  have HW := Lib.hid hwa
  have HR1 := Lib.hid r1
  have HR2 := Lib.hid r2
  have HR3 := Lib.hid r3
  have HB := Lib.hid hB
  obtain ⟨⟨x0, x1, x2⟩, _⟩ := row3 r1
  clear hwa r1 r2 r3 hB
  rw [h1] at HS1
  rw [h2] at HS2
  clear h1 h2 hz hz1
  go_enter Tryd.func12, Tryd.ntmps12
  go_upto_region 1 with fail
  rw [← HW.out]
  clear HW
  go_wp2_with fail
  with_reducible refine (HS1.out _).mono ?_
  rintro e w2 ⟨rfl, hb2⟩
  have HT1 := Lib.hid ((hb2.block _ (lt_of_block HR1.out)).trans HR1.out)
  have HT2 := Lib.hid ((hb2.block _ (lt_of_block HR2.out)).trans HR2.out)
  have HT3 := Lib.hid ((hb2.block _ (lt_of_block HR3.out)).trans HR3.out)
  have HK := Lib.hid (HB.out.trans (hb2.mono HB.out.size))
  clear x0 x1 x2 hb2 HR1 HR2 HR3 HB
  obtain ⟨⟨y0, y1, y2⟩, _⟩ := row3 HT2.out
  go_wp2_with fail
  with_reducible refine (HS2.out _).mono ?_
  rintro e w3 ⟨rfl, hb3⟩
  have HR1 := Lib.hid ((hb3.block _ (lt_of_block HT1.out)).trans HT1.out)
  have HR2 := Lib.hid ((hb3.block _ (lt_of_block HT2.out)).trans HT2.out)
  have HR3 := Lib.hid ((hb3.block _ (lt_of_block HT3.out)).trans HT3.out)
  have HB := Lib.hid (HK.out.trans (hb3.mono HK.out.size))
  clear y0 y1 y2 hb3 HT1 HT2 HT3 HK HS1 HS2
  obtain ⟨⟨p0, p1, p2⟩, _⟩ := row3 HR1.out
  obtain ⟨⟨q0, q1, q2⟩, _⟩ := row3 HR2.out
  obtain ⟨⟨z0, z1, z2⟩, f0, f1, f2⟩ := row3 HR3.out
  have hS := set3 (v0 := .bool n1) (v1 := .string d1) (v2 := .int .i64 e1) HR3.out (by omega) HB.out
  have HS := Lib.hid hS
  clear hS HR3 HB
  go_wp2_with fail
  refine bodyPost_ret (results_row_tmp rfl _ _ (w.heap.size + 1 + 1) _ _ _ _ rfl HS.out.1 Tryd.underlying23 rfl (by kernel_rfl)) rfl ⟨rfl, HS.out.2⟩
set_option maxRecDepth 100000 in
set_option maxHeartbeats 4000000 in
theorem addr_same (w : World) (n1 n2 : Bool) (d1 d2 : ByteArray) (e1 e2 : Int) (s1 : d1.size ≤ 1000000) (s2 : d2.size ≤ 1000000) (h1 : dsane n1 (unstr d1) e1 = true) (h2 : dsane n2 (unstr d2) e2 = true) (hz1 : ¬ d1.size = 0) (hz2 : ¬ d2.size = 0) (hn : n1 = n2) :
    Calls Tryd.prog 12 #[.agg #[.bool n1, .string d1, .int .i64 e1], .agg #[.bool n2, .string d2, .int .i64 e2]] w fun e w' => e = .returned (pairV (sumN ⟨n1, d1, e1⟩ ⟨n2, d2, e2⟩).told) ∧ Below w.heap.size w w' := by
  subst hn
  obtain ⟨k11, k12, k13, u1⟩ := dsane_bounds h1 hz1
  obtain ⟨k21, k22, k23, u2⟩ := dsane_bounds h2 hz2
  obtain ⟨ex, hex⟩ : ∃ ex, ex = min e1 e2 := ⟨_, rfl⟩
  have oa : (⟨n1, d1, e1⟩ : Nm).ok = true := h1
  have ob : (⟨n1, d2, e2⟩ : Nm).ok = true := h2
  have da := eqlW_digs (a := ⟨n1, d1, e1⟩) (b := ⟨n1, d2, e2⟩) u1
  have db := eqlW_digs (a := ⟨n1, d2, e2⟩) (b := ⟨n1, d1, e1⟩) u2
  have sza := eqlW_size ⟨n1, d1, e1⟩ ⟨n1, d2, e2⟩
  have szb := eqlW_size ⟨n1, d2, e2⟩ ⟨n1, d1, e1⟩
  rw [eqlN_comm] at szb
  have XA : eqlB ⟨n1, d1, e1⟩ ⟨n1, d2, e2⟩ = d1 ++ zers (e1 - ex).toNat := by rw [hex]; rfl
  have XB : eqlB ⟨n1, d2, e2⟩ ⟨n1, d1, e1⟩ = d2 ++ zers (e2 - ex).toNat := by
    rw [hex, show min e1 e2 = min e2 e1 by omega]
    rfl
  have cA : ¬ 9223372036854775807 < d1.size + (zers (e1 - ex).toNat).size := by rw [zers_size]; omega
  have cB : ¬ 9223372036854775807 < d2.size + (zers (e2 - ex).toNat).size := by rw [zers_size]; omega
  have eN : eqlN ⟨n1, d1, e1⟩ ⟨n1, d2, e2⟩ = max (d1 ++ zers (e1 - ex).toNat).size (d2 ++ zers (e2 - ex).toNat).size := by unfold eqlN; rw [XA, XB]
  have lA : (d1 ++ zers (e1 - ex).toNat).size ≤ 1000 := by rw [ByteArray.size_append, zers_size]; omega
  have lB : (d2 ++ zers (e2 - ex).toNat).size ≤ 1000 := by rw [ByteArray.size_append, zers_size]; omega
  have hN1 : eqlN ⟨n1, d1, e1⟩ ⟨n1, d2, e2⟩ ≤ 1000 := by rw [eN]; omega
  have HWA := Lib.hid (fun v => wide_ref v (d1 ++ zers (e1 - ex).toNat) (eqlN ⟨n1, d1, e1⟩ ⟨n1, d2, e2⟩) (by omega) (by omega))
  have HWB := Lib.hid (fun v => wide_ref v (d2 ++ zers (e2 - ex).toNat) (eqlN ⟨n1, d1, e1⟩ ⟨n1, d2, e2⟩) (by omega) (by omega))
  rw [show wideB (d1 ++ zers (e1 - ex).toNat) (eqlN ⟨n1, d1, e1⟩ ⟨n1, d2, e2⟩) = eqlW ⟨n1, d1, e1⟩ ⟨n1, d2, e2⟩ by rw [← XA]; rfl] at HWA
  rw [show wideB (d2 ++ zers (e2 - ex).toNat) (eqlN ⟨n1, d1, e1⟩ ⟨n1, d2, e2⟩) = eqlW ⟨n1, d2, e2⟩ ⟨n1, d1, e1⟩ by rw [← XB, eqlN_comm]; rfl] at HWB
  have HZA := Lib.hid (fun v => zeros_ref v (e1 - ex) (by omega) (by omega))
  have HZB := Lib.hid (fun v => zeros_ref v (e2 - ex) (by omega) (by omega))
  have wA : IntKind.i64.wrap (e1 - ex) = e1 - ex := by rw [IntKind.wrap_i64]; omega
  have wB : IntKind.i64.wrap (e2 - ex) = e2 - ex := by rw [IntKind.wrap_i64]; omega
  have hmin : min e1 e2 = ex := hex.symm
  have hmax : max ((d1.size : Int) + ((zers (e1 - ex).toNat).size : Int)) ((d2.size : Int) + ((zers (e2 - ex).toNat).size : Int)) = ((eqlN ⟨n1, d1, e1⟩ ⟨n1, d2, e2⟩ : Nat) : Int) := by rw [eN, ByteArray.size_append, ByteArray.size_append]; omega
  have hv := ref_same oa ob rfl
  have dP := plus_digs da db (szb.trans sza.symm)
  have HP := Lib.hid (fun v => plus_ref v (eqlW ⟨n1, d1, e1⟩ ⟨n1, d2, e2⟩) (eqlW ⟨n1, d2, e2⟩ ⟨n1, d1, e1⟩) da db (szb.trans sza.symm) (by omega))
  have sP := plus_size (a := eqlW ⟨n1, d1, e1⟩ ⟨n1, d2, e2⟩) (b := eqlW ⟨n1, d2, e2⟩ ⟨n1, d1, e1⟩)
  generalize plusB (eqlW ⟨n1, d1, e1⟩ ⟨n1, d2, e2⟩) (eqlW ⟨n1, d2, e2⟩ ⟨n1, d1, e1⟩) = PB at hv HP sP
  have HF := Lib.hid (fun v => form_ref v n1 PB ex (by omega) (by omega) (by omega))
  rw [fmd_eq] at HF
  have hv2 : (⟨fneg n1 PB, fdig PB, fexp PB ex⟩ : Nm) = sumN ⟨n1, d1, e1⟩ ⟨n1, d2, e2⟩ := by
    rw [← hv]
    show fmN n1 PB ex = fmN n1 PB _
    rw [hex]
  generalize fneg n1 PB = en at HF hv2
  generalize hed : fdig PB = ed at HF hv2
  generalize fexp PB ex = ee at HF hv2
  have sE : ed.size ≤ 1000000 := by rw [← hed]; have := fdig_size PB; omega
  have HTd := Lib.hid (fun v => told_ref v en ed ee (by omega))
  rw [hv2] at HTd
  obtain ⟨⟨⟨tn, td, te⟩, tc⟩, htp⟩ : ∃ p, (sumN ⟨n1, d1, e1⟩ ⟨n1, d2, e2⟩).told = p := ⟨_, rfl⟩
  rw [htp] at HTd ⊢
  have dz1 : (((d1.size : Nat) : Int) == 0) = false := beq_eq_false_iff_ne.2 (by omega)
  have dz2 : (((d2.size : Nat) : Int) == 0) = false := beq_eq_false_iff_ne.2 (by omega)
  generalize eqlW ⟨n1, d1, e1⟩ ⟨n1, d2, e2⟩ = WA at *
  generalize eqlW ⟨n1, d2, e2⟩ ⟨n1, d1, e1⟩ = WB at *
  generalize eqlN ⟨n1, d1, e1⟩ ⟨n1, d2, e2⟩ = NN at *
  generalize zers (e1 - ex).toNat = ZA at *
  generalize zers (e2 - ex).toNat = ZB at *
  have dn : (n1 == n1) = true := by cases n1 <;> rfl
  unfold pairV
  obtain ⟨wa, hwa, r1, r2, r3, hB⟩ := three_rows_at w n1 n1 d1 d2 e1 e2
  have HS1 := Lib.hid (fun v => sane_ref v n1 d1 e1 (by omega))
  have HS2 := Lib.hid (fun v => sane_ref v n1 d2 e2 (by omega))
  have HW := Lib.hid hwa
  have HR1 := Lib.hid r1
  have HR2 := Lib.hid r2
  have HR3 := Lib.hid r3
  have HB := Lib.hid hB
  obtain ⟨⟨x0, x1, x2⟩, _⟩ := row3 r1
  clear hwa r1 r2 r3 hB
  rw [h1] at HS1
  rw [h2] at HS2
  clear h1 h2 hz1 hz2 u1 u2 k11 k12 k13 k21 k22 k23 hex oa ob da db sza szb XA XB eN lA lB hN1 hv dP sP hv2 hed sE htp
  go_enter Tryd.func12, Tryd.ntmps12
  go_upto_region 1 with fail
  rw [← HW.out]
  clear HW
  go_wp2_with fail
  with_reducible refine (HS1.out _).mono ?_
  rintro e w2 ⟨rfl, hb2⟩
  have HT1 := Lib.hid ((hb2.block _ (lt_of_block HR1.out)).trans HR1.out)
  have HT2 := Lib.hid ((hb2.block _ (lt_of_block HR2.out)).trans HR2.out)
  have HT3 := Lib.hid ((hb2.block _ (lt_of_block HR3.out)).trans HR3.out)
  have HK := Lib.hid (HB.out.trans (hb2.mono HB.out.size))
  clear x0 x1 x2 hb2 HR1 HR2 HR3 HB
  obtain ⟨⟨y0, y1, y2⟩, _⟩ := row3 HT2.out
  go_wp2_with fail
  with_reducible refine (HS2.out _).mono ?_
  rintro e w3 ⟨rfl, hb3⟩
  have HR1 := Lib.hid ((hb3.block _ (lt_of_block HT1.out)).trans HT1.out)
  have HR2 := Lib.hid ((hb3.block _ (lt_of_block HT2.out)).trans HT2.out)
  have HR3 := Lib.hid ((hb3.block _ (lt_of_block HT3.out)).trans HT3.out)
  have HB := Lib.hid (HK.out.trans (hb3.mono HK.out.size))
  clear y0 y1 y2 hb3 HT1 HT2 HT3 HK HS1 HS2
  obtain ⟨⟨p0, p1, p2⟩, _⟩ := row3 HR1.out
  obtain ⟨⟨q0, q1, q2⟩, _⟩ := row3 HR2.out
  go_upto_region 8 with fail
  clear p0 p1 p2 q0 q1 q2
  refine wp_region_held_drew (S := (fun W : World => W = w3.drew)) (by kernel_rfl) rfl (fun hHeld => ?_)
  clear hHeld
  have hbd : Below w3.heap.size w3 w3.drew := (Below.refl _ _).drew
  have HBa := Lib.hid (HB.out.trans (hbd.mono HB.out.size))
  have HR1a := Lib.hid ((hbd.block _ (lt_of_block HR1.out)).trans HR1.out)
  have HR2a := Lib.hid ((hbd.block _ (lt_of_block HR2.out)).trans HR2.out)
  have HR3a := Lib.hid ((hbd.block _ (lt_of_block HR3.out)).trans HR3.out)
  clear hbd HB HR1 HR2 HR3
  generalize w3.drew = wda at HBa HR1a HR2a HR3a ⊢
  have hT : (fun W : World => W = wda) wda := rfl
  refine wpAnyH_take (i := 0) (oi := { dst := some 34, op := Op.fieldAddr 23 (Operand.tmp 2) 1, type := 0, pos := "ref.go:250", after := #[], guard := none }) (v := ?_) rfl (by kernel_rfl) (by kernel_rfl) (by kernel_rfl) (fun _ _ _ h => h) (Or.inl ⟨by rfl, ?_⟩) (by assumption) ?_
  rotate_left
  · intro w hSw
    try dsimp only at hSw
    go_simp
    try with_reducible rfl
  try simp only [Act.put, List.setIfInBounds_toArray, List.set_cons_zero, List.set_cons_succ]
  refine wpAnyH_take (i := 1) (oi := { dst := some 35, op := Op.load 9 (Operand.tmp 34), type := 9, pos := "ref.go:250", after := #[{ on := 0, ground := Ground.data }], guard := none }) (v := ?_) rfl (by kernel_rfl) (by kernel_rfl) (by kernel_rfl) (fun _ _ _ h => h) (Or.inl ⟨by rfl, ?_⟩) (by assumption) ?_
  rotate_left
  · intro w hSw
    try dsimp only at hSw
    rw [show w = _ from hSw]
    obtain ⟨⟨c0, c1, c2⟩, _⟩ := row3 HR1a.out
    go_simp
    try with_reducible rfl
  try simp only [Act.put, List.setIfInBounds_toArray, List.set_cons_zero, List.set_cons_succ]
  refine wpAnyH_take (i := 2) (oi := { dst := some 36, op := Op.fieldAddr 23 (Operand.tmp 2) 2, type := 0, pos := "ref.go:250", after := #[], guard := none }) (v := ?_) rfl (by kernel_rfl) (by kernel_rfl) (by kernel_rfl) (fun _ _ _ h => h) (Or.inl ⟨by rfl, ?_⟩) (by assumption) ?_
  rotate_left
  · intro w hSw
    try dsimp only at hSw
    go_simp
    try with_reducible rfl
  try simp only [Act.put, List.setIfInBounds_toArray, List.set_cons_zero, List.set_cons_succ]
  refine wpAnyH_take (i := 3) (oi := { dst := some 37, op := Op.load 3 (Operand.tmp 36), type := 3, pos := "ref.go:250", after := #[{ on := 2, ground := Ground.data }], guard := none }) (v := ?_) rfl (by kernel_rfl) (by kernel_rfl) (by kernel_rfl) (fun _ _ _ h => h) (Or.inl ⟨by rfl, ?_⟩) (by assumption) ?_
  rotate_left
  · intro w hSw
    try dsimp only at hSw
    rw [show w = _ from hSw]
    obtain ⟨⟨c0, c1, c2⟩, _⟩ := row3 HR1a.out
    go_simp
    try with_reducible rfl
  try simp only [Act.put, List.setIfInBounds_toArray, List.set_cons_zero, List.set_cons_succ]
  refine wpAnyH_take (i := 4) (oi := { dst := some 38, op := Op.move (Operand.tmp 6), type := 3, pos := "ref.go:250", after := #[], guard := none }) (v := ?_) rfl (by kernel_rfl) (by kernel_rfl) (by kernel_rfl) (fun _ _ _ h => h) (Or.inl ⟨by rfl, ?_⟩) (by assumption) ?_
  rotate_left
  · intro w hSw
    try dsimp only at hSw
    go_simp
    try with_reducible rfl
  try simp only [Act.put, List.setIfInBounds_toArray, List.set_cons_zero, List.set_cons_succ]
  refine wpAnyH_take (i := 5) (oi := { dst := some 39, op := Op.binOp BinOp.sub 3 (Operand.tmp 37) (Operand.tmp 38) 3, type := 3, pos := "ref.go:250", after := #[{ on := 3, ground := Ground.data }, { on := 4, ground := Ground.data }], guard := none }) (v := ?_) rfl (by kernel_rfl) (by kernel_rfl) (by kernel_rfl) (fun _ _ _ h => h) (Or.inl ⟨by rfl, ?_⟩) (by assumption) ?_
  rotate_left
  · intro w hSw
    try dsimp only at hSw
    go_simp
    try with_reducible rfl
  try simp only [Act.put, List.setIfInBounds_toArray, List.set_cons_zero, List.set_cons_succ]
  refine wpAnyH_ready (rs := [6]) (by kernel_rfl) (by simp) ?_
  refine AllReadyH.cons (o := { dst := some 40, op := Op.call { callee := Callee.value (Operand.func 28), args := #[Operand.tmp 39], argTypes := #[3] }, type := 9, pos := "ref.go:250", after := #[{ on := 5, ground := Ground.data }], guard := none }) rfl (fun K hK => ?_) AllReadyH.nil
  go_simp
  with_reducible refine (HZA.out _).mono ?_
  rintro e wz ⟨rfl, rfl⟩
  refine hK.out _ _ hT (fun _ => ?_)
  clear hK K
  try simp only [Act.put, List.setIfInBounds_toArray, List.set_cons_zero, List.set_cons_succ]
  refine wpAnyH_take (i := 7) (oi := { dst := some 41, op := Op.binOp BinOp.add 9 (Operand.tmp 35) (Operand.tmp 40) 9, type := 9, pos := "ref.go:250", after := #[{ on := 1, ground := Ground.data }, { on := 6, ground := Ground.data }], guard := none }) (v := ?_) rfl (by kernel_rfl) (by kernel_rfl) (by kernel_rfl) (fun _ _ _ h => h) (Or.inl ⟨by rfl, ?_⟩) (by assumption) ?_
  rotate_left
  · intro w hSw
    try dsimp only at hSw
    go_simp
    try with_reducible rfl
  try simp only [Act.put, List.setIfInBounds_toArray, List.set_cons_zero, List.set_cons_succ]
  refine wpAnyH_take (i := 8) (oi := { dst := some 7, op := Op.assign (Operand.tmp 41), type := 9, pos := "ref.go:250", after := #[{ on := 7, ground := Ground.data }, { on := 6, ground := Ground.chain }, { on := 0, ground := Ground.phase }, { on := 1, ground := Ground.phase }, { on := 2, ground := Ground.phase }, { on := 3, ground := Ground.phase }, { on := 4, ground := Ground.phase }, { on := 5, ground := Ground.phase }, { on := 6, ground := Ground.phase }, { on := 7, ground := Ground.phase }], guard := none }) (v := ?_) rfl (by kernel_rfl) (by kernel_rfl) (by kernel_rfl) (fun _ _ _ h => h) (Or.inl ⟨by rfl, ?_⟩) (by assumption) ?_
  rotate_left
  · intro w hSw
    try dsimp only at hSw
    go_simp
    try with_reducible rfl
  try simp only [Act.put, List.setIfInBounds_toArray, List.set_cons_zero, List.set_cons_succ]
  refine wpAnyH_done (by kernel_rfl) ?_ _
  clear hT
  go_upto_region 9 with fail
  refine wp_region_held_drew (S := (fun W : World => W = wz.drew)) (by kernel_rfl) rfl (fun hHeld => ?_)
  clear hHeld
  have hbd : Below wz.heap.size wz wz.drew := (Below.refl _ _).drew
  have HBb := Lib.hid (HBa.out.trans (hbd.mono HBa.out.size))
  have HR1b := Lib.hid ((hbd.block _ (lt_of_block HR1a.out)).trans HR1a.out)
  have HR2b := Lib.hid ((hbd.block _ (lt_of_block HR2a.out)).trans HR2a.out)
  have HR3b := Lib.hid ((hbd.block _ (lt_of_block HR3a.out)).trans HR3a.out)
  clear hbd HBa HR1a HR2a HR3a
  generalize wz.drew = wdb at HBb HR1b HR2b HR3b ⊢
  have hT : (fun W : World => W = wdb) wdb := rfl
  refine wpAnyH_take (i := 0) (oi := { dst := some 42, op := Op.fieldAddr 23 (Operand.tmp 3) 1, type := 0, pos := "ref.go:251", after := #[], guard := none }) (v := ?_) rfl (by kernel_rfl) (by kernel_rfl) (by kernel_rfl) (fun _ _ _ h => h) (Or.inl ⟨by rfl, ?_⟩) (by assumption) ?_
  rotate_left
  · intro w hSw
    try dsimp only at hSw
    go_simp
    try with_reducible rfl
  try simp only [Act.put, List.setIfInBounds_toArray, List.set_cons_zero, List.set_cons_succ]
  refine wpAnyH_take (i := 1) (oi := { dst := some 43, op := Op.load 9 (Operand.tmp 42), type := 9, pos := "ref.go:251", after := #[{ on := 0, ground := Ground.data }], guard := none }) (v := ?_) rfl (by kernel_rfl) (by kernel_rfl) (by kernel_rfl) (fun _ _ _ h => h) (Or.inl ⟨by rfl, ?_⟩) (by assumption) ?_
  rotate_left
  · intro w hSw
    try dsimp only at hSw
    rw [show w = _ from hSw]
    obtain ⟨⟨c0, c1, c2⟩, _⟩ := row3 HR2b.out
    go_simp
    try with_reducible rfl
  try simp only [Act.put, List.setIfInBounds_toArray, List.set_cons_zero, List.set_cons_succ]
  refine wpAnyH_take (i := 2) (oi := { dst := some 44, op := Op.fieldAddr 23 (Operand.tmp 3) 2, type := 0, pos := "ref.go:251", after := #[], guard := none }) (v := ?_) rfl (by kernel_rfl) (by kernel_rfl) (by kernel_rfl) (fun _ _ _ h => h) (Or.inl ⟨by rfl, ?_⟩) (by assumption) ?_
  rotate_left
  · intro w hSw
    try dsimp only at hSw
    go_simp
    try with_reducible rfl
  try simp only [Act.put, List.setIfInBounds_toArray, List.set_cons_zero, List.set_cons_succ]
  refine wpAnyH_take (i := 3) (oi := { dst := some 45, op := Op.load 3 (Operand.tmp 44), type := 3, pos := "ref.go:251", after := #[{ on := 2, ground := Ground.data }], guard := none }) (v := ?_) rfl (by kernel_rfl) (by kernel_rfl) (by kernel_rfl) (fun _ _ _ h => h) (Or.inl ⟨by rfl, ?_⟩) (by assumption) ?_
  rotate_left
  · intro w hSw
    try dsimp only at hSw
    rw [show w = _ from hSw]
    obtain ⟨⟨c0, c1, c2⟩, _⟩ := row3 HR2b.out
    go_simp
    try with_reducible rfl
  try simp only [Act.put, List.setIfInBounds_toArray, List.set_cons_zero, List.set_cons_succ]
  refine wpAnyH_take (i := 4) (oi := { dst := some 46, op := Op.move (Operand.tmp 6), type := 3, pos := "ref.go:251", after := #[], guard := none }) (v := ?_) rfl (by kernel_rfl) (by kernel_rfl) (by kernel_rfl) (fun _ _ _ h => h) (Or.inl ⟨by rfl, ?_⟩) (by assumption) ?_
  rotate_left
  · intro w hSw
    try dsimp only at hSw
    go_simp
    try with_reducible rfl
  try simp only [Act.put, List.setIfInBounds_toArray, List.set_cons_zero, List.set_cons_succ]
  refine wpAnyH_take (i := 5) (oi := { dst := some 47, op := Op.binOp BinOp.sub 3 (Operand.tmp 45) (Operand.tmp 46) 3, type := 3, pos := "ref.go:251", after := #[{ on := 3, ground := Ground.data }, { on := 4, ground := Ground.data }], guard := none }) (v := ?_) rfl (by kernel_rfl) (by kernel_rfl) (by kernel_rfl) (fun _ _ _ h => h) (Or.inl ⟨by rfl, ?_⟩) (by assumption) ?_
  rotate_left
  · intro w hSw
    try dsimp only at hSw
    go_simp
    try with_reducible rfl
  try simp only [Act.put, List.setIfInBounds_toArray, List.set_cons_zero, List.set_cons_succ]
  refine wpAnyH_ready (rs := [6]) (by kernel_rfl) (by simp) ?_
  refine AllReadyH.cons (o := { dst := some 48, op := Op.call { callee := Callee.value (Operand.func 28), args := #[Operand.tmp 47], argTypes := #[3] }, type := 9, pos := "ref.go:251", after := #[{ on := 5, ground := Ground.data }], guard := none }) rfl (fun K hK => ?_) AllReadyH.nil
  go_simp
  with_reducible refine (HZB.out _).mono ?_
  rintro e wy ⟨rfl, rfl⟩
  refine hK.out _ _ hT (fun _ => ?_)
  clear hK K
  try simp only [Act.put, List.setIfInBounds_toArray, List.set_cons_zero, List.set_cons_succ]
  refine wpAnyH_take (i := 7) (oi := { dst := some 49, op := Op.binOp BinOp.add 9 (Operand.tmp 43) (Operand.tmp 48) 9, type := 9, pos := "ref.go:251", after := #[{ on := 1, ground := Ground.data }, { on := 6, ground := Ground.data }], guard := none }) (v := ?_) rfl (by kernel_rfl) (by kernel_rfl) (by kernel_rfl) (fun _ _ _ h => h) (Or.inl ⟨by rfl, ?_⟩) (by assumption) ?_
  rotate_left
  · intro w hSw
    try dsimp only at hSw
    go_simp
    try with_reducible rfl
  try simp only [Act.put, List.setIfInBounds_toArray, List.set_cons_zero, List.set_cons_succ]
  refine wpAnyH_take (i := 8) (oi := { dst := some 8, op := Op.assign (Operand.tmp 49), type := 9, pos := "ref.go:251", after := #[{ on := 7, ground := Ground.data }, { on := 6, ground := Ground.chain }, { on := 0, ground := Ground.phase }, { on := 1, ground := Ground.phase }, { on := 2, ground := Ground.phase }, { on := 3, ground := Ground.phase }, { on := 4, ground := Ground.phase }, { on := 5, ground := Ground.phase }, { on := 6, ground := Ground.phase }, { on := 7, ground := Ground.phase }], guard := none }) (v := ?_) rfl (by kernel_rfl) (by kernel_rfl) (by kernel_rfl) (fun _ _ _ h => h) (Or.inl ⟨by rfl, ?_⟩) (by assumption) ?_
  rotate_left
  · intro w hSw
    try dsimp only at hSw
    go_simp
    try with_reducible rfl
  try simp only [Act.put, List.setIfInBounds_toArray, List.set_cons_zero, List.set_cons_succ]
  refine wpAnyH_done (by kernel_rfl) ?_ _
  clear hT
  go_wp2_with fail
  with_reducible refine (HWA.out _).mono ?_
  rintro e wx ⟨rfl, rfl⟩
  go_wp2_with fail
  with_reducible refine (HWB.out _).mono ?_
  rintro e wv ⟨rfl, rfl⟩
  obtain ⟨⟨p0, p1, p2⟩, _⟩ := row3 HR1b.out
  obtain ⟨⟨q0, q1, q2⟩, _⟩ := row3 HR2b.out
  go_upto_region 14 with fail
  clear p0 p1 p2 q0 q1 q2
  have hbd : Below wv.heap.size wv wv.drew := (Below.refl _ _).drew
  have HBc := Lib.hid (HBb.out.trans (hbd.mono HBb.out.size))
  have HR1c := Lib.hid ((hbd.block _ (lt_of_block HR1b.out)).trans HR1b.out)
  have HR2c := Lib.hid ((hbd.block _ (lt_of_block HR2b.out)).trans HR2b.out)
  have HR3c := Lib.hid ((hbd.block _ (lt_of_block HR3b.out)).trans HR3b.out)
  have hT0 : (fun W : World => Ex w.heap.size (w.heap.size + 1 + 1) w wv.drew W) wv.drew := Ex.start HBc.out
  clear hbd HBb HR1b HR2b HR3b
  refine wp_region_held_drew (S := (fun W : World => Ex w.heap.size (w.heap.size + 1 + 1) w wv.drew W)) (by kernel_rfl) hT0 (fun hHeld => ?_)
  clear hHeld
  generalize wv.drew = wd at HBc HR1c HR2c HR3c hT0 ⊢
  refine wpAnyH_take (i := 0) (oi := { dst := some 66, op := Op.fieldAddr 23 (Operand.tmp 2) 0, type := 0, pos := "ref.go:256", after := #[], guard := none }) (v := ?_) rfl (by kernel_rfl) (by kernel_rfl) (by kernel_rfl) (fun _ _ _ h => h) (Or.inl ⟨by rfl, ?_⟩) (by assumption) ?_
  rotate_left
  · intro w hSw
    try dsimp only at hSw
    go_simp
    try with_reducible rfl
  try simp only [Act.put, List.setIfInBounds_toArray, List.set_cons_zero, List.set_cons_succ]
  refine wpAnyH_take (i := 1) (oi := { dst := some 67, op := Op.load 4 (Operand.tmp 66), type := 4, pos := "ref.go:256", after := #[{ on := 0, ground := Ground.data }], guard := none }) (v := ?_) rfl (by kernel_rfl) (by kernel_rfl) (by kernel_rfl) (fun _ _ _ h => h) (Or.inl ⟨by rfl, ?_⟩) (by assumption) ?_
  rotate_left
  · intro w hSw
    try dsimp only at hSw
    obtain ⟨⟨c0, c1, c2⟩, _⟩ := row3 ((hSw.old _ (lt_of_block HR1c.out) (by omega)).trans HR1c.out)
    go_simp
    try with_reducible rfl
  try simp only [Act.put, List.setIfInBounds_toArray, List.set_cons_zero, List.set_cons_succ]
  refine wpAnyH_take (i := 2) (oi := { dst := some 68, op := Op.move (Operand.tmp 7), type := 9, pos := "ref.go:256", after := #[], guard := none }) (v := ?_) rfl (by kernel_rfl) (by kernel_rfl) (by kernel_rfl) (fun _ _ _ h => h) (Or.inl ⟨by rfl, ?_⟩) (by assumption) ?_
  rotate_left
  · intro w hSw
    try dsimp only at hSw
    go_simp
    try with_reducible rfl
  try simp only [Act.put, List.setIfInBounds_toArray, List.set_cons_zero, List.set_cons_succ]
  refine wpAnyH_take (i := 3) (oi := { dst := some 69, op := Op.move (Operand.tmp 8), type := 9, pos := "ref.go:256", after := #[], guard := none }) (v := ?_) rfl (by kernel_rfl) (by kernel_rfl) (by kernel_rfl) (fun _ _ _ h => h) (Or.inl ⟨by rfl, ?_⟩) (by assumption) ?_
  rotate_left
  · intro w hSw
    try dsimp only at hSw
    go_simp
    try with_reducible rfl
  try simp only [Act.put, List.setIfInBounds_toArray, List.set_cons_zero, List.set_cons_succ]
  refine wpAnyH_take (i := 5) (oi := { dst := some 71, op := Op.move (Operand.tmp 6), type := 3, pos := "ref.go:256", after := #[], guard := none }) (v := ?_) rfl (by kernel_rfl) (by kernel_rfl) (by kernel_rfl) (fun _ _ _ h => h) (Or.inl ⟨by rfl, ?_⟩) (by assumption) ?_
  rotate_left
  · intro w hSw
    try dsimp only at hSw
    go_simp
    try with_reducible rfl
  try simp only [Act.put, List.setIfInBounds_toArray, List.set_cons_zero, List.set_cons_succ]
  refine wpAnyH_ready (rs := [4]) (by kernel_rfl) (by simp) ?_
  refine AllReadyH.cons (o := { dst := some 70, op := Op.call { callee := Callee.value (Operand.func 32), args := #[Operand.tmp 68, Operand.tmp 69], argTypes := #[9, 9] }, type := 9, pos := "ref.go:256", after := #[{ on := 2, ground := Ground.data }, { on := 3, ground := Ground.data }], guard := none }) rfl (fun K hK => ?_) AllReadyH.nil
  go_simp
  with_reducible refine (HP.out _).mono ?_
  rintro e y1 ⟨rfl, hb⟩
  have hT1 : (fun W : World => Ex w.heap.size (w.heap.size + 1 + 1) w wd W) y1 := Ex.call hT0 hb
  have HR3d := Lib.hid ((hb.block _ (lt_of_block HR3c.out)).trans HR3c.out)
  try unfold pairV
  refine hK.out _ _ hT1 (fun _ => ?_)
  clear hK K hb HR3c
  try simp only [Act.put, List.setIfInBounds_toArray, List.set_cons_zero, List.set_cons_succ]
  refine wpAnyH_ready (rs := [6]) (by kernel_rfl) (by simp) ?_
  refine AllReadyH.cons (o := { dst := some 72, op := Op.call { callee := Callee.value (Operand.func 31), args := #[Operand.tmp 67, Operand.tmp 70, Operand.tmp 71], argTypes := #[4, 9, 3] }, type := 23, pos := "ref.go:256", after := #[{ on := 1, ground := Ground.data }, { on := 4, ground := Ground.data }, { on := 5, ground := Ground.data }, { on := 4, ground := Ground.chain }], guard := none }) rfl (fun K hK => ?_) AllReadyH.nil
  go_simp
  with_reducible refine (HF.out _).mono ?_
  rintro e y2 ⟨rfl, hb⟩
  have hT2 : (fun W : World => Ex w.heap.size (w.heap.size + 1 + 1) w wd W) y2 := Ex.call hT1 hb
  have HR3e := Lib.hid ((hb.block _ (lt_of_block HR3d.out)).trans HR3d.out)
  try unfold pairV
  refine hK.out _ _ hT2 (fun _ => ?_)
  clear hK K hb HR3d
  try simp only [Act.put, List.setIfInBounds_toArray, List.set_cons_zero, List.set_cons_succ]
  refine wpAnyH_ready (rs := [7]) (by kernel_rfl) (by simp) ?_
  refine AllReadyH.cons (o := { dst := some 73, op := Op.call { callee := Callee.value (Operand.func 30), args := #[Operand.tmp 72], argTypes := #[23] }, type := 26, pos := "ref.go:256", after := #[{ on := 6, ground := Ground.data }, { on := 6, ground := Ground.chain }], guard := none }) rfl (fun K hK => ?_) AllReadyH.nil
  go_simp
  with_reducible refine (HTd.out _).mono ?_
  rintro e y3 ⟨rfl, hb⟩
  have hT3 : (fun W : World => Ex w.heap.size (w.heap.size + 1 + 1) w wd W) y3 := Ex.call hT2 hb
  have HR3f := Lib.hid ((hb.block _ (lt_of_block HR3e.out)).trans HR3e.out)
  try unfold pairV
  refine hK.out _ _ hT3 (fun _ => ?_)
  clear hK K hb HR3e
  refine wpAnyH_take (i := 8) (oi := { dst := some 74, op := Op.extract (Operand.tmp 73) 0, type := 23, pos := "ref.go:256", after := #[{ on := 7, ground := Ground.data }], guard := none }) (v := ?_) rfl (by kernel_rfl) (by kernel_rfl) (by kernel_rfl) (fun _ _ _ h => h) (Or.inl ⟨by rfl, ?_⟩) (by assumption) ?_
  rotate_left
  · intro w hSw
    try dsimp only at hSw
    go_simp
    try with_reducible rfl
  try simp only [Act.put, List.setIfInBounds_toArray, List.set_cons_zero, List.set_cons_succ]
  refine wpAnyH_take (i := 9) (oi := { dst := some 75, op := Op.extract (Operand.tmp 73) 1, type := 25, pos := "ref.go:256", after := #[{ on := 7, ground := Ground.data }], guard := none }) (v := ?_) rfl (by kernel_rfl) (by kernel_rfl) (by kernel_rfl) (fun _ _ _ h => h) (Or.inl ⟨by rfl, ?_⟩) (by assumption) ?_
  rotate_left
  · intro w hSw
    try dsimp only at hSw
    go_simp
    try with_reducible rfl
  try simp only [Act.put, List.setIfInBounds_toArray, List.set_cons_zero, List.set_cons_succ]
  refine wpAnyH_ready (rs := [10]) (by kernel_rfl) (by simp) ?_
  refine AllReadyH.cons (o := { dst := none, op := Op.store 23 (Operand.tmp 4) (Operand.tmp 74), type := 0, pos := "ref.go:256", after := #[{ on := 8, ground := Ground.data }, { on := 7, ground := Ground.chain }, { on := 0, ground := Ground.phase }, { on := 1, ground := Ground.phase }, { on := 2, ground := Ground.phase }, { on := 3, ground := Ground.phase }, { on := 4, ground := Ground.phase }, { on := 5, ground := Ground.phase }, { on := 6, ground := Ground.phase }, { on := 7, ground := Ground.phase }, { on := 8, ground := Ground.phase }, { on := 9, ground := Ground.phase }], guard := none }) rfl (fun K hK => ?_) AllReadyH.nil
  obtain ⟨_, f0, f1, f2⟩ := row3 HR3f.out
  have hS := Ex.put hT3 HR3f.out (by omega) (.bool tn) (.string td) (.int .i64 te)
  have HS1 := Lib.hid hS.2
  have hT9 : (fun W : World => Ex w.heap.size (w.heap.size + 1 + 1) w wd W) _ := hS.1
  clear hS
  go_simp
  refine hK.out _ _ hT9 (fun _ => ?_)
  clear hK K f0 f1 f2 HR3f
  refine wpAnyH_take (i := 11) (oi := { dst := some 5, op := Op.assign (Operand.tmp 75), type := 25, pos := "ref.go:256", after := #[{ on := 9, ground := Ground.data }, { on := 10, ground := Ground.chain }, { on := 0, ground := Ground.phase }, { on := 1, ground := Ground.phase }, { on := 2, ground := Ground.phase }, { on := 3, ground := Ground.phase }, { on := 4, ground := Ground.phase }, { on := 5, ground := Ground.phase }, { on := 6, ground := Ground.phase }, { on := 7, ground := Ground.phase }, { on := 8, ground := Ground.phase }, { on := 9, ground := Ground.phase }, { on := 10, ground := Ground.phase }], guard := none }) (v := ?_) rfl (by kernel_rfl) (by kernel_rfl) (by kernel_rfl) (fun _ _ _ h => h) (Or.inl ⟨by rfl, ?_⟩) (by assumption) ?_
  rotate_left
  · intro w hSw
    try dsimp only at hSw
    go_simp
    try with_reducible rfl
  refine wpAnyH_done (by kernel_rfl) ?_ _
  have HFin := Lib.hid hT9.below
  clear hT0 hT1 hT2 hT3 hT9
  go_wp2_with fail
  refine bodyPost_ret (results_row_tmp rfl _ _ (w.heap.size + 1 + 1) _ _ _ _ rfl HS1.out Tryd.underlying23 rfl (by kernel_rfl)) rfl ⟨rfl, HFin.out⟩
set_option maxRecDepth 100000 in
set_option maxHeartbeats 4000000 in
theorem addr_less (w : World) (n1 n2 : Bool) (d1 d2 : ByteArray) (e1 e2 : Int) (s1 : d1.size ≤ 1000000) (s2 : d2.size ≤ 1000000) (h1 : dsane n1 (unstr d1) e1 = true) (h2 : dsane n2 (unstr d2) e2 = true) (hz1 : ¬ d1.size = 0) (hz2 : ¬ d2.size = 0) (hn : ¬ n1 = n2) (hle : nv (unstr (eqlW ⟨n1, d1, e1⟩ ⟨n2, d2, e2⟩)) ≤ nv (unstr (eqlW ⟨n2, d2, e2⟩ ⟨n1, d1, e1⟩))) (hlt : Op.bytesLess (eqlW ⟨n1, d1, e1⟩ ⟨n2, d2, e2⟩).toList (eqlW ⟨n2, d2, e2⟩ ⟨n1, d1, e1⟩).toList = true) :
    Calls Tryd.prog 12 #[.agg #[.bool n1, .string d1, .int .i64 e1], .agg #[.bool n2, .string d2, .int .i64 e2]] w fun e w' => e = .returned (pairV (sumN ⟨n2, d2, e2⟩ ⟨n1, d1, e1⟩).told) ∧ Below w.heap.size w w' := by
  obtain ⟨k11, k12, k13, u1⟩ := dsane_bounds h1 hz1
  obtain ⟨k21, k22, k23, u2⟩ := dsane_bounds h2 hz2
  obtain ⟨ex, hex⟩ : ∃ ex, ex = min e1 e2 := ⟨_, rfl⟩
  have oa : (⟨n1, d1, e1⟩ : Nm).ok = true := h1
  have ob : (⟨n2, d2, e2⟩ : Nm).ok = true := h2
  have da := eqlW_digs (a := ⟨n1, d1, e1⟩) (b := ⟨n2, d2, e2⟩) u1
  have db := eqlW_digs (a := ⟨n2, d2, e2⟩) (b := ⟨n1, d1, e1⟩) u2
  have sza := eqlW_size ⟨n1, d1, e1⟩ ⟨n2, d2, e2⟩
  have szb := eqlW_size ⟨n2, d2, e2⟩ ⟨n1, d1, e1⟩
  rw [eqlN_comm] at szb
  have XA : eqlB ⟨n1, d1, e1⟩ ⟨n2, d2, e2⟩ = d1 ++ zers (e1 - ex).toNat := by rw [hex]; rfl
  have XB : eqlB ⟨n2, d2, e2⟩ ⟨n1, d1, e1⟩ = d2 ++ zers (e2 - ex).toNat := by
    rw [hex, show min e1 e2 = min e2 e1 by omega]
    rfl
  have cA : ¬ 9223372036854775807 < d1.size + (zers (e1 - ex).toNat).size := by rw [zers_size]; omega
  have cB : ¬ 9223372036854775807 < d2.size + (zers (e2 - ex).toNat).size := by rw [zers_size]; omega
  have eN : eqlN ⟨n1, d1, e1⟩ ⟨n2, d2, e2⟩ = max (d1 ++ zers (e1 - ex).toNat).size (d2 ++ zers (e2 - ex).toNat).size := by unfold eqlN; rw [XA, XB]
  have lA : (d1 ++ zers (e1 - ex).toNat).size ≤ 1000 := by rw [ByteArray.size_append, zers_size]; omega
  have lB : (d2 ++ zers (e2 - ex).toNat).size ≤ 1000 := by rw [ByteArray.size_append, zers_size]; omega
  have hN1 : eqlN ⟨n1, d1, e1⟩ ⟨n2, d2, e2⟩ ≤ 1000 := by rw [eN]; omega
  have HWA := Lib.hid (fun v => wide_ref v (d1 ++ zers (e1 - ex).toNat) (eqlN ⟨n1, d1, e1⟩ ⟨n2, d2, e2⟩) (by omega) (by omega))
  have HWB := Lib.hid (fun v => wide_ref v (d2 ++ zers (e2 - ex).toNat) (eqlN ⟨n1, d1, e1⟩ ⟨n2, d2, e2⟩) (by omega) (by omega))
  rw [show wideB (d1 ++ zers (e1 - ex).toNat) (eqlN ⟨n1, d1, e1⟩ ⟨n2, d2, e2⟩) = eqlW ⟨n1, d1, e1⟩ ⟨n2, d2, e2⟩ by rw [← XA]; rfl] at HWA
  rw [show wideB (d2 ++ zers (e2 - ex).toNat) (eqlN ⟨n1, d1, e1⟩ ⟨n2, d2, e2⟩) = eqlW ⟨n2, d2, e2⟩ ⟨n1, d1, e1⟩ by rw [← XB, eqlN_comm]; rfl] at HWB
  have HZA := Lib.hid (fun v => zeros_ref v (e1 - ex) (by omega) (by omega))
  have HZB := Lib.hid (fun v => zeros_ref v (e2 - ex) (by omega) (by omega))
  have wA : IntKind.i64.wrap (e1 - ex) = e1 - ex := by rw [IntKind.wrap_i64]; omega
  have wB : IntKind.i64.wrap (e2 - ex) = e2 - ex := by rw [IntKind.wrap_i64]; omega
  have hmin : min e1 e2 = ex := hex.symm
  have hmax : max ((d1.size : Int) + ((zers (e1 - ex).toNat).size : Int)) ((d2.size : Int) + ((zers (e2 - ex).toNat).size : Int)) = ((eqlN ⟨n1, d1, e1⟩ ⟨n2, d2, e2⟩ : Nat) : Int) := by rw [eN, ByteArray.size_append, ByteArray.size_append]; omega
  have hv := ref_less ob oa (fun h => hn h.symm) hle
  rw [show min (⟨n2, d2, e2⟩ : Nm).ex (⟨n1, d1, e1⟩ : Nm).ex = min e1 e2 by show min e2 e1 = _; omega] at hv
  have HP := Lib.hid (fun v => minus_ref v (eqlW ⟨n2, d2, e2⟩ ⟨n1, d1, e1⟩) (eqlW ⟨n1, d1, e1⟩ ⟨n2, d2, e2⟩) db da (sza.trans szb.symm) (by omega))
  have sP := minus_size (a := eqlW ⟨n2, d2, e2⟩ ⟨n1, d1, e1⟩) (b := eqlW ⟨n1, d1, e1⟩ ⟨n2, d2, e2⟩)
  generalize minusB (eqlW ⟨n2, d2, e2⟩ ⟨n1, d1, e1⟩) (eqlW ⟨n1, d1, e1⟩ ⟨n2, d2, e2⟩) = PB at hv HP sP
  have HF := Lib.hid (fun v => form_ref v n2 PB ex (by omega) (by omega) (by omega))
  rw [fmd_eq] at HF
  have hv2 : (⟨fneg n2 PB, fdig PB, fexp PB ex⟩ : Nm) = sumN ⟨n2, d2, e2⟩ ⟨n1, d1, e1⟩ := by
    rw [← hv]
    show fmN n2 PB ex = fmN n2 PB _
    rw [hex]
  generalize fneg n2 PB = en at HF hv2
  generalize hed : fdig PB = ed at HF hv2
  generalize fexp PB ex = ee at HF hv2
  have sE : ed.size ≤ 1000000 := by rw [← hed]; have := fdig_size PB; omega
  have HTd := Lib.hid (fun v => told_ref v en ed ee (by omega))
  rw [hv2] at HTd
  obtain ⟨⟨⟨tn, td, te⟩, tc⟩, htp⟩ : ∃ p, (sumN ⟨n2, d2, e2⟩ ⟨n1, d1, e1⟩).told = p := ⟨_, rfl⟩
  rw [htp] at HTd ⊢
  have dz1 : (((d1.size : Nat) : Int) == 0) = false := beq_eq_false_iff_ne.2 (by omega)
  have dz2 : (((d2.size : Nat) : Int) == 0) = false := beq_eq_false_iff_ne.2 (by omega)
  generalize eqlW ⟨n1, d1, e1⟩ ⟨n2, d2, e2⟩ = WA at *
  generalize eqlW ⟨n2, d2, e2⟩ ⟨n1, d1, e1⟩ = WB at *
  generalize eqlN ⟨n1, d1, e1⟩ ⟨n2, d2, e2⟩ = NN at *
  generalize zers (e1 - ex).toNat = ZA at *
  generalize zers (e2 - ex).toNat = ZB at *
  have dn : (n1 == n2) = false := beq_eq_false_iff_ne.2 hn
  have HLt := Lib.hid hlt
  unfold pairV
  obtain ⟨wa, hwa, r1, r2, r3, hB⟩ := three_rows_at w n1 n2 d1 d2 e1 e2
  have HS1 := Lib.hid (fun v => sane_ref v n1 d1 e1 (by omega))
  have HS2 := Lib.hid (fun v => sane_ref v n2 d2 e2 (by omega))
  have HW := Lib.hid hwa
  have HR1 := Lib.hid r1
  have HR2 := Lib.hid r2
  have HR3 := Lib.hid r3
  have HB := Lib.hid hB
  obtain ⟨⟨x0, x1, x2⟩, _⟩ := row3 r1
  clear hwa r1 r2 r3 hB
  rw [h1] at HS1
  rw [h2] at HS2
  clear h1 h2 hz1 hz2 u1 u2 k11 k12 k13 k21 k22 k23 hex oa ob da db sza szb XA XB eN lA lB hN1 hv hlt hle sP hv2 hed sE htp
  go_enter Tryd.func12, Tryd.ntmps12
  go_upto_region 1 with fail
  rw [← HW.out]
  clear HW
  go_wp2_with fail
  with_reducible refine (HS1.out _).mono ?_
  rintro e w2 ⟨rfl, hb2⟩
  have HT1 := Lib.hid ((hb2.block _ (lt_of_block HR1.out)).trans HR1.out)
  have HT2 := Lib.hid ((hb2.block _ (lt_of_block HR2.out)).trans HR2.out)
  have HT3 := Lib.hid ((hb2.block _ (lt_of_block HR3.out)).trans HR3.out)
  have HK := Lib.hid (HB.out.trans (hb2.mono HB.out.size))
  clear x0 x1 x2 hb2 HR1 HR2 HR3 HB
  obtain ⟨⟨y0, y1, y2⟩, _⟩ := row3 HT2.out
  go_wp2_with fail
  with_reducible refine (HS2.out _).mono ?_
  rintro e w3 ⟨rfl, hb3⟩
  have HR1 := Lib.hid ((hb3.block _ (lt_of_block HT1.out)).trans HT1.out)
  have HR2 := Lib.hid ((hb3.block _ (lt_of_block HT2.out)).trans HT2.out)
  have HR3 := Lib.hid ((hb3.block _ (lt_of_block HT3.out)).trans HT3.out)
  have HB := Lib.hid (HK.out.trans (hb3.mono HK.out.size))
  clear y0 y1 y2 hb3 HT1 HT2 HT3 HK HS1 HS2
  obtain ⟨⟨p0, p1, p2⟩, _⟩ := row3 HR1.out
  obtain ⟨⟨q0, q1, q2⟩, _⟩ := row3 HR2.out
  go_upto_region 8 with fail
  clear p0 p1 p2 q0 q1 q2
  refine wp_region_held_drew (S := (fun W : World => W = w3.drew)) (by kernel_rfl) rfl (fun hHeld => ?_)
  clear hHeld
  have hbd : Below w3.heap.size w3 w3.drew := (Below.refl _ _).drew
  have HBa := Lib.hid (HB.out.trans (hbd.mono HB.out.size))
  have HR1a := Lib.hid ((hbd.block _ (lt_of_block HR1.out)).trans HR1.out)
  have HR2a := Lib.hid ((hbd.block _ (lt_of_block HR2.out)).trans HR2.out)
  have HR3a := Lib.hid ((hbd.block _ (lt_of_block HR3.out)).trans HR3.out)
  clear hbd HB HR1 HR2 HR3
  generalize w3.drew = wda at HBa HR1a HR2a HR3a ⊢
  have hT : (fun W : World => W = wda) wda := rfl
  refine wpAnyH_take (i := 0) (oi := { dst := some 34, op := Op.fieldAddr 23 (Operand.tmp 2) 1, type := 0, pos := "ref.go:250", after := #[], guard := none }) (v := ?_) rfl (by kernel_rfl) (by kernel_rfl) (by kernel_rfl) (fun _ _ _ h => h) (Or.inl ⟨by rfl, ?_⟩) (by assumption) ?_
  rotate_left
  · intro w hSw
    try dsimp only at hSw
    go_simp
    try with_reducible rfl
  try simp only [Act.put, List.setIfInBounds_toArray, List.set_cons_zero, List.set_cons_succ]
  refine wpAnyH_take (i := 1) (oi := { dst := some 35, op := Op.load 9 (Operand.tmp 34), type := 9, pos := "ref.go:250", after := #[{ on := 0, ground := Ground.data }], guard := none }) (v := ?_) rfl (by kernel_rfl) (by kernel_rfl) (by kernel_rfl) (fun _ _ _ h => h) (Or.inl ⟨by rfl, ?_⟩) (by assumption) ?_
  rotate_left
  · intro w hSw
    try dsimp only at hSw
    rw [show w = _ from hSw]
    obtain ⟨⟨c0, c1, c2⟩, _⟩ := row3 HR1a.out
    go_simp
    try with_reducible rfl
  try simp only [Act.put, List.setIfInBounds_toArray, List.set_cons_zero, List.set_cons_succ]
  refine wpAnyH_take (i := 2) (oi := { dst := some 36, op := Op.fieldAddr 23 (Operand.tmp 2) 2, type := 0, pos := "ref.go:250", after := #[], guard := none }) (v := ?_) rfl (by kernel_rfl) (by kernel_rfl) (by kernel_rfl) (fun _ _ _ h => h) (Or.inl ⟨by rfl, ?_⟩) (by assumption) ?_
  rotate_left
  · intro w hSw
    try dsimp only at hSw
    go_simp
    try with_reducible rfl
  try simp only [Act.put, List.setIfInBounds_toArray, List.set_cons_zero, List.set_cons_succ]
  refine wpAnyH_take (i := 3) (oi := { dst := some 37, op := Op.load 3 (Operand.tmp 36), type := 3, pos := "ref.go:250", after := #[{ on := 2, ground := Ground.data }], guard := none }) (v := ?_) rfl (by kernel_rfl) (by kernel_rfl) (by kernel_rfl) (fun _ _ _ h => h) (Or.inl ⟨by rfl, ?_⟩) (by assumption) ?_
  rotate_left
  · intro w hSw
    try dsimp only at hSw
    rw [show w = _ from hSw]
    obtain ⟨⟨c0, c1, c2⟩, _⟩ := row3 HR1a.out
    go_simp
    try with_reducible rfl
  try simp only [Act.put, List.setIfInBounds_toArray, List.set_cons_zero, List.set_cons_succ]
  refine wpAnyH_take (i := 4) (oi := { dst := some 38, op := Op.move (Operand.tmp 6), type := 3, pos := "ref.go:250", after := #[], guard := none }) (v := ?_) rfl (by kernel_rfl) (by kernel_rfl) (by kernel_rfl) (fun _ _ _ h => h) (Or.inl ⟨by rfl, ?_⟩) (by assumption) ?_
  rotate_left
  · intro w hSw
    try dsimp only at hSw
    go_simp
    try with_reducible rfl
  try simp only [Act.put, List.setIfInBounds_toArray, List.set_cons_zero, List.set_cons_succ]
  refine wpAnyH_take (i := 5) (oi := { dst := some 39, op := Op.binOp BinOp.sub 3 (Operand.tmp 37) (Operand.tmp 38) 3, type := 3, pos := "ref.go:250", after := #[{ on := 3, ground := Ground.data }, { on := 4, ground := Ground.data }], guard := none }) (v := ?_) rfl (by kernel_rfl) (by kernel_rfl) (by kernel_rfl) (fun _ _ _ h => h) (Or.inl ⟨by rfl, ?_⟩) (by assumption) ?_
  rotate_left
  · intro w hSw
    try dsimp only at hSw
    go_simp
    try with_reducible rfl
  try simp only [Act.put, List.setIfInBounds_toArray, List.set_cons_zero, List.set_cons_succ]
  refine wpAnyH_ready (rs := [6]) (by kernel_rfl) (by simp) ?_
  refine AllReadyH.cons (o := { dst := some 40, op := Op.call { callee := Callee.value (Operand.func 28), args := #[Operand.tmp 39], argTypes := #[3] }, type := 9, pos := "ref.go:250", after := #[{ on := 5, ground := Ground.data }], guard := none }) rfl (fun K hK => ?_) AllReadyH.nil
  go_simp
  with_reducible refine (HZA.out _).mono ?_
  rintro e wz ⟨rfl, rfl⟩
  refine hK.out _ _ hT (fun _ => ?_)
  clear hK K
  try simp only [Act.put, List.setIfInBounds_toArray, List.set_cons_zero, List.set_cons_succ]
  refine wpAnyH_take (i := 7) (oi := { dst := some 41, op := Op.binOp BinOp.add 9 (Operand.tmp 35) (Operand.tmp 40) 9, type := 9, pos := "ref.go:250", after := #[{ on := 1, ground := Ground.data }, { on := 6, ground := Ground.data }], guard := none }) (v := ?_) rfl (by kernel_rfl) (by kernel_rfl) (by kernel_rfl) (fun _ _ _ h => h) (Or.inl ⟨by rfl, ?_⟩) (by assumption) ?_
  rotate_left
  · intro w hSw
    try dsimp only at hSw
    go_simp
    try with_reducible rfl
  try simp only [Act.put, List.setIfInBounds_toArray, List.set_cons_zero, List.set_cons_succ]
  refine wpAnyH_take (i := 8) (oi := { dst := some 7, op := Op.assign (Operand.tmp 41), type := 9, pos := "ref.go:250", after := #[{ on := 7, ground := Ground.data }, { on := 6, ground := Ground.chain }, { on := 0, ground := Ground.phase }, { on := 1, ground := Ground.phase }, { on := 2, ground := Ground.phase }, { on := 3, ground := Ground.phase }, { on := 4, ground := Ground.phase }, { on := 5, ground := Ground.phase }, { on := 6, ground := Ground.phase }, { on := 7, ground := Ground.phase }], guard := none }) (v := ?_) rfl (by kernel_rfl) (by kernel_rfl) (by kernel_rfl) (fun _ _ _ h => h) (Or.inl ⟨by rfl, ?_⟩) (by assumption) ?_
  rotate_left
  · intro w hSw
    try dsimp only at hSw
    go_simp
    try with_reducible rfl
  try simp only [Act.put, List.setIfInBounds_toArray, List.set_cons_zero, List.set_cons_succ]
  refine wpAnyH_done (by kernel_rfl) ?_ _
  clear hT
  go_upto_region 9 with fail
  refine wp_region_held_drew (S := (fun W : World => W = wz.drew)) (by kernel_rfl) rfl (fun hHeld => ?_)
  clear hHeld
  have hbd : Below wz.heap.size wz wz.drew := (Below.refl _ _).drew
  have HBb := Lib.hid (HBa.out.trans (hbd.mono HBa.out.size))
  have HR1b := Lib.hid ((hbd.block _ (lt_of_block HR1a.out)).trans HR1a.out)
  have HR2b := Lib.hid ((hbd.block _ (lt_of_block HR2a.out)).trans HR2a.out)
  have HR3b := Lib.hid ((hbd.block _ (lt_of_block HR3a.out)).trans HR3a.out)
  clear hbd HBa HR1a HR2a HR3a
  generalize wz.drew = wdb at HBb HR1b HR2b HR3b ⊢
  have hT : (fun W : World => W = wdb) wdb := rfl
  refine wpAnyH_take (i := 0) (oi := { dst := some 42, op := Op.fieldAddr 23 (Operand.tmp 3) 1, type := 0, pos := "ref.go:251", after := #[], guard := none }) (v := ?_) rfl (by kernel_rfl) (by kernel_rfl) (by kernel_rfl) (fun _ _ _ h => h) (Or.inl ⟨by rfl, ?_⟩) (by assumption) ?_
  rotate_left
  · intro w hSw
    try dsimp only at hSw
    go_simp
    try with_reducible rfl
  try simp only [Act.put, List.setIfInBounds_toArray, List.set_cons_zero, List.set_cons_succ]
  refine wpAnyH_take (i := 1) (oi := { dst := some 43, op := Op.load 9 (Operand.tmp 42), type := 9, pos := "ref.go:251", after := #[{ on := 0, ground := Ground.data }], guard := none }) (v := ?_) rfl (by kernel_rfl) (by kernel_rfl) (by kernel_rfl) (fun _ _ _ h => h) (Or.inl ⟨by rfl, ?_⟩) (by assumption) ?_
  rotate_left
  · intro w hSw
    try dsimp only at hSw
    rw [show w = _ from hSw]
    obtain ⟨⟨c0, c1, c2⟩, _⟩ := row3 HR2b.out
    go_simp
    try with_reducible rfl
  try simp only [Act.put, List.setIfInBounds_toArray, List.set_cons_zero, List.set_cons_succ]
  refine wpAnyH_take (i := 2) (oi := { dst := some 44, op := Op.fieldAddr 23 (Operand.tmp 3) 2, type := 0, pos := "ref.go:251", after := #[], guard := none }) (v := ?_) rfl (by kernel_rfl) (by kernel_rfl) (by kernel_rfl) (fun _ _ _ h => h) (Or.inl ⟨by rfl, ?_⟩) (by assumption) ?_
  rotate_left
  · intro w hSw
    try dsimp only at hSw
    go_simp
    try with_reducible rfl
  try simp only [Act.put, List.setIfInBounds_toArray, List.set_cons_zero, List.set_cons_succ]
  refine wpAnyH_take (i := 3) (oi := { dst := some 45, op := Op.load 3 (Operand.tmp 44), type := 3, pos := "ref.go:251", after := #[{ on := 2, ground := Ground.data }], guard := none }) (v := ?_) rfl (by kernel_rfl) (by kernel_rfl) (by kernel_rfl) (fun _ _ _ h => h) (Or.inl ⟨by rfl, ?_⟩) (by assumption) ?_
  rotate_left
  · intro w hSw
    try dsimp only at hSw
    rw [show w = _ from hSw]
    obtain ⟨⟨c0, c1, c2⟩, _⟩ := row3 HR2b.out
    go_simp
    try with_reducible rfl
  try simp only [Act.put, List.setIfInBounds_toArray, List.set_cons_zero, List.set_cons_succ]
  refine wpAnyH_take (i := 4) (oi := { dst := some 46, op := Op.move (Operand.tmp 6), type := 3, pos := "ref.go:251", after := #[], guard := none }) (v := ?_) rfl (by kernel_rfl) (by kernel_rfl) (by kernel_rfl) (fun _ _ _ h => h) (Or.inl ⟨by rfl, ?_⟩) (by assumption) ?_
  rotate_left
  · intro w hSw
    try dsimp only at hSw
    go_simp
    try with_reducible rfl
  try simp only [Act.put, List.setIfInBounds_toArray, List.set_cons_zero, List.set_cons_succ]
  refine wpAnyH_take (i := 5) (oi := { dst := some 47, op := Op.binOp BinOp.sub 3 (Operand.tmp 45) (Operand.tmp 46) 3, type := 3, pos := "ref.go:251", after := #[{ on := 3, ground := Ground.data }, { on := 4, ground := Ground.data }], guard := none }) (v := ?_) rfl (by kernel_rfl) (by kernel_rfl) (by kernel_rfl) (fun _ _ _ h => h) (Or.inl ⟨by rfl, ?_⟩) (by assumption) ?_
  rotate_left
  · intro w hSw
    try dsimp only at hSw
    go_simp
    try with_reducible rfl
  try simp only [Act.put, List.setIfInBounds_toArray, List.set_cons_zero, List.set_cons_succ]
  refine wpAnyH_ready (rs := [6]) (by kernel_rfl) (by simp) ?_
  refine AllReadyH.cons (o := { dst := some 48, op := Op.call { callee := Callee.value (Operand.func 28), args := #[Operand.tmp 47], argTypes := #[3] }, type := 9, pos := "ref.go:251", after := #[{ on := 5, ground := Ground.data }], guard := none }) rfl (fun K hK => ?_) AllReadyH.nil
  go_simp
  with_reducible refine (HZB.out _).mono ?_
  rintro e wy ⟨rfl, rfl⟩
  refine hK.out _ _ hT (fun _ => ?_)
  clear hK K
  try simp only [Act.put, List.setIfInBounds_toArray, List.set_cons_zero, List.set_cons_succ]
  refine wpAnyH_take (i := 7) (oi := { dst := some 49, op := Op.binOp BinOp.add 9 (Operand.tmp 43) (Operand.tmp 48) 9, type := 9, pos := "ref.go:251", after := #[{ on := 1, ground := Ground.data }, { on := 6, ground := Ground.data }], guard := none }) (v := ?_) rfl (by kernel_rfl) (by kernel_rfl) (by kernel_rfl) (fun _ _ _ h => h) (Or.inl ⟨by rfl, ?_⟩) (by assumption) ?_
  rotate_left
  · intro w hSw
    try dsimp only at hSw
    go_simp
    try with_reducible rfl
  try simp only [Act.put, List.setIfInBounds_toArray, List.set_cons_zero, List.set_cons_succ]
  refine wpAnyH_take (i := 8) (oi := { dst := some 8, op := Op.assign (Operand.tmp 49), type := 9, pos := "ref.go:251", after := #[{ on := 7, ground := Ground.data }, { on := 6, ground := Ground.chain }, { on := 0, ground := Ground.phase }, { on := 1, ground := Ground.phase }, { on := 2, ground := Ground.phase }, { on := 3, ground := Ground.phase }, { on := 4, ground := Ground.phase }, { on := 5, ground := Ground.phase }, { on := 6, ground := Ground.phase }, { on := 7, ground := Ground.phase }], guard := none }) (v := ?_) rfl (by kernel_rfl) (by kernel_rfl) (by kernel_rfl) (fun _ _ _ h => h) (Or.inl ⟨by rfl, ?_⟩) (by assumption) ?_
  rotate_left
  · intro w hSw
    try dsimp only at hSw
    go_simp
    try with_reducible rfl
  try simp only [Act.put, List.setIfInBounds_toArray, List.set_cons_zero, List.set_cons_succ]
  refine wpAnyH_done (by kernel_rfl) ?_ _
  clear hT
  go_wp2_with fail
  with_reducible refine (HWA.out _).mono ?_
  rintro e wx ⟨rfl, rfl⟩
  go_wp2_with fail
  with_reducible refine (HWB.out _).mono ?_
  rintro e wv ⟨rfl, rfl⟩
  obtain ⟨⟨p0, p1, p2⟩, _⟩ := row3 HR1b.out
  obtain ⟨⟨q0, q1, q2⟩, _⟩ := row3 HR2b.out
  have hlt := HLt.out
  go_upto_region 16 with fail
  clear p0 p1 p2 q0 q1 q2
  have hbd : Below wv.heap.size wv wv.drew := (Below.refl _ _).drew
  have HBc := Lib.hid (HBb.out.trans (hbd.mono HBb.out.size))
  have HR1c := Lib.hid ((hbd.block _ (lt_of_block HR1b.out)).trans HR1b.out)
  have HR2c := Lib.hid ((hbd.block _ (lt_of_block HR2b.out)).trans HR2b.out)
  have HR3c := Lib.hid ((hbd.block _ (lt_of_block HR3b.out)).trans HR3b.out)
  have hT0 : (fun W : World => Ex w.heap.size (w.heap.size + 1 + 1) w wv.drew W) wv.drew := Ex.start HBc.out
  clear hbd HBb HR1b HR2b HR3b
  refine wp_region_held_drew (S := (fun W : World => Ex w.heap.size (w.heap.size + 1 + 1) w wv.drew W)) (by kernel_rfl) hT0 (fun hHeld => ?_)
  clear hHeld
  generalize wv.drew = wd at HBc HR1c HR2c HR3c hT0 ⊢
  refine wpAnyH_take (i := 0) (oi := { dst := some 79, op := Op.fieldAddr 23 (Operand.tmp 3) 0, type := 0, pos := "ref.go:259", after := #[], guard := none }) (v := ?_) rfl (by kernel_rfl) (by kernel_rfl) (by kernel_rfl) (fun _ _ _ h => h) (Or.inl ⟨by rfl, ?_⟩) (by assumption) ?_
  rotate_left
  · intro w hSw
    try dsimp only at hSw
    go_simp
    try with_reducible rfl
  try simp only [Act.put, List.setIfInBounds_toArray, List.set_cons_zero, List.set_cons_succ]
  refine wpAnyH_take (i := 1) (oi := { dst := some 80, op := Op.load 4 (Operand.tmp 79), type := 4, pos := "ref.go:259", after := #[{ on := 0, ground := Ground.data }], guard := none }) (v := ?_) rfl (by kernel_rfl) (by kernel_rfl) (by kernel_rfl) (fun _ _ _ h => h) (Or.inl ⟨by rfl, ?_⟩) (by assumption) ?_
  rotate_left
  · intro w hSw
    try dsimp only at hSw
    obtain ⟨⟨c0, c1, c2⟩, _⟩ := row3 ((hSw.old _ (lt_of_block HR2c.out) (by omega)).trans HR2c.out)
    go_simp
    try with_reducible rfl
  try simp only [Act.put, List.setIfInBounds_toArray, List.set_cons_zero, List.set_cons_succ]
  refine wpAnyH_take (i := 2) (oi := { dst := some 81, op := Op.move (Operand.tmp 8), type := 9, pos := "ref.go:259", after := #[], guard := none }) (v := ?_) rfl (by kernel_rfl) (by kernel_rfl) (by kernel_rfl) (fun _ _ _ h => h) (Or.inl ⟨by rfl, ?_⟩) (by assumption) ?_
  rotate_left
  · intro w hSw
    try dsimp only at hSw
    go_simp
    try with_reducible rfl
  try simp only [Act.put, List.setIfInBounds_toArray, List.set_cons_zero, List.set_cons_succ]
  refine wpAnyH_take (i := 3) (oi := { dst := some 82, op := Op.move (Operand.tmp 7), type := 9, pos := "ref.go:259", after := #[], guard := none }) (v := ?_) rfl (by kernel_rfl) (by kernel_rfl) (by kernel_rfl) (fun _ _ _ h => h) (Or.inl ⟨by rfl, ?_⟩) (by assumption) ?_
  rotate_left
  · intro w hSw
    try dsimp only at hSw
    go_simp
    try with_reducible rfl
  try simp only [Act.put, List.setIfInBounds_toArray, List.set_cons_zero, List.set_cons_succ]
  refine wpAnyH_take (i := 5) (oi := { dst := some 84, op := Op.move (Operand.tmp 6), type := 3, pos := "ref.go:259", after := #[], guard := none }) (v := ?_) rfl (by kernel_rfl) (by kernel_rfl) (by kernel_rfl) (fun _ _ _ h => h) (Or.inl ⟨by rfl, ?_⟩) (by assumption) ?_
  rotate_left
  · intro w hSw
    try dsimp only at hSw
    go_simp
    try with_reducible rfl
  try simp only [Act.put, List.setIfInBounds_toArray, List.set_cons_zero, List.set_cons_succ]
  refine wpAnyH_ready (rs := [4]) (by kernel_rfl) (by simp) ?_
  refine AllReadyH.cons (o := { dst := some 83, op := Op.call { callee := Callee.value (Operand.func 33), args := #[Operand.tmp 81, Operand.tmp 82], argTypes := #[9, 9] }, type := 9, pos := "ref.go:259", after := #[{ on := 2, ground := Ground.data }, { on := 3, ground := Ground.data }], guard := none }) rfl (fun K hK => ?_) AllReadyH.nil
  go_simp
  with_reducible refine (HP.out _).mono ?_
  rintro e y1 ⟨rfl, hb⟩
  have hT1 : (fun W : World => Ex w.heap.size (w.heap.size + 1 + 1) w wd W) y1 := Ex.call hT0 hb
  have HR3d := Lib.hid ((hb.block _ (lt_of_block HR3c.out)).trans HR3c.out)
  try unfold pairV
  refine hK.out _ _ hT1 (fun _ => ?_)
  clear hK K hb HR3c
  try simp only [Act.put, List.setIfInBounds_toArray, List.set_cons_zero, List.set_cons_succ]
  refine wpAnyH_ready (rs := [6]) (by kernel_rfl) (by simp) ?_
  refine AllReadyH.cons (o := { dst := some 85, op := Op.call { callee := Callee.value (Operand.func 31), args := #[Operand.tmp 80, Operand.tmp 83, Operand.tmp 84], argTypes := #[4, 9, 3] }, type := 23, pos := "ref.go:259", after := #[{ on := 1, ground := Ground.data }, { on := 4, ground := Ground.data }, { on := 5, ground := Ground.data }, { on := 4, ground := Ground.chain }], guard := none }) rfl (fun K hK => ?_) AllReadyH.nil
  go_simp
  with_reducible refine (HF.out _).mono ?_
  rintro e y2 ⟨rfl, hb⟩
  have hT2 : (fun W : World => Ex w.heap.size (w.heap.size + 1 + 1) w wd W) y2 := Ex.call hT1 hb
  have HR3e := Lib.hid ((hb.block _ (lt_of_block HR3d.out)).trans HR3d.out)
  try unfold pairV
  refine hK.out _ _ hT2 (fun _ => ?_)
  clear hK K hb HR3d
  try simp only [Act.put, List.setIfInBounds_toArray, List.set_cons_zero, List.set_cons_succ]
  refine wpAnyH_ready (rs := [7]) (by kernel_rfl) (by simp) ?_
  refine AllReadyH.cons (o := { dst := some 86, op := Op.call { callee := Callee.value (Operand.func 30), args := #[Operand.tmp 85], argTypes := #[23] }, type := 26, pos := "ref.go:259", after := #[{ on := 6, ground := Ground.data }, { on := 6, ground := Ground.chain }], guard := none }) rfl (fun K hK => ?_) AllReadyH.nil
  go_simp
  with_reducible refine (HTd.out _).mono ?_
  rintro e y3 ⟨rfl, hb⟩
  have hT3 : (fun W : World => Ex w.heap.size (w.heap.size + 1 + 1) w wd W) y3 := Ex.call hT2 hb
  have HR3f := Lib.hid ((hb.block _ (lt_of_block HR3e.out)).trans HR3e.out)
  try unfold pairV
  refine hK.out _ _ hT3 (fun _ => ?_)
  clear hK K hb HR3e
  refine wpAnyH_take (i := 8) (oi := { dst := some 87, op := Op.extract (Operand.tmp 86) 0, type := 23, pos := "ref.go:259", after := #[{ on := 7, ground := Ground.data }], guard := none }) (v := ?_) rfl (by kernel_rfl) (by kernel_rfl) (by kernel_rfl) (fun _ _ _ h => h) (Or.inl ⟨by rfl, ?_⟩) (by assumption) ?_
  rotate_left
  · intro w hSw
    try dsimp only at hSw
    go_simp
    try with_reducible rfl
  try simp only [Act.put, List.setIfInBounds_toArray, List.set_cons_zero, List.set_cons_succ]
  refine wpAnyH_take (i := 9) (oi := { dst := some 88, op := Op.extract (Operand.tmp 86) 1, type := 25, pos := "ref.go:259", after := #[{ on := 7, ground := Ground.data }], guard := none }) (v := ?_) rfl (by kernel_rfl) (by kernel_rfl) (by kernel_rfl) (fun _ _ _ h => h) (Or.inl ⟨by rfl, ?_⟩) (by assumption) ?_
  rotate_left
  · intro w hSw
    try dsimp only at hSw
    go_simp
    try with_reducible rfl
  try simp only [Act.put, List.setIfInBounds_toArray, List.set_cons_zero, List.set_cons_succ]
  refine wpAnyH_ready (rs := [10]) (by kernel_rfl) (by simp) ?_
  refine AllReadyH.cons (o := { dst := none, op := Op.store 23 (Operand.tmp 4) (Operand.tmp 87), type := 0, pos := "ref.go:259", after := #[{ on := 8, ground := Ground.data }, { on := 7, ground := Ground.chain }, { on := 0, ground := Ground.phase }, { on := 1, ground := Ground.phase }, { on := 2, ground := Ground.phase }, { on := 3, ground := Ground.phase }, { on := 4, ground := Ground.phase }, { on := 5, ground := Ground.phase }, { on := 6, ground := Ground.phase }, { on := 7, ground := Ground.phase }, { on := 8, ground := Ground.phase }, { on := 9, ground := Ground.phase }], guard := none }) rfl (fun K hK => ?_) AllReadyH.nil
  obtain ⟨_, f0, f1, f2⟩ := row3 HR3f.out
  have hS := Ex.put hT3 HR3f.out (by omega) (.bool tn) (.string td) (.int .i64 te)
  have HS1 := Lib.hid hS.2
  have hT9 : (fun W : World => Ex w.heap.size (w.heap.size + 1 + 1) w wd W) _ := hS.1
  clear hS
  go_simp
  refine hK.out _ _ hT9 (fun _ => ?_)
  clear hK K f0 f1 f2 HR3f
  refine wpAnyH_take (i := 11) (oi := { dst := some 5, op := Op.assign (Operand.tmp 88), type := 25, pos := "ref.go:259", after := #[{ on := 9, ground := Ground.data }, { on := 10, ground := Ground.chain }, { on := 0, ground := Ground.phase }, { on := 1, ground := Ground.phase }, { on := 2, ground := Ground.phase }, { on := 3, ground := Ground.phase }, { on := 4, ground := Ground.phase }, { on := 5, ground := Ground.phase }, { on := 6, ground := Ground.phase }, { on := 7, ground := Ground.phase }, { on := 8, ground := Ground.phase }, { on := 9, ground := Ground.phase }, { on := 10, ground := Ground.phase }], guard := none }) (v := ?_) rfl (by kernel_rfl) (by kernel_rfl) (by kernel_rfl) (fun _ _ _ h => h) (Or.inl ⟨by rfl, ?_⟩) (by assumption) ?_
  rotate_left
  · intro w hSw
    try dsimp only at hSw
    go_simp
    try with_reducible rfl
  refine wpAnyH_done (by kernel_rfl) ?_ _
  have HFin := Lib.hid hT9.below
  clear hT0 hT1 hT2 hT3 hT9
  go_wp2_with fail
  refine bodyPost_ret (results_row_tmp rfl _ _ (w.heap.size + 1 + 1) _ _ _ _ rfl HS1.out Tryd.underlying23 rfl (by kernel_rfl)) rfl ⟨rfl, HFin.out⟩
set_option maxRecDepth 100000 in
set_option maxHeartbeats 4000000 in
theorem addr_more (w : World) (n1 n2 : Bool) (d1 d2 : ByteArray) (e1 e2 : Int) (s1 : d1.size ≤ 1000000) (s2 : d2.size ≤ 1000000) (h1 : dsane n1 (unstr d1) e1 = true) (h2 : dsane n2 (unstr d2) e2 = true) (hz1 : ¬ d1.size = 0) (hz2 : ¬ d2.size = 0) (hn : ¬ n1 = n2) (hle : nv (unstr (eqlW ⟨n2, d2, e2⟩ ⟨n1, d1, e1⟩)) ≤ nv (unstr (eqlW ⟨n1, d1, e1⟩ ⟨n2, d2, e2⟩))) (hlt : Op.bytesLess (eqlW ⟨n1, d1, e1⟩ ⟨n2, d2, e2⟩).toList (eqlW ⟨n2, d2, e2⟩ ⟨n1, d1, e1⟩).toList = false) :
    Calls Tryd.prog 12 #[.agg #[.bool n1, .string d1, .int .i64 e1], .agg #[.bool n2, .string d2, .int .i64 e2]] w fun e w' => e = .returned (pairV (sumN ⟨n1, d1, e1⟩ ⟨n2, d2, e2⟩).told) ∧ Below w.heap.size w w' := by
  obtain ⟨k11, k12, k13, u1⟩ := dsane_bounds h1 hz1
  obtain ⟨k21, k22, k23, u2⟩ := dsane_bounds h2 hz2
  obtain ⟨ex, hex⟩ : ∃ ex, ex = min e1 e2 := ⟨_, rfl⟩
  have oa : (⟨n1, d1, e1⟩ : Nm).ok = true := h1
  have ob : (⟨n2, d2, e2⟩ : Nm).ok = true := h2
  have da := eqlW_digs (a := ⟨n1, d1, e1⟩) (b := ⟨n2, d2, e2⟩) u1
  have db := eqlW_digs (a := ⟨n2, d2, e2⟩) (b := ⟨n1, d1, e1⟩) u2
  have sza := eqlW_size ⟨n1, d1, e1⟩ ⟨n2, d2, e2⟩
  have szb := eqlW_size ⟨n2, d2, e2⟩ ⟨n1, d1, e1⟩
  rw [eqlN_comm] at szb
  have XA : eqlB ⟨n1, d1, e1⟩ ⟨n2, d2, e2⟩ = d1 ++ zers (e1 - ex).toNat := by rw [hex]; rfl
  have XB : eqlB ⟨n2, d2, e2⟩ ⟨n1, d1, e1⟩ = d2 ++ zers (e2 - ex).toNat := by
    rw [hex, show min e1 e2 = min e2 e1 by omega]
    rfl
  have cA : ¬ 9223372036854775807 < d1.size + (zers (e1 - ex).toNat).size := by rw [zers_size]; omega
  have cB : ¬ 9223372036854775807 < d2.size + (zers (e2 - ex).toNat).size := by rw [zers_size]; omega
  have eN : eqlN ⟨n1, d1, e1⟩ ⟨n2, d2, e2⟩ = max (d1 ++ zers (e1 - ex).toNat).size (d2 ++ zers (e2 - ex).toNat).size := by unfold eqlN; rw [XA, XB]
  have lA : (d1 ++ zers (e1 - ex).toNat).size ≤ 1000 := by rw [ByteArray.size_append, zers_size]; omega
  have lB : (d2 ++ zers (e2 - ex).toNat).size ≤ 1000 := by rw [ByteArray.size_append, zers_size]; omega
  have hN1 : eqlN ⟨n1, d1, e1⟩ ⟨n2, d2, e2⟩ ≤ 1000 := by rw [eN]; omega
  have HWA := Lib.hid (fun v => wide_ref v (d1 ++ zers (e1 - ex).toNat) (eqlN ⟨n1, d1, e1⟩ ⟨n2, d2, e2⟩) (by omega) (by omega))
  have HWB := Lib.hid (fun v => wide_ref v (d2 ++ zers (e2 - ex).toNat) (eqlN ⟨n1, d1, e1⟩ ⟨n2, d2, e2⟩) (by omega) (by omega))
  rw [show wideB (d1 ++ zers (e1 - ex).toNat) (eqlN ⟨n1, d1, e1⟩ ⟨n2, d2, e2⟩) = eqlW ⟨n1, d1, e1⟩ ⟨n2, d2, e2⟩ by rw [← XA]; rfl] at HWA
  rw [show wideB (d2 ++ zers (e2 - ex).toNat) (eqlN ⟨n1, d1, e1⟩ ⟨n2, d2, e2⟩) = eqlW ⟨n2, d2, e2⟩ ⟨n1, d1, e1⟩ by rw [← XB, eqlN_comm]; rfl] at HWB
  have HZA := Lib.hid (fun v => zeros_ref v (e1 - ex) (by omega) (by omega))
  have HZB := Lib.hid (fun v => zeros_ref v (e2 - ex) (by omega) (by omega))
  have wA : IntKind.i64.wrap (e1 - ex) = e1 - ex := by rw [IntKind.wrap_i64]; omega
  have wB : IntKind.i64.wrap (e2 - ex) = e2 - ex := by rw [IntKind.wrap_i64]; omega
  have hmin : min e1 e2 = ex := hex.symm
  have hmax : max ((d1.size : Int) + ((zers (e1 - ex).toNat).size : Int)) ((d2.size : Int) + ((zers (e2 - ex).toNat).size : Int)) = ((eqlN ⟨n1, d1, e1⟩ ⟨n2, d2, e2⟩ : Nat) : Int) := by rw [eN, ByteArray.size_append, ByteArray.size_append]; omega
  have hv := ref_less oa ob hn hle
  have HP := Lib.hid (fun v => minus_ref v (eqlW ⟨n1, d1, e1⟩ ⟨n2, d2, e2⟩) (eqlW ⟨n2, d2, e2⟩ ⟨n1, d1, e1⟩) da db (szb.trans sza.symm) (by omega))
  have sP := minus_size (a := eqlW ⟨n1, d1, e1⟩ ⟨n2, d2, e2⟩) (b := eqlW ⟨n2, d2, e2⟩ ⟨n1, d1, e1⟩)
  generalize minusB (eqlW ⟨n1, d1, e1⟩ ⟨n2, d2, e2⟩) (eqlW ⟨n2, d2, e2⟩ ⟨n1, d1, e1⟩) = PB at hv HP sP
  have HF := Lib.hid (fun v => form_ref v n1 PB ex (by omega) (by omega) (by omega))
  rw [fmd_eq] at HF
  have hv2 : (⟨fneg n1 PB, fdig PB, fexp PB ex⟩ : Nm) = sumN ⟨n1, d1, e1⟩ ⟨n2, d2, e2⟩ := by
    rw [← hv]
    show fmN n1 PB ex = fmN n1 PB _
    rw [hex]
  generalize fneg n1 PB = en at HF hv2
  generalize hed : fdig PB = ed at HF hv2
  generalize fexp PB ex = ee at HF hv2
  have sE : ed.size ≤ 1000000 := by rw [← hed]; have := fdig_size PB; omega
  have HTd := Lib.hid (fun v => told_ref v en ed ee (by omega))
  rw [hv2] at HTd
  obtain ⟨⟨⟨tn, td, te⟩, tc⟩, htp⟩ : ∃ p, (sumN ⟨n1, d1, e1⟩ ⟨n2, d2, e2⟩).told = p := ⟨_, rfl⟩
  rw [htp] at HTd ⊢
  have dz1 : (((d1.size : Nat) : Int) == 0) = false := beq_eq_false_iff_ne.2 (by omega)
  have dz2 : (((d2.size : Nat) : Int) == 0) = false := beq_eq_false_iff_ne.2 (by omega)
  generalize eqlW ⟨n1, d1, e1⟩ ⟨n2, d2, e2⟩ = WA at *
  generalize eqlW ⟨n2, d2, e2⟩ ⟨n1, d1, e1⟩ = WB at *
  generalize eqlN ⟨n1, d1, e1⟩ ⟨n2, d2, e2⟩ = NN at *
  generalize zers (e1 - ex).toNat = ZA at *
  generalize zers (e2 - ex).toNat = ZB at *
  have dn : (n1 == n2) = false := beq_eq_false_iff_ne.2 hn
  have HLt := Lib.hid hlt
  unfold pairV
  obtain ⟨wa, hwa, r1, r2, r3, hB⟩ := three_rows_at w n1 n2 d1 d2 e1 e2
  have HS1 := Lib.hid (fun v => sane_ref v n1 d1 e1 (by omega))
  have HS2 := Lib.hid (fun v => sane_ref v n2 d2 e2 (by omega))
  have HW := Lib.hid hwa
  have HR1 := Lib.hid r1
  have HR2 := Lib.hid r2
  have HR3 := Lib.hid r3
  have HB := Lib.hid hB
  obtain ⟨⟨x0, x1, x2⟩, _⟩ := row3 r1
  clear hwa r1 r2 r3 hB
  rw [h1] at HS1
  rw [h2] at HS2
  clear h1 h2 hz1 hz2 u1 u2 k11 k12 k13 k21 k22 k23 hex oa ob da db sza szb XA XB eN lA lB hN1 hv hlt hle sP hv2 hed sE htp
  go_enter Tryd.func12, Tryd.ntmps12
  go_upto_region 1 with fail
  rw [← HW.out]
  clear HW
  go_wp2_with fail
  with_reducible refine (HS1.out _).mono ?_
  rintro e w2 ⟨rfl, hb2⟩
  have HT1 := Lib.hid ((hb2.block _ (lt_of_block HR1.out)).trans HR1.out)
  have HT2 := Lib.hid ((hb2.block _ (lt_of_block HR2.out)).trans HR2.out)
  have HT3 := Lib.hid ((hb2.block _ (lt_of_block HR3.out)).trans HR3.out)
  have HK := Lib.hid (HB.out.trans (hb2.mono HB.out.size))
  clear x0 x1 x2 hb2 HR1 HR2 HR3 HB
  obtain ⟨⟨y0, y1, y2⟩, _⟩ := row3 HT2.out
  go_wp2_with fail
  with_reducible refine (HS2.out _).mono ?_
  rintro e w3 ⟨rfl, hb3⟩
  have HR1 := Lib.hid ((hb3.block _ (lt_of_block HT1.out)).trans HT1.out)
  have HR2 := Lib.hid ((hb3.block _ (lt_of_block HT2.out)).trans HT2.out)
  have HR3 := Lib.hid ((hb3.block _ (lt_of_block HT3.out)).trans HT3.out)
  have HB := Lib.hid (HK.out.trans (hb3.mono HK.out.size))
  clear y0 y1 y2 hb3 HT1 HT2 HT3 HK HS1 HS2
  obtain ⟨⟨p0, p1, p2⟩, _⟩ := row3 HR1.out
  obtain ⟨⟨q0, q1, q2⟩, _⟩ := row3 HR2.out
  go_upto_region 8 with fail
  clear p0 p1 p2 q0 q1 q2
  refine wp_region_held_drew (S := (fun W : World => W = w3.drew)) (by kernel_rfl) rfl (fun hHeld => ?_)
  clear hHeld
  have hbd : Below w3.heap.size w3 w3.drew := (Below.refl _ _).drew
  have HBa := Lib.hid (HB.out.trans (hbd.mono HB.out.size))
  have HR1a := Lib.hid ((hbd.block _ (lt_of_block HR1.out)).trans HR1.out)
  have HR2a := Lib.hid ((hbd.block _ (lt_of_block HR2.out)).trans HR2.out)
  have HR3a := Lib.hid ((hbd.block _ (lt_of_block HR3.out)).trans HR3.out)
  clear hbd HB HR1 HR2 HR3
  generalize w3.drew = wda at HBa HR1a HR2a HR3a ⊢
  have hT : (fun W : World => W = wda) wda := rfl
  refine wpAnyH_take (i := 0) (oi := { dst := some 34, op := Op.fieldAddr 23 (Operand.tmp 2) 1, type := 0, pos := "ref.go:250", after := #[], guard := none }) (v := ?_) rfl (by kernel_rfl) (by kernel_rfl) (by kernel_rfl) (fun _ _ _ h => h) (Or.inl ⟨by rfl, ?_⟩) (by assumption) ?_
  rotate_left
  · intro w hSw
    try dsimp only at hSw
    go_simp
    try with_reducible rfl
  try simp only [Act.put, List.setIfInBounds_toArray, List.set_cons_zero, List.set_cons_succ]
  refine wpAnyH_take (i := 1) (oi := { dst := some 35, op := Op.load 9 (Operand.tmp 34), type := 9, pos := "ref.go:250", after := #[{ on := 0, ground := Ground.data }], guard := none }) (v := ?_) rfl (by kernel_rfl) (by kernel_rfl) (by kernel_rfl) (fun _ _ _ h => h) (Or.inl ⟨by rfl, ?_⟩) (by assumption) ?_
  rotate_left
  · intro w hSw
    try dsimp only at hSw
    rw [show w = _ from hSw]
    obtain ⟨⟨c0, c1, c2⟩, _⟩ := row3 HR1a.out
    go_simp
    try with_reducible rfl
  try simp only [Act.put, List.setIfInBounds_toArray, List.set_cons_zero, List.set_cons_succ]
  refine wpAnyH_take (i := 2) (oi := { dst := some 36, op := Op.fieldAddr 23 (Operand.tmp 2) 2, type := 0, pos := "ref.go:250", after := #[], guard := none }) (v := ?_) rfl (by kernel_rfl) (by kernel_rfl) (by kernel_rfl) (fun _ _ _ h => h) (Or.inl ⟨by rfl, ?_⟩) (by assumption) ?_
  rotate_left
  · intro w hSw
    try dsimp only at hSw
    go_simp
    try with_reducible rfl
  try simp only [Act.put, List.setIfInBounds_toArray, List.set_cons_zero, List.set_cons_succ]
  refine wpAnyH_take (i := 3) (oi := { dst := some 37, op := Op.load 3 (Operand.tmp 36), type := 3, pos := "ref.go:250", after := #[{ on := 2, ground := Ground.data }], guard := none }) (v := ?_) rfl (by kernel_rfl) (by kernel_rfl) (by kernel_rfl) (fun _ _ _ h => h) (Or.inl ⟨by rfl, ?_⟩) (by assumption) ?_
  rotate_left
  · intro w hSw
    try dsimp only at hSw
    rw [show w = _ from hSw]
    obtain ⟨⟨c0, c1, c2⟩, _⟩ := row3 HR1a.out
    go_simp
    try with_reducible rfl
  try simp only [Act.put, List.setIfInBounds_toArray, List.set_cons_zero, List.set_cons_succ]
  refine wpAnyH_take (i := 4) (oi := { dst := some 38, op := Op.move (Operand.tmp 6), type := 3, pos := "ref.go:250", after := #[], guard := none }) (v := ?_) rfl (by kernel_rfl) (by kernel_rfl) (by kernel_rfl) (fun _ _ _ h => h) (Or.inl ⟨by rfl, ?_⟩) (by assumption) ?_
  rotate_left
  · intro w hSw
    try dsimp only at hSw
    go_simp
    try with_reducible rfl
  try simp only [Act.put, List.setIfInBounds_toArray, List.set_cons_zero, List.set_cons_succ]
  refine wpAnyH_take (i := 5) (oi := { dst := some 39, op := Op.binOp BinOp.sub 3 (Operand.tmp 37) (Operand.tmp 38) 3, type := 3, pos := "ref.go:250", after := #[{ on := 3, ground := Ground.data }, { on := 4, ground := Ground.data }], guard := none }) (v := ?_) rfl (by kernel_rfl) (by kernel_rfl) (by kernel_rfl) (fun _ _ _ h => h) (Or.inl ⟨by rfl, ?_⟩) (by assumption) ?_
  rotate_left
  · intro w hSw
    try dsimp only at hSw
    go_simp
    try with_reducible rfl
  try simp only [Act.put, List.setIfInBounds_toArray, List.set_cons_zero, List.set_cons_succ]
  refine wpAnyH_ready (rs := [6]) (by kernel_rfl) (by simp) ?_
  refine AllReadyH.cons (o := { dst := some 40, op := Op.call { callee := Callee.value (Operand.func 28), args := #[Operand.tmp 39], argTypes := #[3] }, type := 9, pos := "ref.go:250", after := #[{ on := 5, ground := Ground.data }], guard := none }) rfl (fun K hK => ?_) AllReadyH.nil
  go_simp
  with_reducible refine (HZA.out _).mono ?_
  rintro e wz ⟨rfl, rfl⟩
  refine hK.out _ _ hT (fun _ => ?_)
  clear hK K
  try simp only [Act.put, List.setIfInBounds_toArray, List.set_cons_zero, List.set_cons_succ]
  refine wpAnyH_take (i := 7) (oi := { dst := some 41, op := Op.binOp BinOp.add 9 (Operand.tmp 35) (Operand.tmp 40) 9, type := 9, pos := "ref.go:250", after := #[{ on := 1, ground := Ground.data }, { on := 6, ground := Ground.data }], guard := none }) (v := ?_) rfl (by kernel_rfl) (by kernel_rfl) (by kernel_rfl) (fun _ _ _ h => h) (Or.inl ⟨by rfl, ?_⟩) (by assumption) ?_
  rotate_left
  · intro w hSw
    try dsimp only at hSw
    go_simp
    try with_reducible rfl
  try simp only [Act.put, List.setIfInBounds_toArray, List.set_cons_zero, List.set_cons_succ]
  refine wpAnyH_take (i := 8) (oi := { dst := some 7, op := Op.assign (Operand.tmp 41), type := 9, pos := "ref.go:250", after := #[{ on := 7, ground := Ground.data }, { on := 6, ground := Ground.chain }, { on := 0, ground := Ground.phase }, { on := 1, ground := Ground.phase }, { on := 2, ground := Ground.phase }, { on := 3, ground := Ground.phase }, { on := 4, ground := Ground.phase }, { on := 5, ground := Ground.phase }, { on := 6, ground := Ground.phase }, { on := 7, ground := Ground.phase }], guard := none }) (v := ?_) rfl (by kernel_rfl) (by kernel_rfl) (by kernel_rfl) (fun _ _ _ h => h) (Or.inl ⟨by rfl, ?_⟩) (by assumption) ?_
  rotate_left
  · intro w hSw
    try dsimp only at hSw
    go_simp
    try with_reducible rfl
  try simp only [Act.put, List.setIfInBounds_toArray, List.set_cons_zero, List.set_cons_succ]
  refine wpAnyH_done (by kernel_rfl) ?_ _
  clear hT
  go_upto_region 9 with fail
  refine wp_region_held_drew (S := (fun W : World => W = wz.drew)) (by kernel_rfl) rfl (fun hHeld => ?_)
  clear hHeld
  have hbd : Below wz.heap.size wz wz.drew := (Below.refl _ _).drew
  have HBb := Lib.hid (HBa.out.trans (hbd.mono HBa.out.size))
  have HR1b := Lib.hid ((hbd.block _ (lt_of_block HR1a.out)).trans HR1a.out)
  have HR2b := Lib.hid ((hbd.block _ (lt_of_block HR2a.out)).trans HR2a.out)
  have HR3b := Lib.hid ((hbd.block _ (lt_of_block HR3a.out)).trans HR3a.out)
  clear hbd HBa HR1a HR2a HR3a
  generalize wz.drew = wdb at HBb HR1b HR2b HR3b ⊢
  have hT : (fun W : World => W = wdb) wdb := rfl
  refine wpAnyH_take (i := 0) (oi := { dst := some 42, op := Op.fieldAddr 23 (Operand.tmp 3) 1, type := 0, pos := "ref.go:251", after := #[], guard := none }) (v := ?_) rfl (by kernel_rfl) (by kernel_rfl) (by kernel_rfl) (fun _ _ _ h => h) (Or.inl ⟨by rfl, ?_⟩) (by assumption) ?_
  rotate_left
  · intro w hSw
    try dsimp only at hSw
    go_simp
    try with_reducible rfl
  try simp only [Act.put, List.setIfInBounds_toArray, List.set_cons_zero, List.set_cons_succ]
  refine wpAnyH_take (i := 1) (oi := { dst := some 43, op := Op.load 9 (Operand.tmp 42), type := 9, pos := "ref.go:251", after := #[{ on := 0, ground := Ground.data }], guard := none }) (v := ?_) rfl (by kernel_rfl) (by kernel_rfl) (by kernel_rfl) (fun _ _ _ h => h) (Or.inl ⟨by rfl, ?_⟩) (by assumption) ?_
  rotate_left
  · intro w hSw
    try dsimp only at hSw
    rw [show w = _ from hSw]
    obtain ⟨⟨c0, c1, c2⟩, _⟩ := row3 HR2b.out
    go_simp
    try with_reducible rfl
  try simp only [Act.put, List.setIfInBounds_toArray, List.set_cons_zero, List.set_cons_succ]
  refine wpAnyH_take (i := 2) (oi := { dst := some 44, op := Op.fieldAddr 23 (Operand.tmp 3) 2, type := 0, pos := "ref.go:251", after := #[], guard := none }) (v := ?_) rfl (by kernel_rfl) (by kernel_rfl) (by kernel_rfl) (fun _ _ _ h => h) (Or.inl ⟨by rfl, ?_⟩) (by assumption) ?_
  rotate_left
  · intro w hSw
    try dsimp only at hSw
    go_simp
    try with_reducible rfl
  try simp only [Act.put, List.setIfInBounds_toArray, List.set_cons_zero, List.set_cons_succ]
  refine wpAnyH_take (i := 3) (oi := { dst := some 45, op := Op.load 3 (Operand.tmp 44), type := 3, pos := "ref.go:251", after := #[{ on := 2, ground := Ground.data }], guard := none }) (v := ?_) rfl (by kernel_rfl) (by kernel_rfl) (by kernel_rfl) (fun _ _ _ h => h) (Or.inl ⟨by rfl, ?_⟩) (by assumption) ?_
  rotate_left
  · intro w hSw
    try dsimp only at hSw
    rw [show w = _ from hSw]
    obtain ⟨⟨c0, c1, c2⟩, _⟩ := row3 HR2b.out
    go_simp
    try with_reducible rfl
  try simp only [Act.put, List.setIfInBounds_toArray, List.set_cons_zero, List.set_cons_succ]
  refine wpAnyH_take (i := 4) (oi := { dst := some 46, op := Op.move (Operand.tmp 6), type := 3, pos := "ref.go:251", after := #[], guard := none }) (v := ?_) rfl (by kernel_rfl) (by kernel_rfl) (by kernel_rfl) (fun _ _ _ h => h) (Or.inl ⟨by rfl, ?_⟩) (by assumption) ?_
  rotate_left
  · intro w hSw
    try dsimp only at hSw
    go_simp
    try with_reducible rfl
  try simp only [Act.put, List.setIfInBounds_toArray, List.set_cons_zero, List.set_cons_succ]
  refine wpAnyH_take (i := 5) (oi := { dst := some 47, op := Op.binOp BinOp.sub 3 (Operand.tmp 45) (Operand.tmp 46) 3, type := 3, pos := "ref.go:251", after := #[{ on := 3, ground := Ground.data }, { on := 4, ground := Ground.data }], guard := none }) (v := ?_) rfl (by kernel_rfl) (by kernel_rfl) (by kernel_rfl) (fun _ _ _ h => h) (Or.inl ⟨by rfl, ?_⟩) (by assumption) ?_
  rotate_left
  · intro w hSw
    try dsimp only at hSw
    go_simp
    try with_reducible rfl
  try simp only [Act.put, List.setIfInBounds_toArray, List.set_cons_zero, List.set_cons_succ]
  refine wpAnyH_ready (rs := [6]) (by kernel_rfl) (by simp) ?_
  refine AllReadyH.cons (o := { dst := some 48, op := Op.call { callee := Callee.value (Operand.func 28), args := #[Operand.tmp 47], argTypes := #[3] }, type := 9, pos := "ref.go:251", after := #[{ on := 5, ground := Ground.data }], guard := none }) rfl (fun K hK => ?_) AllReadyH.nil
  go_simp
  with_reducible refine (HZB.out _).mono ?_
  rintro e wy ⟨rfl, rfl⟩
  refine hK.out _ _ hT (fun _ => ?_)
  clear hK K
  try simp only [Act.put, List.setIfInBounds_toArray, List.set_cons_zero, List.set_cons_succ]
  refine wpAnyH_take (i := 7) (oi := { dst := some 49, op := Op.binOp BinOp.add 9 (Operand.tmp 43) (Operand.tmp 48) 9, type := 9, pos := "ref.go:251", after := #[{ on := 1, ground := Ground.data }, { on := 6, ground := Ground.data }], guard := none }) (v := ?_) rfl (by kernel_rfl) (by kernel_rfl) (by kernel_rfl) (fun _ _ _ h => h) (Or.inl ⟨by rfl, ?_⟩) (by assumption) ?_
  rotate_left
  · intro w hSw
    try dsimp only at hSw
    go_simp
    try with_reducible rfl
  try simp only [Act.put, List.setIfInBounds_toArray, List.set_cons_zero, List.set_cons_succ]
  refine wpAnyH_take (i := 8) (oi := { dst := some 8, op := Op.assign (Operand.tmp 49), type := 9, pos := "ref.go:251", after := #[{ on := 7, ground := Ground.data }, { on := 6, ground := Ground.chain }, { on := 0, ground := Ground.phase }, { on := 1, ground := Ground.phase }, { on := 2, ground := Ground.phase }, { on := 3, ground := Ground.phase }, { on := 4, ground := Ground.phase }, { on := 5, ground := Ground.phase }, { on := 6, ground := Ground.phase }, { on := 7, ground := Ground.phase }], guard := none }) (v := ?_) rfl (by kernel_rfl) (by kernel_rfl) (by kernel_rfl) (fun _ _ _ h => h) (Or.inl ⟨by rfl, ?_⟩) (by assumption) ?_
  rotate_left
  · intro w hSw
    try dsimp only at hSw
    go_simp
    try with_reducible rfl
  try simp only [Act.put, List.setIfInBounds_toArray, List.set_cons_zero, List.set_cons_succ]
  refine wpAnyH_done (by kernel_rfl) ?_ _
  clear hT
  go_wp2_with fail
  with_reducible refine (HWA.out _).mono ?_
  rintro e wx ⟨rfl, rfl⟩
  go_wp2_with fail
  with_reducible refine (HWB.out _).mono ?_
  rintro e wv ⟨rfl, rfl⟩
  obtain ⟨⟨p0, p1, p2⟩, _⟩ := row3 HR1b.out
  obtain ⟨⟨q0, q1, q2⟩, _⟩ := row3 HR2b.out
  have hlt := HLt.out
  go_upto_region 17 with fail
  clear p0 p1 p2 q0 q1 q2
  have hbd : Below wv.heap.size wv wv.drew := (Below.refl _ _).drew
  have HBc := Lib.hid (HBb.out.trans (hbd.mono HBb.out.size))
  have HR1c := Lib.hid ((hbd.block _ (lt_of_block HR1b.out)).trans HR1b.out)
  have HR2c := Lib.hid ((hbd.block _ (lt_of_block HR2b.out)).trans HR2b.out)
  have HR3c := Lib.hid ((hbd.block _ (lt_of_block HR3b.out)).trans HR3b.out)
  have hT0 : (fun W : World => Ex w.heap.size (w.heap.size + 1 + 1) w wv.drew W) wv.drew := Ex.start HBc.out
  clear hbd HBb HR1b HR2b HR3b
  refine wp_region_held_drew (S := (fun W : World => Ex w.heap.size (w.heap.size + 1 + 1) w wv.drew W)) (by kernel_rfl) hT0 (fun hHeld => ?_)
  clear hHeld
  generalize wv.drew = wd at HBc HR1c HR2c HR3c hT0 ⊢
  refine wpAnyH_take (i := 0) (oi := { dst := some 89, op := Op.fieldAddr 23 (Operand.tmp 2) 0, type := 0, pos := "ref.go:261", after := #[], guard := none }) (v := ?_) rfl (by kernel_rfl) (by kernel_rfl) (by kernel_rfl) (fun _ _ _ h => h) (Or.inl ⟨by rfl, ?_⟩) (by assumption) ?_
  rotate_left
  · intro w hSw
    try dsimp only at hSw
    go_simp
    try with_reducible rfl
  try simp only [Act.put, List.setIfInBounds_toArray, List.set_cons_zero, List.set_cons_succ]
  refine wpAnyH_take (i := 1) (oi := { dst := some 90, op := Op.load 4 (Operand.tmp 89), type := 4, pos := "ref.go:261", after := #[{ on := 0, ground := Ground.data }], guard := none }) (v := ?_) rfl (by kernel_rfl) (by kernel_rfl) (by kernel_rfl) (fun _ _ _ h => h) (Or.inl ⟨by rfl, ?_⟩) (by assumption) ?_
  rotate_left
  · intro w hSw
    try dsimp only at hSw
    obtain ⟨⟨c0, c1, c2⟩, _⟩ := row3 ((hSw.old _ (lt_of_block HR1c.out) (by omega)).trans HR1c.out)
    go_simp
    try with_reducible rfl
  try simp only [Act.put, List.setIfInBounds_toArray, List.set_cons_zero, List.set_cons_succ]
  refine wpAnyH_take (i := 2) (oi := { dst := some 91, op := Op.move (Operand.tmp 7), type := 9, pos := "ref.go:261", after := #[], guard := none }) (v := ?_) rfl (by kernel_rfl) (by kernel_rfl) (by kernel_rfl) (fun _ _ _ h => h) (Or.inl ⟨by rfl, ?_⟩) (by assumption) ?_
  rotate_left
  · intro w hSw
    try dsimp only at hSw
    go_simp
    try with_reducible rfl
  try simp only [Act.put, List.setIfInBounds_toArray, List.set_cons_zero, List.set_cons_succ]
  refine wpAnyH_take (i := 3) (oi := { dst := some 92, op := Op.move (Operand.tmp 8), type := 9, pos := "ref.go:261", after := #[], guard := none }) (v := ?_) rfl (by kernel_rfl) (by kernel_rfl) (by kernel_rfl) (fun _ _ _ h => h) (Or.inl ⟨by rfl, ?_⟩) (by assumption) ?_
  rotate_left
  · intro w hSw
    try dsimp only at hSw
    go_simp
    try with_reducible rfl
  try simp only [Act.put, List.setIfInBounds_toArray, List.set_cons_zero, List.set_cons_succ]
  refine wpAnyH_take (i := 5) (oi := { dst := some 94, op := Op.move (Operand.tmp 6), type := 3, pos := "ref.go:261", after := #[], guard := none }) (v := ?_) rfl (by kernel_rfl) (by kernel_rfl) (by kernel_rfl) (fun _ _ _ h => h) (Or.inl ⟨by rfl, ?_⟩) (by assumption) ?_
  rotate_left
  · intro w hSw
    try dsimp only at hSw
    go_simp
    try with_reducible rfl
  try simp only [Act.put, List.setIfInBounds_toArray, List.set_cons_zero, List.set_cons_succ]
  refine wpAnyH_ready (rs := [4]) (by kernel_rfl) (by simp) ?_
  refine AllReadyH.cons (o := { dst := some 93, op := Op.call { callee := Callee.value (Operand.func 33), args := #[Operand.tmp 91, Operand.tmp 92], argTypes := #[9, 9] }, type := 9, pos := "ref.go:261", after := #[{ on := 2, ground := Ground.data }, { on := 3, ground := Ground.data }], guard := none }) rfl (fun K hK => ?_) AllReadyH.nil
  go_simp
  with_reducible refine (HP.out _).mono ?_
  rintro e y1 ⟨rfl, hb⟩
  have hT1 : (fun W : World => Ex w.heap.size (w.heap.size + 1 + 1) w wd W) y1 := Ex.call hT0 hb
  have HR3d := Lib.hid ((hb.block _ (lt_of_block HR3c.out)).trans HR3c.out)
  try unfold pairV
  refine hK.out _ _ hT1 (fun _ => ?_)
  clear hK K hb HR3c
  try simp only [Act.put, List.setIfInBounds_toArray, List.set_cons_zero, List.set_cons_succ]
  refine wpAnyH_ready (rs := [6]) (by kernel_rfl) (by simp) ?_
  refine AllReadyH.cons (o := { dst := some 95, op := Op.call { callee := Callee.value (Operand.func 31), args := #[Operand.tmp 90, Operand.tmp 93, Operand.tmp 94], argTypes := #[4, 9, 3] }, type := 23, pos := "ref.go:261", after := #[{ on := 1, ground := Ground.data }, { on := 4, ground := Ground.data }, { on := 5, ground := Ground.data }, { on := 4, ground := Ground.chain }], guard := none }) rfl (fun K hK => ?_) AllReadyH.nil
  go_simp
  with_reducible refine (HF.out _).mono ?_
  rintro e y2 ⟨rfl, hb⟩
  have hT2 : (fun W : World => Ex w.heap.size (w.heap.size + 1 + 1) w wd W) y2 := Ex.call hT1 hb
  have HR3e := Lib.hid ((hb.block _ (lt_of_block HR3d.out)).trans HR3d.out)
  try unfold pairV
  refine hK.out _ _ hT2 (fun _ => ?_)
  clear hK K hb HR3d
  try simp only [Act.put, List.setIfInBounds_toArray, List.set_cons_zero, List.set_cons_succ]
  refine wpAnyH_ready (rs := [7]) (by kernel_rfl) (by simp) ?_
  refine AllReadyH.cons (o := { dst := some 96, op := Op.call { callee := Callee.value (Operand.func 30), args := #[Operand.tmp 95], argTypes := #[23] }, type := 26, pos := "ref.go:261", after := #[{ on := 6, ground := Ground.data }, { on := 6, ground := Ground.chain }], guard := none }) rfl (fun K hK => ?_) AllReadyH.nil
  go_simp
  with_reducible refine (HTd.out _).mono ?_
  rintro e y3 ⟨rfl, hb⟩
  have hT3 : (fun W : World => Ex w.heap.size (w.heap.size + 1 + 1) w wd W) y3 := Ex.call hT2 hb
  have HR3f := Lib.hid ((hb.block _ (lt_of_block HR3e.out)).trans HR3e.out)
  try unfold pairV
  refine hK.out _ _ hT3 (fun _ => ?_)
  clear hK K hb HR3e
  refine wpAnyH_take (i := 8) (oi := { dst := some 97, op := Op.extract (Operand.tmp 96) 0, type := 23, pos := "ref.go:261", after := #[{ on := 7, ground := Ground.data }], guard := none }) (v := ?_) rfl (by kernel_rfl) (by kernel_rfl) (by kernel_rfl) (fun _ _ _ h => h) (Or.inl ⟨by rfl, ?_⟩) (by assumption) ?_
  rotate_left
  · intro w hSw
    try dsimp only at hSw
    go_simp
    try with_reducible rfl
  try simp only [Act.put, List.setIfInBounds_toArray, List.set_cons_zero, List.set_cons_succ]
  refine wpAnyH_take (i := 9) (oi := { dst := some 98, op := Op.extract (Operand.tmp 96) 1, type := 25, pos := "ref.go:261", after := #[{ on := 7, ground := Ground.data }], guard := none }) (v := ?_) rfl (by kernel_rfl) (by kernel_rfl) (by kernel_rfl) (fun _ _ _ h => h) (Or.inl ⟨by rfl, ?_⟩) (by assumption) ?_
  rotate_left
  · intro w hSw
    try dsimp only at hSw
    go_simp
    try with_reducible rfl
  try simp only [Act.put, List.setIfInBounds_toArray, List.set_cons_zero, List.set_cons_succ]
  refine wpAnyH_ready (rs := [10]) (by kernel_rfl) (by simp) ?_
  refine AllReadyH.cons (o := { dst := none, op := Op.store 23 (Operand.tmp 4) (Operand.tmp 97), type := 0, pos := "ref.go:261", after := #[{ on := 8, ground := Ground.data }, { on := 7, ground := Ground.chain }, { on := 0, ground := Ground.phase }, { on := 1, ground := Ground.phase }, { on := 2, ground := Ground.phase }, { on := 3, ground := Ground.phase }, { on := 4, ground := Ground.phase }, { on := 5, ground := Ground.phase }, { on := 6, ground := Ground.phase }, { on := 7, ground := Ground.phase }, { on := 8, ground := Ground.phase }, { on := 9, ground := Ground.phase }], guard := none }) rfl (fun K hK => ?_) AllReadyH.nil
  obtain ⟨_, f0, f1, f2⟩ := row3 HR3f.out
  have hS := Ex.put hT3 HR3f.out (by omega) (.bool tn) (.string td) (.int .i64 te)
  have HS1 := Lib.hid hS.2
  have hT9 : (fun W : World => Ex w.heap.size (w.heap.size + 1 + 1) w wd W) _ := hS.1
  clear hS
  go_simp
  refine hK.out _ _ hT9 (fun _ => ?_)
  clear hK K f0 f1 f2 HR3f
  refine wpAnyH_take (i := 11) (oi := { dst := some 5, op := Op.assign (Operand.tmp 98), type := 25, pos := "ref.go:261", after := #[{ on := 9, ground := Ground.data }, { on := 10, ground := Ground.chain }, { on := 0, ground := Ground.phase }, { on := 1, ground := Ground.phase }, { on := 2, ground := Ground.phase }, { on := 3, ground := Ground.phase }, { on := 4, ground := Ground.phase }, { on := 5, ground := Ground.phase }, { on := 6, ground := Ground.phase }, { on := 7, ground := Ground.phase }, { on := 8, ground := Ground.phase }, { on := 9, ground := Ground.phase }, { on := 10, ground := Ground.phase }], guard := none }) (v := ?_) rfl (by kernel_rfl) (by kernel_rfl) (by kernel_rfl) (fun _ _ _ h => h) (Or.inl ⟨by rfl, ?_⟩) (by assumption) ?_
  rotate_left
  · intro w hSw
    try dsimp only at hSw
    go_simp
    try with_reducible rfl
  refine wpAnyH_done (by kernel_rfl) ?_ _
  have HFin := Lib.hid hT9.below
  clear hT0 hT1 hT2 hT3 hT9
  go_wp2_with fail
  refine bodyPost_ret (results_row_tmp rfl _ _ (w.heap.size + 1 + 1) _ _ _ _ rfl HS1.out Tryd.underlying23 rfl (by kernel_rfl)) rfl ⟨rfl, HFin.out⟩
end Go.Proofs.YtpnhgggdjlglnaaDoor.dk
