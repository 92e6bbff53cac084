/- Add. -/
import Derived.Test.YtpnhgggdjlglnaaDoorX3
namespace Go.Proofs.YtpnhgggdjlglnaaDoor.dk
open Go.PlainAid Go.ChangeShapes Go.WideShapes Go.ChangeAt Go.RowKit

/-- A number: its sign, its digits, its exponent. -/
structure Nm where
  neg : Bool
  dg : ByteArray
  ex : Int
def Nm.v (d : Nm) : Value := .agg #[.bool d.neg, .string d.dg, .int .i64 d.ex]
def Nm.ok (d : Nm) : Bool := dsane d.neg (unstr d.dg) d.ex
def Nm.zero : Nm := ⟨false, ⟨#[]⟩, 0⟩
def fmN (neg : Bool) (s : ByteArray) (ex : Int) : Nm := ⟨fneg neg s, fdig s, fexp s ex⟩
/-- A number that may be, or ErrLimit. -/
def toldN (x : Nm) : Value := if x.ok then .tuple #[x.v, .int .i64 0] else .tuple #[Nm.zero.v, .int .i64 4]
def mgN (a b : Nm) (t : Int) : Nm := fmN a.neg (strOf (mdig a.dg b.dg a.ex b.ex t)) (min a.ex b.ex)
def sumN (a b : Nm) : Nm :=
  if a.dg.size = 0 then b else if b.dg.size = 0 then a else if a.neg = b.neg then mgN a b 1 else
  if lgr a.dg b.dg a.ex b.ex < 0 then mgN b a (-1) else mgN a b (-1)
def addV (a b : Nm) : Value := if a.ok = true ∧ b.ok = true then toldN (sumN a b) else .tuple #[Nm.zero.v, .int .i64 1]
theorem toldN_ok {x : Nm} (h : x.ok = true) : toldN x = .tuple #[x.v, .int .i64 0] := by
  unfold toldN
  rw [if_pos h]
theorem fdig_size (s : ByteArray) : (fdig s).size ≤ s.size := by
  unfold fdig
  have h1 := fln_le s
  have h2 := fsh_le s
  split
  · exact Nat.zero_le _
  · omega
/-- Two numbers and a place for the answer lie where a function of two keeps them. -/
theorem three_rows_at (w : World) (n1 n2 : Bool) (d1 d2 : ByteArray) (e1 e2 : Int) : ∃ wa, wa = ((w.alloc (.cells #[.bool n1, .string d1, .int .i64 e1] 23)).alloc (.cells #[.bool n2, .string d2, .int .i64 e2] 23)).alloc (.cells #[.bool false, .string ⟨#[]⟩, .int .i64 0] 23) ∧
    wa.heap[w.heap.size]? = some (.cells #[.bool n1, .string d1, .int .i64 e1] 23 (0, 0)) ∧ wa.heap[w.heap.size + 1]? = some (.cells #[.bool n2, .string d2, .int .i64 e2] 23 (0, 0)) ∧ wa.heap[w.heap.size + 1 + 1]? = some (.cells #[.bool false, .string ⟨#[]⟩, .int .i64 0] 23 (0, 0)) ∧ Below w.heap.size w wa := by
  obtain ⟨wb, hwb, r1, r2, hB⟩ := two_rows_at w n1 n2 d1 d2 e1 e2
  have hs : wb.heap.size = w.heap.size + 1 + 1 := by rw [hwb, World.size_alloc, World.size_alloc]
  rw [← hwb]
  refine ⟨_, rfl, alloc_old _ r1, alloc_old _ r2, ?_, hB.alloc hB.size _⟩
  rw [← hs]
  exact heap_alloc_new _ _
/-- Both rows as they would be with the two numbers changed for one another. -/
theorem swapped {W W0 : World} {A B : Nat} {t : TypeId} {a0 a1 a2 b0 b1 b2 : Value} (h1 : W.heap[A]? = some (.cells #[a0, a1, a2] t (0, 0))) (h2 : W.heap[A + 1]? = some (.cells #[b0, b1, b2] t (0, 0))) {o : Obj} (h3 : W.heap[A + 1 + 1]? = some o) (hB : B ≤ A) (hb : Below B W0 W) :
    ∃ V, V = ((((((W.setCell ⟨A, 0, none⟩ b0).setCell ⟨A, 1, none⟩ b1).setCell ⟨A, 2, none⟩ b2).setCell ⟨A + 1, 0, none⟩ a0).setCell ⟨A + 1, 1, none⟩ a1).setCell ⟨A + 1, 2, none⟩ a2) ∧
      V.heap[A]? = some (.cells #[b0, b1, b2] t (0, 0)) ∧ V.heap[A + 1]? = some (.cells #[a0, a1, a2] t (0, 0)) ∧ V.heap[A + 1 + 1]? = some o ∧ Below B W0 V := by
  obtain ⟨k1, k2⟩ := set3 (v0 := b0) (v1 := b1) (v2 := b2) h1 hB hb
  have old : ∀ (k : Nat), k ≠ A → (((W.setCell ⟨A, 0, none⟩ b0).setCell ⟨A, 1, none⟩ b1).setCell ⟨A, 2, none⟩ b2).heap[k]? = W.heap[k]? := fun k hk =>
    (Below.heap_setCell _ _ _ _ hk).trans ((Below.heap_setCell _ _ _ _ hk).trans (Below.heap_setCell _ _ _ _ hk))
  have j2 := (old (A + 1) (by omega)).trans h2
  have j3 := (old (A + 1 + 1) (by omega)).trans h3
  obtain ⟨m1, m2⟩ := set3 (v0 := a0) (v1 := a1) (v2 := a2) j2 (Nat.le_succ_of_le hB) k2
  refine ⟨_, rfl, ?_, m1, ?_, m2⟩
  · exact (Below.heap_setCell _ _ _ _ (by show A ≠ A + 1; omega)).trans ((Below.heap_setCell _ _ _ _ (by show A ≠ A + 1; omega)).trans ((Below.heap_setCell _ _ _ _ (by show A ≠ A + 1; omega)).trans k1))
  · exact (Below.heap_setCell _ _ _ _ (by show A + 1 + 1 ≠ A + 1; omega)).trans ((Below.heap_setCell _ _ _ _ (by show A + 1 + 1 ≠ A + 1; omega)).trans ((Below.heap_setCell _ _ _ _ (by show A + 1 + 1 ≠ A + 1; omega)).trans j3))
set_option maxRecDepth 100000 in
set_option maxHeartbeats 2000000 in
theorem Add_bad1 (w : World) (n1 n2 : Bool) (d1 d2 : ByteArray) (e1 e2 : Int) (s1 : d1.size ≤ 1000000) (s2 : d2.size ≤ 1000000) (h1 : dsane n1 (unstr d1) e1 = false) :
    Calls Tryd.prog 11 #[.agg #[.bool n1, .string d1, .int .i64 e1], .agg #[.bool n2, .string d2, .int .i64 e2]] w fun e w' => e = .returned (.tuple #[Nm.zero.v, .int .i64 1]) ∧ Below w.heap.size w w' := by
  obtain ⟨wa, hwa, r1, r2, r3, hB⟩ := three_rows_at w n1 n2 d1 d2 e1 e2
  have HS1 := Lib.hid (fun v => Sane_any v n1 d1 e1 (by omega))
  have HS2 := Lib.hid (fun v => Sane_any v n2 d2 e2 (by omega))
  have HW := Lib.hid hwa
  have HR1 := Lib.hid r1
  have HR2 := Lib.hid r2
  have HR3 := Lib.hid r3
  have HB := Lib.hid hB
  obtain ⟨⟨x0, x1, x2⟩, _⟩ := row3 r1
  clear hwa r1 r2 r3 hB
  rw [h1] at HS1
  clear h1
  go_enter Tryd.func11, Tryd.ntmps11
  go_upto_region 1 with fail
  rw [← HW.out]
  clear HW
  go_wp2_with fail
  with_reducible refine (HS1.out _).mono ?_
  rintro e w2 ⟨rfl, hb2⟩
  have HT1 := Lib.hid ((hb2.block _ (lt_of_block HR1.out)).trans HR1.out)
  have HT2 := Lib.hid ((hb2.block _ (lt_of_block HR2.out)).trans HR2.out)
  have HT3 := Lib.hid ((hb2.block _ (lt_of_block HR3.out)).trans HR3.out)
  have HK := Lib.hid (HB.out.trans (hb2.mono HB.out.size))
  clear x0 x1 x2 hb2 HR1 HR2 HR3 HB
  obtain ⟨⟨z0, z1, z2⟩, f0, f1, f2⟩ := row3 HT3.out
  have hS := set3 (v0 := (.bool false)) (v1 := (.string ⟨#[]⟩)) (v2 := (.int .i64 0)) HT3.out (by omega) HK.out
  have HS := Lib.hid hS
  clear hS HT3 HK
  go_wp2_with fail
  refine bodyPost_ret (results_row_tmp rfl _ _ (w.heap.size + 1 + 1) _ _ _ _ rfl HS.out.1 Tryd.underlying23 rfl (by kernel_rfl)) rfl ⟨rfl, HS.out.2⟩
set_option maxRecDepth 100000 in
set_option maxHeartbeats 2000000 in
theorem Add_bad2 (w : World) (n1 n2 : Bool) (d1 d2 : ByteArray) (e1 e2 : Int) (s1 : d1.size ≤ 1000000) (s2 : d2.size ≤ 1000000) (h1 : dsane n1 (unstr d1) e1 = true) (h2 : dsane n2 (unstr d2) e2 = false) :
    Calls Tryd.prog 11 #[.agg #[.bool n1, .string d1, .int .i64 e1], .agg #[.bool n2, .string d2, .int .i64 e2]] w fun e w' => e = .returned (.tuple #[Nm.zero.v, .int .i64 1]) ∧ Below w.heap.size w w' := by
  obtain ⟨wa, hwa, r1, r2, r3, hB⟩ := three_rows_at w n1 n2 d1 d2 e1 e2
  have HS1 := Lib.hid (fun v => Sane_any v n1 d1 e1 (by omega))
  have HS2 := Lib.hid (fun v => Sane_any v n2 d2 e2 (by omega))
  have HW := Lib.hid hwa
  have HR1 := Lib.hid r1
  have HR2 := Lib.hid r2
  have HR3 := Lib.hid r3
  have HB := Lib.hid hB
  obtain ⟨⟨x0, x1, x2⟩, _⟩ := row3 r1
  clear hwa r1 r2 r3 hB
  rw [h1] at HS1
  rw [h2] at HS2
  clear h1 h2
  go_enter Tryd.func11, Tryd.ntmps11
  go_upto_region 1 with fail
  rw [← HW.out]
  clear HW
  go_wp2_with fail
  with_reducible refine (HS1.out _).mono ?_
  rintro e w2 ⟨rfl, hb2⟩
  have HT1 := Lib.hid ((hb2.block _ (lt_of_block HR1.out)).trans HR1.out)
  have HT2 := Lib.hid ((hb2.block _ (lt_of_block HR2.out)).trans HR2.out)
  have HT3 := Lib.hid ((hb2.block _ (lt_of_block HR3.out)).trans HR3.out)
  have HK := Lib.hid (HB.out.trans (hb2.mono HB.out.size))
  clear x0 x1 x2 hb2 HR1 HR2 HR3 HB
  obtain ⟨⟨y0, y1, y2⟩, _⟩ := row3 HT2.out
  go_wp2_with fail
  with_reducible refine (HS2.out _).mono ?_
  rintro e w3 ⟨rfl, hb3⟩
  have HR1 := Lib.hid ((hb3.block _ (lt_of_block HT1.out)).trans HT1.out)
  have HR2 := Lib.hid ((hb3.block _ (lt_of_block HT2.out)).trans HT2.out)
  have HR3 := Lib.hid ((hb3.block _ (lt_of_block HT3.out)).trans HT3.out)
  have HB := Lib.hid (HK.out.trans (hb3.mono HK.out.size))
  clear y0 y1 y2 hb3 HT1 HT2 HT3 HK HS1 HS2
  obtain ⟨⟨z0, z1, z2⟩, f0, f1, f2⟩ := row3 HR3.out
  have hS := set3 (v0 := (.bool false)) (v1 := (.string ⟨#[]⟩)) (v2 := (.int .i64 0)) HR3.out (by omega) HB.out
  have HS := Lib.hid hS
  clear hS HR3 HB
  go_wp2_with fail
  refine bodyPost_ret (results_row_tmp rfl _ _ (w.heap.size + 1 + 1) _ _ _ _ rfl HS.out.1 Tryd.underlying23 rfl (by kernel_rfl)) rfl ⟨rfl, HS.out.2⟩
set_option maxRecDepth 100000 in
set_option maxHeartbeats 2000000 in
theorem Add_zero1 (w : World) (n1 n2 : Bool) (d1 d2 : ByteArray) (e1 e2 : Int) (s1 : d1.size ≤ 1000000) (s2 : d2.size ≤ 1000000) (h1 : dsane n1 (unstr d1) e1 = true) (h2 : dsane n2 (unstr d2) e2 = true) (hz : d1.size = 0) :
    Calls Tryd.prog 11 #[.agg #[.bool n1, .string d1, .int .i64 e1], .agg #[.bool n2, .string d2, .int .i64 e2]] w fun e w' => e = .returned (.tuple #[.agg #[.bool n2, .string d2, .int .i64 e2], .int .i64 0]) ∧ Below w.heap.size w w' := by
  obtain rfl := ba_nil hz
  obtain ⟨wa, hwa, r1, r2, r3, hB⟩ := three_rows_at w n1 n2 ⟨#[]⟩ d2 e1 e2
  have HS1 := Lib.hid (fun v => Sane_any v n1 ⟨#[]⟩ e1 (by omega))
  have HS2 := Lib.hid (fun v => Sane_any v n2 d2 e2 (by omega))
  have HW := Lib.hid hwa
  have HR1 := Lib.hid r1
  have HR2 := Lib.hid r2
  have HR3 := Lib.hid r3
  have HB := Lib.hid hB
  obtain ⟨⟨x0, x1, x2⟩, _⟩ := row3 r1
  clear hwa r1 r2 r3 hB
  rw [h1] at HS1
  rw [h2] at HS2
  clear h1 h2 hz
  go_enter Tryd.func11, Tryd.ntmps11
  go_upto_region 1 with fail
  rw [← HW.out]
  clear HW
  go_wp2_with fail
  with_reducible refine (HS1.out _).mono ?_
  rintro e w2 ⟨rfl, hb2⟩
  have HT1 := Lib.hid ((hb2.block _ (lt_of_block HR1.out)).trans HR1.out)
  have HT2 := Lib.hid ((hb2.block _ (lt_of_block HR2.out)).trans HR2.out)
  have HT3 := Lib.hid ((hb2.block _ (lt_of_block HR3.out)).trans HR3.out)
  have HK := Lib.hid (HB.out.trans (hb2.mono HB.out.size))
  clear x0 x1 x2 hb2 HR1 HR2 HR3 HB
  obtain ⟨⟨y0, y1, y2⟩, _⟩ := row3 HT2.out
  go_wp2_with fail
  with_reducible refine (HS2.out _).mono ?_
  rintro e w3 ⟨rfl, hb3⟩
  have HR1 := Lib.hid ((hb3.block _ (lt_of_block HT1.out)).trans HT1.out)
  have HR2 := Lib.hid ((hb3.block _ (lt_of_block HT2.out)).trans HT2.out)
  have HR3 := Lib.hid ((hb3.block _ (lt_of_block HT3.out)).trans HT3.out)
  have HB := Lib.hid (HK.out.trans (hb3.mono HK.out.size))
  clear y0 y1 y2 hb3 HT1 HT2 HT3 HK HS1 HS2
  obtain ⟨⟨p0, p1, p2⟩, _⟩ := row3 HR1.out
  obtain ⟨⟨q0, q1, q2⟩, _⟩ := row3 HR2.out
  obtain ⟨⟨z0, z1, z2⟩, f0, f1, f2⟩ := row3 HR3.out
  have hS := set3 (v0 := .bool n2) (v1 := .string d2) (v2 := .int .i64 e2) HR3.out (by omega) HB.out
  have HS := Lib.hid hS
  clear hS HR3 HB
  go_wp2_with fail
  refine bodyPost_ret (results_row_tmp rfl _ _ (w.heap.size + 1 + 1) _ _ _ _ rfl HS.out.1 Tryd.underlying23 rfl (by kernel_rfl)) rfl ⟨rfl, HS.out.2⟩
set_option maxRecDepth 100000 in
set_option maxHeartbeats 2000000 in
theorem Add_zero2 (w : World) (n1 n2 : Bool) (d1 d2 : ByteArray) (e1 e2 : Int) (s1 : d1.size ≤ 1000000) (s2 : d2.size ≤ 1000000) (h1 : dsane n1 (unstr d1) e1 = true) (h2 : dsane n2 (unstr d2) e2 = true) (hz1 : ¬ d1.size = 0) (hz : d2.size = 0) :
    Calls Tryd.prog 11 #[.agg #[.bool n1, .string d1, .int .i64 e1], .agg #[.bool n2, .string d2, .int .i64 e2]] w fun e w' => e = .returned (.tuple #[.agg #[.bool n1, .string d1, .int .i64 e1], .int .i64 0]) ∧ Below w.heap.size w w' := by
  obtain rfl := ba_nil hz
  have dz := ba_full hz1
  obtain ⟨wa, hwa, r1, r2, r3, hB⟩ := three_rows_at w n1 n2 d1 ⟨#[]⟩ e1 e2
  have HS1 := Lib.hid (fun v => Sane_any v n1 d1 e1 (by omega))
  have HS2 := Lib.hid (fun v => Sane_any v n2 ⟨#[]⟩ e2 (by omega))
  have HW := Lib.hid hwa
  have HR1 := Lib.hid r1
  have HR2 := Lib.hid r2
  have HR3 := Lib.hid r3
  have HB := Lib.hid hB
  obtain ⟨⟨x0, x1, x2⟩, _⟩ := row3 r1
  clear hwa r1 r2 r3 hB
  rw [h1] at HS1
  rw [h2] at HS2
  clear h1 h2 hz hz1
  go_enter Tryd.func11, Tryd.ntmps11
  go_upto_region 1 with fail
  rw [← HW.out]
  clear HW
  go_wp2_with fail
  with_reducible refine (HS1.out _).mono ?_
  rintro e w2 ⟨rfl, hb2⟩
  have HT1 := Lib.hid ((hb2.block _ (lt_of_block HR1.out)).trans HR1.out)
  have HT2 := Lib.hid ((hb2.block _ (lt_of_block HR2.out)).trans HR2.out)
  have HT3 := Lib.hid ((hb2.block _ (lt_of_block HR3.out)).trans HR3.out)
  have HK := Lib.hid (HB.out.trans (hb2.mono HB.out.size))
  clear x0 x1 x2 hb2 HR1 HR2 HR3 HB
  obtain ⟨⟨y0, y1, y2⟩, _⟩ := row3 HT2.out
  go_wp2_with fail
  with_reducible refine (HS2.out _).mono ?_
  rintro e w3 ⟨rfl, hb3⟩
  have HR1 := Lib.hid ((hb3.block _ (lt_of_block HT1.out)).trans HT1.out)
  have HR2 := Lib.hid ((hb3.block _ (lt_of_block HT2.out)).trans HT2.out)
  have HR3 := Lib.hid ((hb3.block _ (lt_of_block HT3.out)).trans HT3.out)
  have HB := Lib.hid (HK.out.trans (hb3.mono HK.out.size))
  clear y0 y1 y2 hb3 HT1 HT2 HT3 HK HS1 HS2
  obtain ⟨⟨p0, p1, p2⟩, _⟩ := row3 HR1.out
  obtain ⟨⟨q0, q1, q2⟩, _⟩ := row3 HR2.out
  obtain ⟨⟨z0, z1, z2⟩, f0, f1, f2⟩ := row3 HR3.out
  have hS := set3 (v0 := .bool n1) (v1 := .string d1) (v2 := .int .i64 e1) HR3.out (by omega) HB.out
  have HS := Lib.hid hS
  clear hS HR3 HB
  go_wp2_with fail
  refine bodyPost_ret (results_row_tmp rfl _ _ (w.heap.size + 1 + 1) _ _ _ _ rfl HS.out.1 Tryd.underlying23 rfl (by kernel_rfl)) rfl ⟨rfl, HS.out.2⟩
set_option maxRecDepth 100000 in
set_option maxHeartbeats 2000000 in
theorem Add_same (w : World) (n1 n2 : Bool) (d1 d2 : ByteArray) (e1 e2 : Int) (s1 : d1.size ≤ 1000000) (s2 : d2.size ≤ 1000000) (h1 : dsane n1 (unstr d1) e1 = true) (h2 : dsane n2 (unstr d2) e2 = true) (hz1 : ¬ d1.size = 0) (hz2 : ¬ d2.size = 0) (hn : n1 = n2) :
    Calls Tryd.prog 11 #[.agg #[.bool n1, .string d1, .int .i64 e1], .agg #[.bool n2, .string d2, .int .i64 e2]] w fun e w' => e = .returned (toldN (fmN n1 (strOf (mdig d1 d2 e1 e2 1)) (min e1 e2))) ∧ Below w.heap.size w w' := by
  obtain ⟨k11, k12, k13, u1⟩ := dsane_bounds h1 hz1
  obtain ⟨k21, k22, k23, u2⟩ := dsane_bounds h2 hz2
  subst hn
  have hM := fun v => merged_any v n1 n1 d1 d2 e1 e2 (1) (Or.inl rfl) u1 u2 (by omega) (by omega) (by omega) (by omega) (by omega) (by omega)
  have hds := Nat.le_trans (fdig_size (strOf (mdig d1 d2 e1 e2 (1)))) (by rw [strOf_len]; unfold mdig; rw [msum_len]; show _ ≤ 5000; omega)
  unfold fmN
  rw [fmd_eq] at hM
  have hC := fun v => checked_any v (fneg n1 (strOf (mdig d1 d2 e1 e2 (1)))) (fdig (strOf (mdig d1 d2 e1 e2 (1)))) (fexp (strOf (mdig d1 d2 e1 e2 (1))) (min e1 e2)) (by omega)
  show Calls _ _ _ _ fun e w' => e = .returned (told #[.bool (fneg n1 (strOf (mdig d1 d2 e1 e2 (1)))), .string (fdig (strOf (mdig d1 d2 e1 e2 (1)))), .int .i64 (fexp (strOf (mdig d1 d2 e1 e2 (1))) (min e1 e2))] (dsane (fneg n1 (strOf (mdig d1 d2 e1 e2 (1)))) (unstr (fdig (strOf (mdig d1 d2 e1 e2 (1))))) (fexp (strOf (mdig d1 d2 e1 e2 (1))) (min e1 e2)))) ∧ _
  generalize fneg n1 (strOf (mdig d1 d2 e1 e2 (1))) = en at hM hC ⊢
  generalize fdig (strOf (mdig d1 d2 e1 e2 (1))) = ed at hM hC ⊢
  generalize fexp (strOf (mdig d1 d2 e1 e2 (1))) (min e1 e2) = ee at hM hC ⊢
  generalize dsane en (unstr ed) ee = okk at hC ⊢
  have HM := Lib.hid hM
  have HC := Lib.hid hC
  clear hM hC hds
  obtain ⟨wa, hwa, r1, r2, r3, hB⟩ := three_rows_at w n1 n1 d1 d2 e1 e2
  have HS1 := Lib.hid (fun v => Sane_any v n1 d1 e1 (by omega))
  have HS2 := Lib.hid (fun v => Sane_any v n1 d2 e2 (by omega))
  have HW := Lib.hid hwa
  have HR1 := Lib.hid r1
  have HR2 := Lib.hid r2
  have HR3 := Lib.hid r3
  have HB := Lib.hid hB
  obtain ⟨⟨x0, x1, x2⟩, _⟩ := row3 r1
  clear hwa r1 r2 r3 hB
  rw [h1] at HS1
  rw [h2] at HS2
  have dz1 := ba_full hz1
  have dz2 := ba_full hz2
  have dn : (n1 == n1) = true := by cases n1 <;> rfl
  clear h1 h2 hz1 hz2 u1 u2
  go_enter Tryd.func11, Tryd.ntmps11
  go_upto_region 1 with fail
  rw [← HW.out]
  clear HW
  go_wp2_with fail
  with_reducible refine (HS1.out _).mono ?_
  rintro e w2 ⟨rfl, hb2⟩
  have HT1 := Lib.hid ((hb2.block _ (lt_of_block HR1.out)).trans HR1.out)
  have HT2 := Lib.hid ((hb2.block _ (lt_of_block HR2.out)).trans HR2.out)
  have HT3 := Lib.hid ((hb2.block _ (lt_of_block HR3.out)).trans HR3.out)
  have HK := Lib.hid (HB.out.trans (hb2.mono HB.out.size))
  clear x0 x1 x2 hb2 HR1 HR2 HR3 HB
  obtain ⟨⟨y0, y1, y2⟩, _⟩ := row3 HT2.out
  go_wp2_with fail
  with_reducible refine (HS2.out _).mono ?_
  rintro e w3 ⟨rfl, hb3⟩
  have HR1 := Lib.hid ((hb3.block _ (lt_of_block HT1.out)).trans HT1.out)
  have HR2 := Lib.hid ((hb3.block _ (lt_of_block HT2.out)).trans HT2.out)
  have HR3 := Lib.hid ((hb3.block _ (lt_of_block HT3.out)).trans HT3.out)
  have HB := Lib.hid (HK.out.trans (hb3.mono HK.out.size))
  clear y0 y1 y2 hb3 HT1 HT2 HT3 HK HS1 HS2
  obtain ⟨⟨p0, p1, p2⟩, _⟩ := row3 HR1.out
  obtain ⟨⟨q0, q1, q2⟩, _⟩ := row3 HR2.out
  go_wp2_with fail
  with_reducible refine (HM.out _).mono ?_
  rintro e w7 ⟨rfl, hb7⟩
  go_wp2_with fail
  with_reducible refine (HC.out _).mono ?_
  rintro e w8 ⟨rfl, hb8⟩
  have k7 := (hb7.block _ (lt_of_block HR3.out)).trans HR3.out
  have HV := Lib.hid ((hb8.block _ (lt_of_block k7)).trans k7)
  have HX := Lib.hid ((HB.out.trans (hb7.mono HB.out.size)).trans (hb8.mono (Nat.le_trans HB.out.size hb7.size)))
  clear k7 hb7 hb8 HM HC
  unfold told
  cases okk with
  | true =>
    obtain ⟨⟨z0, z1, z2⟩, f0, f1, f2⟩ := row3 HV.out
    have hS := set3 (v0 := .bool en) (v1 := .string ed) (v2 := .int .i64 ee) HV.out (by omega) HX.out
    have HS := Lib.hid hS
    clear hS HV HX
    go_wp2_with fail
    refine bodyPost_ret (results_row_tmp rfl _ _ (w.heap.size + 1 + 1) _ _ _ _ rfl HS.out.1 Tryd.underlying23 rfl (by kernel_rfl)) rfl ⟨rfl, HS.out.2⟩
  | false =>
    obtain ⟨⟨z0, z1, z2⟩, f0, f1, f2⟩ := row3 HV.out
    have hS := set3 (v0 := (.bool false)) (v1 := (.string ⟨#[]⟩)) (v2 := (.int .i64 0)) HV.out (by omega) HX.out
    have HS := Lib.hid hS
    clear hS HV HX
    go_wp2_with fail
    refine bodyPost_ret (results_row_tmp rfl _ _ (w.heap.size + 1 + 1) _ _ _ _ rfl HS.out.1 Tryd.underlying23 rfl (by kernel_rfl)) rfl ⟨rfl, HS.out.2⟩
set_option maxRecDepth 100000 in
set_option maxHeartbeats 2000000 in
theorem Add_less (w : World) (n1 n2 : Bool) (d1 d2 : ByteArray) (e1 e2 : Int) (s1 : d1.size ≤ 1000000) (s2 : d2.size ≤ 1000000) (h1 : dsane n1 (unstr d1) e1 = true) (h2 : dsane n2 (unstr d2) e2 = true) (hz1 : ¬ d1.size = 0) (hz2 : ¬ d2.size = 0) (hn : ¬ n1 = n2) (hl : lgr d1 d2 e1 e2 < 0) :
    Calls Tryd.prog 11 #[.agg #[.bool n1, .string d1, .int .i64 e1], .agg #[.bool n2, .string d2, .int .i64 e2]] w fun e w' => e = .returned (toldN (fmN n2 (strOf (mdig d2 d1 e2 e1 (-1))) (min e2 e1))) ∧ Below w.heap.size w w' := by
  obtain ⟨k11, k12, k13, u1⟩ := dsane_bounds h1 hz1
  obtain ⟨k21, k22, k23, u2⟩ := dsane_bounds h2 hz2
  have hM := fun v => merged_any v n2 n1 d2 d1 e2 e1 (-1) (Or.inr rfl) u2 u1 (by omega) (by omega) (by omega) (by omega) (by omega) (by omega)
  have hds := Nat.le_trans (fdig_size (strOf (mdig d2 d1 e2 e1 (-1)))) (by rw [strOf_len]; unfold mdig; rw [msum_len]; show _ ≤ 5000; omega)
  unfold fmN
  rw [fmd_eq] at hM
  have hC := fun v => checked_any v (fneg n2 (strOf (mdig d2 d1 e2 e1 (-1)))) (fdig (strOf (mdig d2 d1 e2 e1 (-1)))) (fexp (strOf (mdig d2 d1 e2 e1 (-1))) (min e2 e1)) (by omega)
  show Calls _ _ _ _ fun e w' => e = .returned (told #[.bool (fneg n2 (strOf (mdig d2 d1 e2 e1 (-1)))), .string (fdig (strOf (mdig d2 d1 e2 e1 (-1)))), .int .i64 (fexp (strOf (mdig d2 d1 e2 e1 (-1))) (min e2 e1))] (dsane (fneg n2 (strOf (mdig d2 d1 e2 e1 (-1)))) (unstr (fdig (strOf (mdig d2 d1 e2 e1 (-1))))) (fexp (strOf (mdig d2 d1 e2 e1 (-1))) (min e2 e1)))) ∧ _
  generalize fneg n2 (strOf (mdig d2 d1 e2 e1 (-1))) = en at hM hC ⊢
  generalize fdig (strOf (mdig d2 d1 e2 e1 (-1))) = ed at hM hC ⊢
  generalize fexp (strOf (mdig d2 d1 e2 e1 (-1))) (min e2 e1) = ee at hM hC ⊢
  generalize dsane en (unstr ed) ee = okk at hC ⊢
  have HM := Lib.hid hM
  have HC := Lib.hid hC
  clear hM hC hds
  have hL := fun v => larger_any v n1 n2 d1 d2 e1 e2 s1 s2 (by omega) (by omega) (by omega) (by omega)
  generalize lgr d1 d2 e1 e2 = lr at hL hl
  have dn : (n1 == n2) = false := beq_eq_false_iff_ne.2 hn
  have HL := Lib.hid hL
  clear hL
  have dl : decide (lr < 0) = true := decide_eq_true hl
  obtain ⟨wa, hwa, r1, r2, r3, hB⟩ := three_rows_at w n1 n2 d1 d2 e1 e2
  have HS1 := Lib.hid (fun v => Sane_any v n1 d1 e1 (by omega))
  have HS2 := Lib.hid (fun v => Sane_any v n2 d2 e2 (by omega))
  have HW := Lib.hid hwa
  have HR1 := Lib.hid r1
  have HR2 := Lib.hid r2
  have HR3 := Lib.hid r3
  have HB := Lib.hid hB
  obtain ⟨⟨x0, x1, x2⟩, _⟩ := row3 r1
  clear hwa r1 r2 r3 hB
  rw [h1] at HS1
  rw [h2] at HS2
  have dz1 := ba_full hz1
  have dz2 := ba_full hz2
  clear h1 h2 hz1 hz2 u1 u2 hn hl
  go_enter Tryd.func11, Tryd.ntmps11
  go_upto_region 1 with fail
  rw [← HW.out]
  clear HW
  go_wp2_with fail
  with_reducible refine (HS1.out _).mono ?_
  rintro e w2 ⟨rfl, hb2⟩
  have HT1 := Lib.hid ((hb2.block _ (lt_of_block HR1.out)).trans HR1.out)
  have HT2 := Lib.hid ((hb2.block _ (lt_of_block HR2.out)).trans HR2.out)
  have HT3 := Lib.hid ((hb2.block _ (lt_of_block HR3.out)).trans HR3.out)
  have HK := Lib.hid (HB.out.trans (hb2.mono HB.out.size))
  clear x0 x1 x2 hb2 HR1 HR2 HR3 HB
  obtain ⟨⟨y0, y1, y2⟩, _⟩ := row3 HT2.out
  go_wp2_with fail
  with_reducible refine (HS2.out _).mono ?_
  rintro e w3 ⟨rfl, hb3⟩
  have HR1 := Lib.hid ((hb3.block _ (lt_of_block HT1.out)).trans HT1.out)
  have HR2 := Lib.hid ((hb3.block _ (lt_of_block HT2.out)).trans HT2.out)
  have HR3 := Lib.hid ((hb3.block _ (lt_of_block HT3.out)).trans HT3.out)
  have HB := Lib.hid (HK.out.trans (hb3.mono HK.out.size))
  clear y0 y1 y2 hb3 HT1 HT2 HT3 HK HS1 HS2
  obtain ⟨⟨p0, p1, p2⟩, _⟩ := row3 HR1.out
  obtain ⟨⟨q0, q1, q2⟩, _⟩ := row3 HR2.out
  go_wp2_with fail
  with_reducible refine (HL.out _).mono ?_
  rintro e w5 ⟨rfl, hb5⟩
  have HP1 := Lib.hid ((hb5.block _ (lt_of_block HR1.out)).trans HR1.out)
  have HP2 := Lib.hid ((hb5.block _ (lt_of_block HR2.out)).trans HR2.out)
  have HP3 := Lib.hid ((hb5.block _ (lt_of_block HR3.out)).trans HR3.out)
  have HPB := Lib.hid (HB.out.trans (hb5.mono HB.out.size))
  clear p0 p1 p2 q0 q1 q2 hb5 HR1 HR2 HR3 HB HL
  obtain ⟨⟨p0, p1, p2⟩, pf0, pf1, pf2⟩ := row3 HP1.out
  obtain ⟨⟨q0, q1, q2⟩, qf0, qf1, qf2⟩ := row3 HP2.out
  obtain ⟨wv, hwv, v1, v2, v3, hvb⟩ := swapped HP1.out HP2.out HP3.out (Nat.le_refl _) HPB.out
  have HY1 := Lib.hid v1
  have HY2 := Lib.hid v2
  have HY3 := Lib.hid v3
  have HYB := Lib.hid hvb
  have HYW := Lib.hid hwv
  clear hwv v1 v2 v3 hvb HP1 HP2 HP3 HPB
  go_upto_region 11 with fail
  rw [← HYW.out]
  clear p0 p1 p2 pf0 pf1 pf2 q0 q1 q2 qf0 qf1 qf2 HYW
  obtain ⟨⟨p0, p1, p2⟩, _⟩ := row3 HY1.out
  obtain ⟨⟨q0, q1, q2⟩, _⟩ := row3 HY2.out
  go_wp2_with fail
  with_reducible refine (HM.out _).mono ?_
  rintro e w7 ⟨rfl, hb7⟩
  go_wp2_with fail
  with_reducible refine (HC.out _).mono ?_
  rintro e w8 ⟨rfl, hb8⟩
  have k7 := (hb7.block _ (lt_of_block HY3.out)).trans HY3.out
  have HV := Lib.hid ((hb8.block _ (lt_of_block k7)).trans k7)
  have HX := Lib.hid ((HYB.out.trans (hb7.mono HYB.out.size)).trans (hb8.mono (Nat.le_trans HYB.out.size hb7.size)))
  clear k7 hb7 hb8 HM HC
  unfold told
  cases okk with
  | true =>
    obtain ⟨⟨z0, z1, z2⟩, f0, f1, f2⟩ := row3 HV.out
    have hS := set3 (v0 := .bool en) (v1 := .string ed) (v2 := .int .i64 ee) HV.out (by omega) HX.out
    have HS := Lib.hid hS
    clear hS HV HX
    go_wp2_with fail
    refine bodyPost_ret (results_row_tmp rfl _ _ (w.heap.size + 1 + 1) _ _ _ _ rfl HS.out.1 Tryd.underlying23 rfl (by kernel_rfl)) rfl ⟨rfl, HS.out.2⟩
  | false =>
    obtain ⟨⟨z0, z1, z2⟩, f0, f1, f2⟩ := row3 HV.out
    have hS := set3 (v0 := (.bool false)) (v1 := (.string ⟨#[]⟩)) (v2 := (.int .i64 0)) HV.out (by omega) HX.out
    have HS := Lib.hid hS
    clear hS HV HX
    go_wp2_with fail
    refine bodyPost_ret (results_row_tmp rfl _ _ (w.heap.size + 1 + 1) _ _ _ _ rfl HS.out.1 Tryd.underlying23 rfl (by kernel_rfl)) rfl ⟨rfl, HS.out.2⟩
set_option maxRecDepth 100000 in
set_option maxHeartbeats 2000000 in
theorem Add_more (w : World) (n1 n2 : Bool) (d1 d2 : ByteArray) (e1 e2 : Int) (s1 : d1.size ≤ 1000000) (s2 : d2.size ≤ 1000000) (h1 : dsane n1 (unstr d1) e1 = true) (h2 : dsane n2 (unstr d2) e2 = true) (hz1 : ¬ d1.size = 0) (hz2 : ¬ d2.size = 0) (hn : ¬ n1 = n2) (hl : ¬ lgr d1 d2 e1 e2 < 0) :
    Calls Tryd.prog 11 #[.agg #[.bool n1, .string d1, .int .i64 e1], .agg #[.bool n2, .string d2, .int .i64 e2]] w fun e w' => e = .returned (toldN (fmN n1 (strOf (mdig d1 d2 e1 e2 (-1))) (min e1 e2))) ∧ Below w.heap.size w w' := by
  obtain ⟨k11, k12, k13, u1⟩ := dsane_bounds h1 hz1
  obtain ⟨k21, k22, k23, u2⟩ := dsane_bounds h2 hz2
  have hM := fun v => merged_any v n1 n2 d1 d2 e1 e2 (-1) (Or.inr rfl) u1 u2 (by omega) (by omega) (by omega) (by omega) (by omega) (by omega)
  have hds := Nat.le_trans (fdig_size (strOf (mdig d1 d2 e1 e2 (-1)))) (by rw [strOf_len]; unfold mdig; rw [msum_len]; show _ ≤ 5000; omega)
  unfold fmN
  rw [fmd_eq] at hM
  have hC := fun v => checked_any v (fneg n1 (strOf (mdig d1 d2 e1 e2 (-1)))) (fdig (strOf (mdig d1 d2 e1 e2 (-1)))) (fexp (strOf (mdig d1 d2 e1 e2 (-1))) (min e1 e2)) (by omega)
  show Calls _ _ _ _ fun e w' => e = .returned (told #[.bool (fneg n1 (strOf (mdig d1 d2 e1 e2 (-1)))), .string (fdig (strOf (mdig d1 d2 e1 e2 (-1)))), .int .i64 (fexp (strOf (mdig d1 d2 e1 e2 (-1))) (min e1 e2))] (dsane (fneg n1 (strOf (mdig d1 d2 e1 e2 (-1)))) (unstr (fdig (strOf (mdig d1 d2 e1 e2 (-1))))) (fexp (strOf (mdig d1 d2 e1 e2 (-1))) (min e1 e2)))) ∧ _
  generalize fneg n1 (strOf (mdig d1 d2 e1 e2 (-1))) = en at hM hC ⊢
  generalize fdig (strOf (mdig d1 d2 e1 e2 (-1))) = ed at hM hC ⊢
  generalize fexp (strOf (mdig d1 d2 e1 e2 (-1))) (min e1 e2) = ee at hM hC ⊢
  generalize dsane en (unstr ed) ee = okk at hC ⊢
  have HM := Lib.hid hM
  have HC := Lib.hid hC
  clear hM hC hds
  have hL := fun v => larger_any v n1 n2 d1 d2 e1 e2 s1 s2 (by omega) (by omega) (by omega) (by omega)
  generalize lgr d1 d2 e1 e2 = lr at hL hl
  have dn : (n1 == n2) = false := beq_eq_false_iff_ne.2 hn
  have HL := Lib.hid hL
  clear hL
  have dl : decide (lr < 0) = false := decide_eq_false hl
  obtain ⟨wa, hwa, r1, r2, r3, hB⟩ := three_rows_at w n1 n2 d1 d2 e1 e2
  have HS1 := Lib.hid (fun v => Sane_any v n1 d1 e1 (by omega))
  have HS2 := Lib.hid (fun v => Sane_any v n2 d2 e2 (by omega))
  have HW := Lib.hid hwa
  have HR1 := Lib.hid r1
  have HR2 := Lib.hid r2
  have HR3 := Lib.hid r3
  have HB := Lib.hid hB
  obtain ⟨⟨x0, x1, x2⟩, _⟩ := row3 r1
  clear hwa r1 r2 r3 hB
  rw [h1] at HS1
  rw [h2] at HS2
  have dz1 := ba_full hz1
  have dz2 := ba_full hz2
  clear h1 h2 hz1 hz2 u1 u2 hn hl
  go_enter Tryd.func11, Tryd.ntmps11
  go_upto_region 1 with fail
  rw [← HW.out]
  clear HW
  go_wp2_with fail
  with_reducible refine (HS1.out _).mono ?_
  rintro e w2 ⟨rfl, hb2⟩
  have HT1 := Lib.hid ((hb2.block _ (lt_of_block HR1.out)).trans HR1.out)
  have HT2 := Lib.hid ((hb2.block _ (lt_of_block HR2.out)).trans HR2.out)
  have HT3 := Lib.hid ((hb2.block _ (lt_of_block HR3.out)).trans HR3.out)
  have HK := Lib.hid (HB.out.trans (hb2.mono HB.out.size))
  clear x0 x1 x2 hb2 HR1 HR2 HR3 HB
  obtain ⟨⟨y0, y1, y2⟩, _⟩ := row3 HT2.out
  go_wp2_with fail
  with_reducible refine (HS2.out _).mono ?_
  rintro e w3 ⟨rfl, hb3⟩
  have HR1 := Lib.hid ((hb3.block _ (lt_of_block HT1.out)).trans HT1.out)
  have HR2 := Lib.hid ((hb3.block _ (lt_of_block HT2.out)).trans HT2.out)
  have HR3 := Lib.hid ((hb3.block _ (lt_of_block HT3.out)).trans HT3.out)
  have HB := Lib.hid (HK.out.trans (hb3.mono HK.out.size))
  clear y0 y1 y2 hb3 HT1 HT2 HT3 HK HS1 HS2
  obtain ⟨⟨p0, p1, p2⟩, _⟩ := row3 HR1.out
  obtain ⟨⟨q0, q1, q2⟩, _⟩ := row3 HR2.out
  go_wp2_with fail
  with_reducible refine (HL.out _).mono ?_
  rintro e w5 ⟨rfl, hb5⟩
  have HP1 := Lib.hid ((hb5.block _ (lt_of_block HR1.out)).trans HR1.out)
  have HP2 := Lib.hid ((hb5.block _ (lt_of_block HR2.out)).trans HR2.out)
  have HP3 := Lib.hid ((hb5.block _ (lt_of_block HR3.out)).trans HR3.out)
  have HPB := Lib.hid (HB.out.trans (hb5.mono HB.out.size))
  clear p0 p1 p2 q0 q1 q2 hb5 HR1 HR2 HR3 HB HL
  obtain ⟨⟨p0, p1, p2⟩, _⟩ := row3 HP1.out
  obtain ⟨⟨q0, q1, q2⟩, _⟩ := row3 HP2.out
  go_wp2_with fail
  with_reducible refine (HM.out _).mono ?_
  rintro e w7 ⟨rfl, hb7⟩
  go_wp2_with fail
  with_reducible refine (HC.out _).mono ?_
  rintro e w8 ⟨rfl, hb8⟩
  have k7 := (hb7.block _ (lt_of_block HP3.out)).trans HP3.out
  have HV := Lib.hid ((hb8.block _ (lt_of_block k7)).trans k7)
  have HX := Lib.hid ((HPB.out.trans (hb7.mono HPB.out.size)).trans (hb8.mono (Nat.le_trans HPB.out.size hb7.size)))
  clear k7 hb7 hb8 HM HC
  unfold told
  cases okk with
  | true =>
    obtain ⟨⟨z0, z1, z2⟩, f0, f1, f2⟩ := row3 HV.out
    have hS := set3 (v0 := .bool en) (v1 := .string ed) (v2 := .int .i64 ee) HV.out (by omega) HX.out
    have HS := Lib.hid hS
    clear hS HV HX
    go_wp2_with fail
    refine bodyPost_ret (results_row_tmp rfl _ _ (w.heap.size + 1 + 1) _ _ _ _ rfl HS.out.1 Tryd.underlying23 rfl (by kernel_rfl)) rfl ⟨rfl, HS.out.2⟩
  | false =>
    obtain ⟨⟨z0, z1, z2⟩, f0, f1, f2⟩ := row3 HV.out
    have hS := set3 (v0 := (.bool false)) (v1 := (.string ⟨#[]⟩)) (v2 := (.int .i64 0)) HV.out (by omega) HX.out
    have HS := Lib.hid hS
    clear hS HV HX
    go_wp2_with fail
    refine bodyPost_ret (results_row_tmp rfl _ _ (w.heap.size + 1 + 1) _ _ _ _ rfl HS.out.1 Tryd.underlying23 rfl (by kernel_rfl)) rfl ⟨rfl, HS.out.2⟩
theorem Add_any (w : World) (a b : Nm) (s1 : a.dg.size ≤ 1000000) (s2 : b.dg.size ≤ 1000000) :
    Calls Tryd.prog 11 #[a.v, b.v] w fun e w' => e = .returned (addV a b) ∧ Below w.heap.size w w' := by
  obtain ⟨n1, d1, e1⟩ := a
  obtain ⟨n2, d2, e2⟩ := b
  unfold addV sumN
  show Calls _ _ #[.agg #[.bool n1, .string d1, .int .i64 e1], .agg #[.bool n2, .string d2, .int .i64 e2]] _ _
  by_cases h1 : dsane n1 (unstr d1) e1 = true
  · by_cases h2 : dsane n2 (unstr d2) e2 = true
    · rw [if_pos ⟨h1, h2⟩]
      by_cases z1 : d1.size = 0
      · rw [if_pos z1, toldN_ok (x := ⟨n2, d2, e2⟩) h2]
        exact Add_zero1 w n1 n2 d1 d2 e1 e2 s1 s2 h1 h2 z1
      rw [if_neg z1]
      by_cases z2 : d2.size = 0
      · rw [if_pos z2, toldN_ok (x := ⟨n1, d1, e1⟩) h1]
        exact Add_zero2 w n1 n2 d1 d2 e1 e2 s1 s2 h1 h2 z1 z2
      rw [if_neg z2]
      by_cases hn : n1 = n2
      · rw [if_pos hn]
        exact Add_same w n1 n2 d1 d2 e1 e2 s1 s2 h1 h2 z1 z2 hn
      rw [if_neg hn]
      by_cases hl : lgr d1 d2 e1 e2 < 0
      · rw [if_pos hl]
        exact Add_less w n1 n2 d1 d2 e1 e2 s1 s2 h1 h2 z1 z2 hn hl
      · rw [if_neg hl]
        exact Add_more w n1 n2 d1 d2 e1 e2 s1 s2 h1 h2 z1 z2 hn hl
    · rw [if_neg fun h => h2 h.2]
      exact Add_bad2 w n1 n2 d1 d2 e1 e2 s1 s2 h1 (by simpa using h2)
  · rw [if_neg fun h => h1 h.1]
    exact Add_bad1 w n1 n2 d1 d2 e1 e2 s1 s2 (by simpa using h1)
end Go.Proofs.YtpnhgggdjlglnaaDoor.dk
