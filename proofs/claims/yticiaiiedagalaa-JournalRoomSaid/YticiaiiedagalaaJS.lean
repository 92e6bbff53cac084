/- JournalRoom: so many pieces are taken as are needed. -/
import Derived.Test.YticiaiiedagalaaJR
namespace Go.Proofs.Yticiaiiedagalaa.dk
open Go.PlainAid Go.ChangeShapes Go.WideShapes Go.ChangeAt Go.RowKit

set_option maxHeartbeats 4000000 in
set_option maxRecDepth 100000 in
theorem room_tt (a b n : Int) (kx ky s0 : Nat) (w : World) (ha : bits .and .i64 a 511 = (kx : Int)) (hb : bits .and .i64 b 511 = (ky : Int)) (hn : bits .and .i64 n 31 = (s0 : Int)) (hkx : kx ≤ 511) (hky : ky ≤ 511) (hs0 : s0 ≤ 31)
    (hfx : needN kx ≤ 1 + s0) (hfy : needN ky ≤ 1 + s0) :
    Calls Try.prog 6 #[.int .i64 a, .int .i64 b, .int .i64 n] w fun e w' => e = .returned (.bool true) ∧ Below w.heap.size w w' := by
  have HA := Lib.hid (awake_any w)
  have hqx : needN kx ≤ 11 ∧ 1 ≤ needN kx := by have := needN_bd kx; split at this <;> omega
  have hqy : needN ky ≤ 11 ∧ 1 ≤ needN ky := by have := needN_bd ky; split at this <;> omega
  obtain ⟨sz, hsz⟩ : ∃ s, s = 1 + s0 := ⟨_, rfl⟩
  rw [← hsz] at hfx hfy
  have hz1 : 1 ≤ sz ∧ sz ≤ 32 := by omega
  have es : (1 : Int) + (s0 : Int) = (sz : Int) := by omega
  clear hsz
  go_enter Try.func6, Try.ntmps6
  go_wp2_with (go_at_call 9; with_reducible refine HA.out.mono ?_; rintro e w0 ⟨rfl, hb0⟩)
  have HB0 := Lib.hid hb0
  have hN : Calls Try.prog 11 #[.int .i64 32] w0 _ := New_any 32 w0 (by omega) (by omega)
  clear HA hb0
  with_reducible refine hN.mono ?_
  clear hN
  rintro e w1 ⟨D, L, N, rfl, h1, hb1⟩
  have H1 := Lib.hid h1
  have HB1 := Lib.hid (HB0.out.trans (hb1.mono HB0.out.size))
  have hs01 : w.heap.size ≤ w0.heap.size := HB0.out.size
  have hs1 : w0.heap.size ≤ w1.heap.size := hb1.size
  have hO : Calls Try.prog 13 #[.pointer (some ⟨D, 0, none⟩), .int .i64 0, .int .i64 (sz : Int)] w1 (OpenPost w1 D 0 sz (fresh 32).now) := Open_ok h1 rfl (free_fresh 32).by_ 0 sz (by omega) (by show 0 + sz ≤ 32; omega) (by rw [(told_none (fresh 32).now 0 sz (fun i hi => pcF_fresh 32 0 i (by omega))).2]; decide)
  have HO := Lib.hid hO
  clear h1 hb1 hO HB0
  go_wp2_with fail
  with_reducible refine HO.out.mono ?_
  clear HO
  rintro e w2 ⟨A, p2, cc2, vs2, rfl, hA, hl2, _, hb2⟩
  rw [logOf_fresh D 32 0 sz (by omega)] at hl2
  have e2 : Hid ((toldOf (fresh 32).now 0 sz).2.2 = []) := by
    show (toldOf (fresh 32).now 0 sz).2.2 = []
    rw [(told_none (fresh 32).now 0 sz (fun i hi => pcF_fresh 32 0 i (by omega))).1]
  rw [e2.out]
  have HD2 := Lib.hid (H1.out.below hb2)
  have HL2 := Lib.hid hl2
  have HB2 := Lib.hid (HB1.out.trans (hb2.mono HB1.out.size))
  have hwA : w0.heap.size ≤ A := Nat.le_trans hs1 hA
  have HBx := Lib.hid (bytes2_any w2 kx 120 (by omega))
  clear hl2 hb2 H1 HB1 e2
  go_wp2_with fail
  with_reducible refine HBx.out.mono ?_
  clear HBx
  rintro e w3 ⟨G, rfl, hG, hr3, hb3⟩
  have HD3 := Lib.hid (HD2.out.below hb3)
  have HL3 := Lib.hid (HL2.out.below hb3)
  have HB3 := Lib.hid (HB2.out.trans (hb3.mono HB2.out.size))
  have HS3 := Lib.hid (src_row HD2.out hG hr3 (bsOf_len kx 120))
  have HBy := Lib.hid (bytes2_any w3 ky 121 (by omega))
  clear hb3 hr3 HB2
  go_wp2_with fail
  with_reducible refine HBy.out.mono ?_
  clear HBy
  rintro e w4 ⟨G2, rfl, hG2, hr4, hb4⟩
  have hd4 := HD3.out.below hb4
  have hl4 := HL3.out.below hb4
  have hG2A : G2 ≠ A := by have := HL3.out.lt; omega
  have hS4 : Src D L N (.slice none 0 0) w4 (some ⟨G, 0, none⟩) kx (bsOf kx 120) := Src.next HS3.out (DkF.new hb4 HD3.out.base)
  have HB4 := Lib.hid (HB3.out.trans (hb4.mono HB3.out.size))
  have ha4 : Calls Try.prog 27 #[.pointer (some ⟨A, 0, none⟩), .slice (some ⟨G, 0, none⟩) kx kx] w4 (AppPost w0.heap.size D L N (.slice none 0 0) A (appendOf { d := D, frm := 0, n := sz, place := 0, num := 1, ses := 1, broken := false } (fresh 32) (bsOf kx 120)) w4) :=
    Append_at hd4 hl4 hwA _ 0 kx kx _ hS4 (by omega) (by omega) (by omega) (by omega) (by decide) (by decide) (by omega) (by omega)
  obtain ⟨m1, em1, hm1⟩ := append_free_at (D := D) (frm := 0) (n := sz) (pl := 0) (nu := 1) (s := 1) (m := fresh 32) (b := bsOf kx 120) (bsOf_bys kx 120) (free_fresh 32) (by rw [bsOf_len]; omega) (by show 0 + sz ≤ 32; omega) (by rw [bsOf_len]; omega)
  have hone := one_at hm1 (by omega)
  have htold := told_one hm1 (by omega) (by rw [bsOf_len]; omega) (by rw [bsOf_len]; omega)
  have hfree := hm1.free
  have hmn : m1.n = 32 := hm1.n
  have hwr : m1.writes ≤ 100 := by rw [hm1.wr, bsOf_len]; show (0 : Int) + needN kx + 1 ≤ 100; omega
  have hpe : m1.pend = [] := hm1.pend
  rw [em1] at ha4
  rw [bsOf_len] at ha4 hone htold
  rw [Nat.zero_add, show ((1 : Int) + 1) % 4294967296 = 2 from rfl] at ha4
  obtain ⟨pl1, hpl1⟩ : ∃ p, p = needN kx := ⟨_, rfl⟩
  obtain ⟨nu1, hnu1⟩ : ∃ p : Int, p = 2 := ⟨_, rfl⟩
  rw [← hpl1, ← hnu1] at ha4
  clear hm1 em1
  have hnub : 0 ≤ nu1 ∧ nu1 ≤ 4294967294 := by omega
  have HTold := Lib.hid htold
  have hpb : pl1 ≤ sz := by omega
  have HOne := Lib.hid hone
  have HFree := Lib.hid hfree
  have HPl := Lib.hid hpl1
  have HMn := Lib.hid hmn
  have HPe := Lib.hid hpe
  have HA4 := Lib.hid ha4
  have HS4y := Lib.hid (src_row HD3.out hG2 hr4 (bsOf_len ky 121))
  have hlA : ∀ g off, some (⟨G2, 0, none⟩ : Addr) = some ⟨g, off, none⟩ → g ≠ A := fun g off e => by
    injection e with e
    injection e with e1 _
    rw [← e1]; exact hG2A
  have HlA := Lib.hid hlA
  clear hnu1 hpl1 hone hfree hmn hpe ha4 hS4 hd4 hl4 hr4 hb4 HB3 HS3 HD2 HL2 HD3 HL3 hlA htold
  go_wp2_with fail
  with_reducible refine HA4.out.mono ?_
  clear HA4
  rintro e w5 ⟨P5, rfl, hd5, hl5, hf5⟩
  have HD5 := Lib.hid hd5
  have HL5 := Lib.hid hl5
  have HS5 := Lib.hid (Src.lk HS4y.out hf5 HlA.out)
  have HB5 := Lib.hid (HB4.out.trans (hf5.below.mono hs01))
  have hNx := Need_any w5 (kx : Int) (by omega)
  rw [needN_eq] at hNx
  have HNx := Lib.hid hNx
  have dfx : decide ((needN kx : Int) ≤ (sz : Int)) = true := decide_eq_true (by omega)
  have hRo := Room_any HL5.out (by show sz ≤ 1000000; omega) (by show pl1 ≤ 1000000; omega)
  have hRo : Calls Try.prog 30 #[.pointer (some ⟨A, 0, none⟩)] w5 fun e w' => e = .returned (.int .i64 ((sz : Int) - (needN kx : Int))) ∧ ∃ y, w' = w5.drewN y := by rw [← HPl.out]; exact hRo
  have HRo := Lib.hid hRo
  clear hd5 hl5 hf5 HS4y HB4 hNx hRo
  go_wp2_with fail
  with_reducible refine HNx.out.mono ?_
  clear HNx
  rintro e w' ⟨rfl, rfl⟩
  generalize hqq : needN kx = qx at dfx HRo hqx hfx ⊢
  have HQx := Lib.hid hqq
  clear hqq
  go_wp2_with fail
  with_reducible refine HRo.out.mono ?_
  clear HRo
  rintro e w' ⟨rfl, yy, rfl⟩
  have hbd : Below w5.heap.size w5 (w5.drewN yy) := below_drewN (Below.refl _ _) yy
  have HD6 := Lib.hid (HD5.out.below hbd)
  have HL6 := Lib.hid (HL5.out.below hbd)
  have HS6 := Lib.hid (Src.next HS5.out (DkF.new hbd HD5.out.base))
  have HB6 := Lib.hid (HB5.out.trans (hbd.mono HB5.out.size))
  have HRs := Lib.hid (Reset_any HL6.out hwA)
  clear hbd HD5 HL5 HS5 HB5
  go_wp2_with fail
  generalize w5.drewN yy = w6 at HD6 HL6 HS6 HB6 HRs ⊢
  with_reducible refine HRs.out.mono ?_
  clear HRs
  rintro e w7 ⟨rfl, hl7, hb7, hf7⟩
  have HD7 := Lib.hid (HD6.out.l HL6.out hf7)
  have HL7 := Lib.hid (show LogAt A { d := D, frm := 0, n := sz, place := 0, num := nu1, ses := 1, broken := false } w7 from hl7)
  have HS7 := Lib.hid (Src.lk HS6.out (LkF.turn (A := A) LkF.refl hb7 hf7) HlA.out)
  have HB7 := Lib.hid (HB6.out.trans (hb7.mono hs01))
  have ha7 : Calls Try.prog 27 #[.pointer (some ⟨A, 0, none⟩), .slice (some ⟨G2, 0, none⟩) ky ky] w7 (AppPost w0.heap.size D L N P5 A (appendOf { d := D, frm := 0, n := sz, place := 0, num := nu1, ses := 1, broken := false } m1 (bsOf ky 121)) w7) :=
    Append_at HD7.out HL7.out hwA _ 0 ky ky _ HS7.out (by omega) (by omega) (by omega) (by omega) (by omega) (by rw [HPe.out]; decide) (by omega) (by omega)
  obtain ⟨m2, em2, hm2⟩ := append_free_at (D := D) (frm := 0) (n := sz) (pl := 0) (nu := nu1) (s := 1) (m := m1) (b := bsOf ky 121) (bsOf_bys ky 121) HFree.out (by rw [bsOf_len]; omega) (by rw [HMn.out]; omega) (by rw [bsOf_len]; omega)
  have htt := told_over HOne.out HMn.out (by omega) hnub hm2 (by rw [bsOf_len]; omega) (by rw [bsOf_len]; omega)
  have hm2n : m2.n = 32 := hm2.n.trans HMn.out
  have hm2d := hm2.free.dead
  have hm2b := hm2.free.by_
  obtain ⟨ht2, hs2⟩ := htt
  rw [em2] at ha7
  clear em2 hm2
  have HA7 := Lib.hid ha7
  have HT2 := Lib.hid ht2
  have HSe2 := Lib.hid hs2
  have HM2d := Lib.hid hm2d
  have HM2b := Lib.hid hm2b
  have HM2n := Lib.hid hm2n
  clear hl7 hb7 hf7 ha7 ht2 hs2 hm2d hm2b hm2n HD6 HL6 HS6 HB6 HOne HFree HTold
  go_wp2_with fail
  with_reducible refine HA7.out.mono ?_
  clear HA7
  rintro e w8 ⟨P8, rfl, hd8, _, hf8⟩
  have HS8 := Lib.hid (Src.lk HS7.out hf8 HlA.out)
  have HB8 := Lib.hid (HB7.out.trans (hf8.below.mono hs01))
  have hO8 : Calls Try.prog 13 #[.pointer (some ⟨D, 0, none⟩), .int .i64 0, .int .i64 (sz : Int)] w8 (OpenPost w8 D 0 sz m2.now) := Open_ok hd8 HM2d.out HM2b.out 0 sz (by omega) (by show 0 + sz ≤ m2.n; rw [HM2n.out]; omega) HSe2.out
  have HO8 := Lib.hid hO8
  clear hd8 hf8 hO8 HS7 HB7 HD7 HL7
  go_wp2_with fail
  with_reducible refine HO8.out.mono ?_
  clear HO8
  rintro e w9 ⟨A9, p9, cc9, vs9, rfl, _, _, hr9, hb9⟩
  rw [HT2.out] at hr9 ⊢
  have HB9 := Lib.hid (HB8.out.trans (hb9.mono HB8.out.size))
  have hR9 := HS8.out.1.below hb9
  have hNy := Need_any w9 (ky : Int) (by omega)
  rw [needN_eq] at hNy
  have HNy := Lib.hid hNy
  have dfy : decide ((needN ky : Int) ≤ (sz : Int)) = true := decide_eq_true (by omega)
  have HAn := Lib.hid (Append_nil w9 (some ⟨G, 0, none⟩) kx kx (by omega))
  have HRn := Lib.hid (Room_nil w9)
  have HZn := Lib.hid (Reset_nil w9)
  obtain ⟨g0, q0, c0, e0, k0, r0⟩ := hr9.get 0 (by show 0 < 1; omega)
  subst e0
  rw [show ([bsOf ky 121] : List (List Int)).getD 0 [] = bsOf ky 121 from rfl, bsOf_len] at k0 r0
  have V1 : ∀ y, (convert 45 9 (.slice q0 ky c0)).run Try.prog (w9.drewN y) = .ok (.string (strOf (bsOf ky 121))) (w9.drewN y) := fun y => conv_rd (r0.below (below_drewN (Below.refl _ _) _))
  have V2 : ∀ y, (convert 45 9 (.slice (some ⟨G2, 0, none⟩) ky ky)).run Try.prog (w9.drewN y) = .ok (.string (strOf (bsOf ky 121))) (w9.drewN y) := fun y => conv_rd (hR9.below (below_drewN (Below.refl _ _) _))
  generalize strOf (bsOf ky 121) = s at V1 V2
  clear r0
  rw [show ([bsOf ky 121] : List (List Int)).length = 1 from rfl]
  generalize needN ky = qy at HNy dfy hqy hfy
  clear hr9 hb9 hR9 hNy HT2 HSe2 HM2d HM2b HM2n HS8 HB8
  go_wp2_with (first
    | (go_at_call 32; with_reducible refine HNy.out.mono ?_; rintro e w' ⟨rfl, rfl⟩)
    | (go_at_call 25; with_reducible refine HZn.out.mono ?_; rintro e w' ⟨rfl, rfl⟩)
    | (go_at_call 27; with_reducible refine HAn.out.mono ?_; rintro e w' ⟨rfl, rfl⟩)
    | (go_at_call 30; with_reducible refine HRn.out.mono ?_; rintro e w' ⟨rfl, rfl⟩))
  go_quiet (fail)
  go_wp2
  go_ret
  exact ⟨rfl, HB9.out.trans (below_drewN (Below.refl _ _) _)⟩
set_option maxHeartbeats 4000000 in
set_option maxRecDepth 100000 in
theorem room_tf (a b n : Int) (kx ky s0 : Nat) (w : World) (ha : bits .and .i64 a 511 = (kx : Int)) (hb : bits .and .i64 b 511 = (ky : Int)) (hn : bits .and .i64 n 31 = (s0 : Int)) (hkx : kx ≤ 511) (hky : ky ≤ 511) (hs0 : s0 ≤ 31)
    (hfx : needN kx ≤ 1 + s0) (hfy : 1 + s0 < needN ky) :
    Calls Try.prog 6 #[.int .i64 a, .int .i64 b, .int .i64 n] w fun e w' => e = .returned (.bool true) ∧ Below w.heap.size w w' := by
  have HA := Lib.hid (awake_any w)
  have hqx : needN kx ≤ 11 ∧ 1 ≤ needN kx := by have := needN_bd kx; split at this <;> omega
  have hqy : needN ky ≤ 11 ∧ 1 ≤ needN ky := by have := needN_bd ky; split at this <;> omega
  obtain ⟨sz, hsz⟩ : ∃ s, s = 1 + s0 := ⟨_, rfl⟩
  rw [← hsz] at hfx hfy
  have hz1 : 1 ≤ sz ∧ sz ≤ 32 := by omega
  have es : (1 : Int) + (s0 : Int) = (sz : Int) := by omega
  clear hsz
  go_enter Try.func6, Try.ntmps6
  go_wp2_with (go_at_call 9; with_reducible refine HA.out.mono ?_; rintro e w0 ⟨rfl, hb0⟩)
  have HB0 := Lib.hid hb0
  have hN : Calls Try.prog 11 #[.int .i64 32] w0 _ := New_any 32 w0 (by omega) (by omega)
  clear HA hb0
  with_reducible refine hN.mono ?_
  clear hN
  rintro e w1 ⟨D, L, N, rfl, h1, hb1⟩
  have H1 := Lib.hid h1
  have HB1 := Lib.hid (HB0.out.trans (hb1.mono HB0.out.size))
  have hs01 : w.heap.size ≤ w0.heap.size := HB0.out.size
  have hs1 : w0.heap.size ≤ w1.heap.size := hb1.size
  have hO : Calls Try.prog 13 #[.pointer (some ⟨D, 0, none⟩), .int .i64 0, .int .i64 (sz : Int)] w1 (OpenPost w1 D 0 sz (fresh 32).now) := Open_ok h1 rfl (free_fresh 32).by_ 0 sz (by omega) (by show 0 + sz ≤ 32; omega) (by rw [(told_none (fresh 32).now 0 sz (fun i hi => pcF_fresh 32 0 i (by omega))).2]; decide)
  have HO := Lib.hid hO
  clear h1 hb1 hO HB0
  go_wp2_with fail
  with_reducible refine HO.out.mono ?_
  clear HO
  rintro e w2 ⟨A, p2, cc2, vs2, rfl, hA, hl2, _, hb2⟩
  rw [logOf_fresh D 32 0 sz (by omega)] at hl2
  have e2 : Hid ((toldOf (fresh 32).now 0 sz).2.2 = []) := by
    show (toldOf (fresh 32).now 0 sz).2.2 = []
    rw [(told_none (fresh 32).now 0 sz (fun i hi => pcF_fresh 32 0 i (by omega))).1]
  rw [e2.out]
  have HD2 := Lib.hid (H1.out.below hb2)
  have HL2 := Lib.hid hl2
  have HB2 := Lib.hid (HB1.out.trans (hb2.mono HB1.out.size))
  have hwA : w0.heap.size ≤ A := Nat.le_trans hs1 hA
  have HBx := Lib.hid (bytes2_any w2 kx 120 (by omega))
  clear hl2 hb2 H1 HB1 e2
  go_wp2_with fail
  with_reducible refine HBx.out.mono ?_
  clear HBx
  rintro e w3 ⟨G, rfl, hG, hr3, hb3⟩
  have HD3 := Lib.hid (HD2.out.below hb3)
  have HL3 := Lib.hid (HL2.out.below hb3)
  have HB3 := Lib.hid (HB2.out.trans (hb3.mono HB2.out.size))
  have HS3 := Lib.hid (src_row HD2.out hG hr3 (bsOf_len kx 120))
  have HBy := Lib.hid (bytes2_any w3 ky 121 (by omega))
  clear hb3 hr3 HB2
  go_wp2_with fail
  with_reducible refine HBy.out.mono ?_
  clear HBy
  rintro e w4 ⟨G2, rfl, hG2, hr4, hb4⟩
  have hd4 := HD3.out.below hb4
  have hl4 := HL3.out.below hb4
  have hG2A : G2 ≠ A := by have := HL3.out.lt; omega
  have hS4 : Src D L N (.slice none 0 0) w4 (some ⟨G, 0, none⟩) kx (bsOf kx 120) := Src.next HS3.out (DkF.new hb4 HD3.out.base)
  have HB4 := Lib.hid (HB3.out.trans (hb4.mono HB3.out.size))
  have ha4 : Calls Try.prog 27 #[.pointer (some ⟨A, 0, none⟩), .slice (some ⟨G, 0, none⟩) kx kx] w4 (AppPost w0.heap.size D L N (.slice none 0 0) A (appendOf { d := D, frm := 0, n := sz, place := 0, num := 1, ses := 1, broken := false } (fresh 32) (bsOf kx 120)) w4) :=
    Append_at hd4 hl4 hwA _ 0 kx kx _ hS4 (by omega) (by omega) (by omega) (by omega) (by decide) (by decide) (by omega) (by omega)
  obtain ⟨m1, em1, hm1⟩ := append_free_at (D := D) (frm := 0) (n := sz) (pl := 0) (nu := 1) (s := 1) (m := fresh 32) (b := bsOf kx 120) (bsOf_bys kx 120) (free_fresh 32) (by rw [bsOf_len]; omega) (by show 0 + sz ≤ 32; omega) (by rw [bsOf_len]; omega)
  have hone := one_at hm1 (by omega)
  have htold := told_one hm1 (by omega) (by rw [bsOf_len]; omega) (by rw [bsOf_len]; omega)
  have hfree := hm1.free
  have hmn : m1.n = 32 := hm1.n
  have hwr : m1.writes ≤ 100 := by rw [hm1.wr, bsOf_len]; show (0 : Int) + needN kx + 1 ≤ 100; omega
  have hpe : m1.pend = [] := hm1.pend
  rw [em1] at ha4
  rw [bsOf_len] at ha4 hone htold
  rw [Nat.zero_add, show ((1 : Int) + 1) % 4294967296 = 2 from rfl] at ha4
  obtain ⟨pl1, hpl1⟩ : ∃ p, p = needN kx := ⟨_, rfl⟩
  obtain ⟨nu1, hnu1⟩ : ∃ p : Int, p = 2 := ⟨_, rfl⟩
  rw [← hpl1, ← hnu1] at ha4
  clear hm1 em1
  have hnub : 0 ≤ nu1 ∧ nu1 ≤ 4294967294 := by omega
  have HTold := Lib.hid htold
  have hpb : pl1 ≤ sz := by omega
  have HOne := Lib.hid hone
  have HFree := Lib.hid hfree
  have HPl := Lib.hid hpl1
  have HMn := Lib.hid hmn
  have HPe := Lib.hid hpe
  have HA4 := Lib.hid ha4
  have HS4y := Lib.hid (src_row HD3.out hG2 hr4 (bsOf_len ky 121))
  have hlA : ∀ g off, some (⟨G2, 0, none⟩ : Addr) = some ⟨g, off, none⟩ → g ≠ A := fun g off e => by
    injection e with e
    injection e with e1 _
    rw [← e1]; exact hG2A
  have HlA := Lib.hid hlA
  clear hnu1 hpl1 hone hfree hmn hpe ha4 hS4 hd4 hl4 hr4 hb4 HB3 HS3 HD2 HL2 HD3 HL3 hlA htold
  go_wp2_with fail
  with_reducible refine HA4.out.mono ?_
  clear HA4
  rintro e w5 ⟨P5, rfl, hd5, hl5, hf5⟩
  have HD5 := Lib.hid hd5
  have HL5 := Lib.hid hl5
  have HS5 := Lib.hid (Src.lk HS4y.out hf5 HlA.out)
  have HB5 := Lib.hid (HB4.out.trans (hf5.below.mono hs01))
  have hNx := Need_any w5 (kx : Int) (by omega)
  rw [needN_eq] at hNx
  have HNx := Lib.hid hNx
  have dfx : decide ((needN kx : Int) ≤ (sz : Int)) = true := decide_eq_true (by omega)
  have hRo := Room_any HL5.out (by show sz ≤ 1000000; omega) (by show pl1 ≤ 1000000; omega)
  have hRo : Calls Try.prog 30 #[.pointer (some ⟨A, 0, none⟩)] w5 fun e w' => e = .returned (.int .i64 ((sz : Int) - (needN kx : Int))) ∧ ∃ y, w' = w5.drewN y := by rw [← HPl.out]; exact hRo
  have HRo := Lib.hid hRo
  clear hd5 hl5 hf5 HS4y HB4 hNx hRo
  go_wp2_with fail
  with_reducible refine HNx.out.mono ?_
  clear HNx
  rintro e w' ⟨rfl, rfl⟩
  generalize hqq : needN kx = qx at dfx HRo hqx hfx ⊢
  have HQx := Lib.hid hqq
  clear hqq
  go_wp2_with fail
  with_reducible refine HRo.out.mono ?_
  clear HRo
  rintro e w' ⟨rfl, yy, rfl⟩
  have hbd : Below w5.heap.size w5 (w5.drewN yy) := below_drewN (Below.refl _ _) yy
  have HD6 := Lib.hid (HD5.out.below hbd)
  have HL6 := Lib.hid (HL5.out.below hbd)
  have HS6 := Lib.hid (Src.next HS5.out (DkF.new hbd HD5.out.base))
  have HB6 := Lib.hid (HB5.out.trans (hbd.mono HB5.out.size))
  have HRs := Lib.hid (Reset_any HL6.out hwA)
  clear hbd HD5 HL5 HS5 HB5
  go_wp2_with fail
  generalize w5.drewN yy = w6 at HD6 HL6 HS6 HB6 HRs ⊢
  with_reducible refine HRs.out.mono ?_
  clear HRs
  rintro e w7 ⟨rfl, hl7, hb7, hf7⟩
  have HD7 := Lib.hid (HD6.out.l HL6.out hf7)
  have HL7 := Lib.hid (show LogAt A { d := D, frm := 0, n := sz, place := 0, num := nu1, ses := 1, broken := false } w7 from hl7)
  have HS7 := Lib.hid (Src.lk HS6.out (LkF.turn (A := A) LkF.refl hb7 hf7) HlA.out)
  have HB7 := Lib.hid (HB6.out.trans (hb7.mono hs01))
  have ha7 : Calls Try.prog 27 #[.pointer (some ⟨A, 0, none⟩), .slice (some ⟨G2, 0, none⟩) ky ky] w7 (AppPost w0.heap.size D L N P5 A (appendOf { d := D, frm := 0, n := sz, place := 0, num := nu1, ses := 1, broken := false } m1 (bsOf ky 121)) w7) :=
    Append_at HD7.out HL7.out hwA _ 0 ky ky _ HS7.out (by omega) (by omega) (by omega) (by omega) (by omega) (by rw [HPe.out]; decide) (by omega) (by omega)
  have em2 := append_full { d := D, frm := 0, n := sz, place := 0, num := nu1, ses := 1, broken := false } m1 (bsOf ky 121) rfl (by rw [bsOf_len]; omega) (by show sz < 0 + needN _; rw [bsOf_len]; omega)
  rw [em2] at ha7
  have hm2n := HMn.out
  have hm2d := HFree.out.dead
  have hm2b := HFree.out.by_
  have hs2 : sesOf m1.now 0 sz ≠ 4294967295 := HTold.out.2
  have ht2 : (toldOf m1.now 0 sz).2.2 = [bsOf kx 120] := by rw [HTold.out.1]
  clear em2
  have HA7 := Lib.hid ha7
  have HT2 := Lib.hid ht2
  have HSe2 := Lib.hid hs2
  have HM2d := Lib.hid hm2d
  have HM2b := Lib.hid hm2b
  have HM2n := Lib.hid hm2n
  clear hl7 hb7 hf7 ha7 ht2 hs2 hm2d hm2b hm2n HD6 HL6 HS6 HB6 HOne HFree HTold
  go_wp2_with fail
  with_reducible refine HA7.out.mono ?_
  clear HA7
  rintro e w8 ⟨P8, rfl, hd8, _, hf8⟩
  have HS8 := Lib.hid (Src.lk HS7.out hf8 HlA.out)
  have HB8 := Lib.hid (HB7.out.trans (hf8.below.mono hs01))
  have hO8 : Calls Try.prog 13 #[.pointer (some ⟨D, 0, none⟩), .int .i64 0, .int .i64 (sz : Int)] w8 (OpenPost w8 D 0 sz m1.now) := Open_ok hd8 HM2d.out HM2b.out 0 sz (by omega) (by show 0 + sz ≤ m1.n; rw [HM2n.out]; omega) HSe2.out
  have HO8 := Lib.hid hO8
  clear hd8 hf8 hO8 HS7 HB7 HD7 HL7
  go_wp2_with fail
  with_reducible refine HO8.out.mono ?_
  clear HO8
  rintro e w9 ⟨A9, p9, cc9, vs9, rfl, _, _, hr9, hb9⟩
  rw [HT2.out] at hr9 ⊢
  have HB9 := Lib.hid (HB8.out.trans (hb9.mono HB8.out.size))
  have hR9 := HS8.out.1.below hb9
  have hNy := Need_any w9 (ky : Int) (by omega)
  rw [needN_eq] at hNy
  have HNy := Lib.hid hNy
  have dfy : decide ((needN ky : Int) ≤ (sz : Int)) = false := decide_eq_false (by omega)
  have HAn := Lib.hid (Append_nil w9 (some ⟨G, 0, none⟩) kx kx (by omega))
  have HRn := Lib.hid (Room_nil w9)
  have HZn := Lib.hid (Reset_nil w9)
  rw [show ([bsOf kx 120] : List (List Int)).length = 1 from rfl]
  generalize needN ky = qy at HNy dfy hqy hfy
  clear hr9 hb9 hR9 hNy HT2 HSe2 HM2d HM2b HM2n HS8 HB8
  go_wp2_with (first
    | (go_at_call 32; with_reducible refine HNy.out.mono ?_; rintro e w' ⟨rfl, rfl⟩)
    | (go_at_call 25; with_reducible refine HZn.out.mono ?_; rintro e w' ⟨rfl, rfl⟩)
    | (go_at_call 27; with_reducible refine HAn.out.mono ?_; rintro e w' ⟨rfl, rfl⟩)
    | (go_at_call 30; with_reducible refine HRn.out.mono ?_; rintro e w' ⟨rfl, rfl⟩))
  go_quiet (fail)
  go_wp2
  go_ret
  exact ⟨rfl, HB9.out.trans (below_drewN (Below.refl _ _) _)⟩
set_option maxHeartbeats 4000000 in
set_option maxRecDepth 100000 in
theorem room_ft (a b n : Int) (kx ky s0 : Nat) (w : World) (ha : bits .and .i64 a 511 = (kx : Int)) (hb : bits .and .i64 b 511 = (ky : Int)) (hn : bits .and .i64 n 31 = (s0 : Int)) (hkx : kx ≤ 511) (hky : ky ≤ 511) (hs0 : s0 ≤ 31)
    (hfx : 1 + s0 < needN kx) (hfy : needN ky ≤ 1 + s0) :
    Calls Try.prog 6 #[.int .i64 a, .int .i64 b, .int .i64 n] w fun e w' => e = .returned (.bool true) ∧ Below w.heap.size w w' := by
  have HA := Lib.hid (awake_any w)
  have hqx : needN kx ≤ 11 ∧ 1 ≤ needN kx := by have := needN_bd kx; split at this <;> omega
  have hqy : needN ky ≤ 11 ∧ 1 ≤ needN ky := by have := needN_bd ky; split at this <;> omega
  obtain ⟨sz, hsz⟩ : ∃ s, s = 1 + s0 := ⟨_, rfl⟩
  rw [← hsz] at hfx hfy
  have hz1 : 1 ≤ sz ∧ sz ≤ 32 := by omega
  have es : (1 : Int) + (s0 : Int) = (sz : Int) := by omega
  clear hsz
  go_enter Try.func6, Try.ntmps6
  go_wp2_with (go_at_call 9; with_reducible refine HA.out.mono ?_; rintro e w0 ⟨rfl, hb0⟩)
  have HB0 := Lib.hid hb0
  have hN : Calls Try.prog 11 #[.int .i64 32] w0 _ := New_any 32 w0 (by omega) (by omega)
  clear HA hb0
  with_reducible refine hN.mono ?_
  clear hN
  rintro e w1 ⟨D, L, N, rfl, h1, hb1⟩
  have H1 := Lib.hid h1
  have HB1 := Lib.hid (HB0.out.trans (hb1.mono HB0.out.size))
  have hs01 : w.heap.size ≤ w0.heap.size := HB0.out.size
  have hs1 : w0.heap.size ≤ w1.heap.size := hb1.size
  have hO : Calls Try.prog 13 #[.pointer (some ⟨D, 0, none⟩), .int .i64 0, .int .i64 (sz : Int)] w1 (OpenPost w1 D 0 sz (fresh 32).now) := Open_ok h1 rfl (free_fresh 32).by_ 0 sz (by omega) (by show 0 + sz ≤ 32; omega) (by rw [(told_none (fresh 32).now 0 sz (fun i hi => pcF_fresh 32 0 i (by omega))).2]; decide)
  have HO := Lib.hid hO
  clear h1 hb1 hO HB0
  go_wp2_with fail
  with_reducible refine HO.out.mono ?_
  clear HO
  rintro e w2 ⟨A, p2, cc2, vs2, rfl, hA, hl2, _, hb2⟩
  rw [logOf_fresh D 32 0 sz (by omega)] at hl2
  have e2 : Hid ((toldOf (fresh 32).now 0 sz).2.2 = []) := by
    show (toldOf (fresh 32).now 0 sz).2.2 = []
    rw [(told_none (fresh 32).now 0 sz (fun i hi => pcF_fresh 32 0 i (by omega))).1]
  rw [e2.out]
  have HD2 := Lib.hid (H1.out.below hb2)
  have HL2 := Lib.hid hl2
  have HB2 := Lib.hid (HB1.out.trans (hb2.mono HB1.out.size))
  have hwA : w0.heap.size ≤ A := Nat.le_trans hs1 hA
  have HBx := Lib.hid (bytes2_any w2 kx 120 (by omega))
  clear hl2 hb2 H1 HB1 e2
  go_wp2_with fail
  with_reducible refine HBx.out.mono ?_
  clear HBx
  rintro e w3 ⟨G, rfl, hG, hr3, hb3⟩
  have HD3 := Lib.hid (HD2.out.below hb3)
  have HL3 := Lib.hid (HL2.out.below hb3)
  have HB3 := Lib.hid (HB2.out.trans (hb3.mono HB2.out.size))
  have HS3 := Lib.hid (src_row HD2.out hG hr3 (bsOf_len kx 120))
  have HBy := Lib.hid (bytes2_any w3 ky 121 (by omega))
  clear hb3 hr3 HB2
  go_wp2_with fail
  with_reducible refine HBy.out.mono ?_
  clear HBy
  rintro e w4 ⟨G2, rfl, hG2, hr4, hb4⟩
  have hd4 := HD3.out.below hb4
  have hl4 := HL3.out.below hb4
  have hG2A : G2 ≠ A := by have := HL3.out.lt; omega
  have hS4 : Src D L N (.slice none 0 0) w4 (some ⟨G, 0, none⟩) kx (bsOf kx 120) := Src.next HS3.out (DkF.new hb4 HD3.out.base)
  have HB4 := Lib.hid (HB3.out.trans (hb4.mono HB3.out.size))
  have ha4 : Calls Try.prog 27 #[.pointer (some ⟨A, 0, none⟩), .slice (some ⟨G, 0, none⟩) kx kx] w4 (AppPost w0.heap.size D L N (.slice none 0 0) A (appendOf { d := D, frm := 0, n := sz, place := 0, num := 1, ses := 1, broken := false } (fresh 32) (bsOf kx 120)) w4) :=
    Append_at hd4 hl4 hwA _ 0 kx kx _ hS4 (by omega) (by omega) (by omega) (by omega) (by decide) (by decide) (by omega) (by omega)
  have em1 := append_full { d := D, frm := 0, n := sz, place := 0, num := 1, ses := 1, broken := false } (fresh 32) (bsOf kx 120) rfl (by rw [bsOf_len]; omega) (by show sz < 0 + needN _; rw [bsOf_len]; omega)
  have hone : ∀ i, i < sz → pcF (fresh 32).now 0 i = if i < 0 then some (pieceOf 1 1 (bsOf kx 120) 0 i) else none := fun i hi => by rw [if_neg (by omega)]; exact pcF_fresh 32 0 i (by omega)
  have htold := told_none (fresh 32).now 0 sz (fun i hi => pcF_fresh 32 0 i (by omega))
  have hfree := free_fresh 32
  rw [em1] at ha4
  clear em1
  have hmn : (fresh 32).n = 32 := rfl
  have hwr : (fresh 32).writes ≤ 100 := by decide
  have hwr0 : (fresh 32).writes = 0 := rfl
  have hpe : (fresh 32).pend = [] := rfl
  obtain ⟨pl1, hpl1⟩ : ∃ p, p = 0 := ⟨_, rfl⟩
  obtain ⟨nu1, hnu1⟩ : ∃ p : Int, p = 1 := ⟨_, rfl⟩
  have ha4 : Calls Try.prog 27 #[.pointer (some ⟨A, 0, none⟩), .slice (some ⟨G, 0, none⟩) kx kx] w4 (AppPost w0.heap.size D L N (.slice none 0 0) A ({ d := D, frm := 0, n := sz, place := pl1, num := nu1, ses := 1, broken := false }, fresh 32, 5) w4) := by rw [hpl1, hnu1]; exact ha4
  generalize fresh 32 = m1 at ha4 hone htold hfree hmn hwr hpe hwr0
  have HWr0 := Lib.hid hwr0
  clear hwr0
  have hnub : 0 ≤ nu1 ∧ nu1 ≤ 4294967294 := by omega
  have HTold := Lib.hid htold
  have hpb : pl1 ≤ sz := by omega
  have HOne := Lib.hid hone
  have HFree := Lib.hid hfree
  have HPl := Lib.hid hpl1
  have HMn := Lib.hid hmn
  have HPe := Lib.hid hpe
  have HA4 := Lib.hid ha4
  have HS4y := Lib.hid (src_row HD3.out hG2 hr4 (bsOf_len ky 121))
  have hlA : ∀ g off, some (⟨G2, 0, none⟩ : Addr) = some ⟨g, off, none⟩ → g ≠ A := fun g off e => by
    injection e with e
    injection e with e1 _
    rw [← e1]; exact hG2A
  have HlA := Lib.hid hlA
  clear hnu1 hpl1 hone hfree hmn hpe ha4 hS4 hd4 hl4 hr4 hb4 HB3 HS3 HD2 HL2 HD3 HL3 hlA htold
  go_wp2_with fail
  with_reducible refine HA4.out.mono ?_
  clear HA4
  rintro e w5 ⟨P5, rfl, hd5, hl5, hf5⟩
  have HD5 := Lib.hid hd5
  have HL5 := Lib.hid hl5
  have HS5 := Lib.hid (Src.lk HS4y.out hf5 HlA.out)
  have HB5 := Lib.hid (HB4.out.trans (hf5.below.mono hs01))
  have hNx := Need_any w5 (kx : Int) (by omega)
  rw [needN_eq] at hNx
  have HNx := Lib.hid hNx
  have dfx : decide ((needN kx : Int) ≤ (sz : Int)) = false := decide_eq_false (by omega)
  have hRo := Room_any HL5.out (by show sz ≤ 1000000; omega) (by show pl1 ≤ 1000000; omega)
  have hRo : Calls Try.prog 30 #[.pointer (some ⟨A, 0, none⟩)] w5 fun e w' => e = .returned (.int .i64 (sz : Int)) ∧ ∃ y, w' = w5.drewN y := by
    have e0 : ((sz : Int)) - ((pl1 : Nat) : Int) = (sz : Int) := by rw [HPl.out]; omega
    rw [← e0]; exact hRo
  have HRo := Lib.hid hRo
  have hWr := Writes_any HD5.out
  rw [HWr0.out] at hWr
  have HWr := Lib.hid hWr
  clear hWr
  clear hd5 hl5 hf5 HS4y HB4 hNx hRo
  go_wp2_with fail
  with_reducible refine HNx.out.mono ?_
  clear HNx
  rintro e w' ⟨rfl, rfl⟩
  generalize hqq : needN kx = qx at dfx HRo hqx hfx ⊢
  have HQx := Lib.hid hqq
  clear hqq
  go_wp2_with fail
  with_reducible refine HWr.out.mono ?_
  clear HWr
  rintro e w' ⟨rfl, rfl⟩
  go_wp2_with fail
  with_reducible refine HRo.out.mono ?_
  clear HRo
  rintro e w' ⟨rfl, yy, rfl⟩
  have hbd : Below w5.heap.size w5 (w5.drewN yy) := below_drewN (Below.refl _ _) yy
  have HD6 := Lib.hid (HD5.out.below hbd)
  have HL6 := Lib.hid (HL5.out.below hbd)
  have HS6 := Lib.hid (Src.next HS5.out (DkF.new hbd HD5.out.base))
  have HB6 := Lib.hid (HB5.out.trans (hbd.mono HB5.out.size))
  have HRs := Lib.hid (Reset_any HL6.out hwA)
  clear hbd HD5 HL5 HS5 HB5
  go_wp2_with fail
  generalize w5.drewN yy = w6 at HD6 HL6 HS6 HB6 HRs ⊢
  with_reducible refine HRs.out.mono ?_
  clear HRs
  rintro e w7 ⟨rfl, hl7, hb7, hf7⟩
  have HD7 := Lib.hid (HD6.out.l HL6.out hf7)
  have HL7 := Lib.hid (show LogAt A { d := D, frm := 0, n := sz, place := 0, num := nu1, ses := 1, broken := false } w7 from hl7)
  have HS7 := Lib.hid (Src.lk HS6.out (LkF.turn (A := A) LkF.refl hb7 hf7) HlA.out)
  have HB7 := Lib.hid (HB6.out.trans (hb7.mono hs01))
  have ha7 : Calls Try.prog 27 #[.pointer (some ⟨A, 0, none⟩), .slice (some ⟨G2, 0, none⟩) ky ky] w7 (AppPost w0.heap.size D L N P5 A (appendOf { d := D, frm := 0, n := sz, place := 0, num := nu1, ses := 1, broken := false } m1 (bsOf ky 121)) w7) :=
    Append_at HD7.out HL7.out hwA _ 0 ky ky _ HS7.out (by omega) (by omega) (by omega) (by omega) (by omega) (by rw [HPe.out]; decide) (by omega) (by omega)
  obtain ⟨m2, em2, hm2⟩ := append_free_at (D := D) (frm := 0) (n := sz) (pl := 0) (nu := nu1) (s := 1) (m := m1) (b := bsOf ky 121) (bsOf_bys ky 121) HFree.out (by rw [bsOf_len]; omega) (by rw [HMn.out]; omega) (by rw [bsOf_len]; omega)
  have htt := told_over HOne.out HMn.out (by omega) hnub hm2 (by rw [bsOf_len]; omega) (by rw [bsOf_len]; omega)
  have hm2n : m2.n = 32 := hm2.n.trans HMn.out
  have hm2d := hm2.free.dead
  have hm2b := hm2.free.by_
  obtain ⟨ht2, hs2⟩ := htt
  rw [em2] at ha7
  clear em2 hm2
  have HA7 := Lib.hid ha7
  have HT2 := Lib.hid ht2
  have HSe2 := Lib.hid hs2
  have HM2d := Lib.hid hm2d
  have HM2b := Lib.hid hm2b
  have HM2n := Lib.hid hm2n
  clear hl7 hb7 hf7 ha7 ht2 hs2 hm2d hm2b hm2n HD6 HL6 HS6 HB6 HOne HFree HTold
  go_wp2_with fail
  with_reducible refine HA7.out.mono ?_
  clear HA7
  rintro e w8 ⟨P8, rfl, hd8, _, hf8⟩
  have HS8 := Lib.hid (Src.lk HS7.out hf8 HlA.out)
  have HB8 := Lib.hid (HB7.out.trans (hf8.below.mono hs01))
  have hO8 : Calls Try.prog 13 #[.pointer (some ⟨D, 0, none⟩), .int .i64 0, .int .i64 (sz : Int)] w8 (OpenPost w8 D 0 sz m2.now) := Open_ok hd8 HM2d.out HM2b.out 0 sz (by omega) (by show 0 + sz ≤ m2.n; rw [HM2n.out]; omega) HSe2.out
  have HO8 := Lib.hid hO8
  clear hd8 hf8 hO8 HS7 HB7 HD7 HL7
  go_wp2_with fail
  with_reducible refine HO8.out.mono ?_
  clear HO8
  rintro e w9 ⟨A9, p9, cc9, vs9, rfl, _, _, hr9, hb9⟩
  rw [HT2.out] at hr9 ⊢
  have HB9 := Lib.hid (HB8.out.trans (hb9.mono HB8.out.size))
  have hR9 := HS8.out.1.below hb9
  have hNy := Need_any w9 (ky : Int) (by omega)
  rw [needN_eq] at hNy
  have HNy := Lib.hid hNy
  have dfy : decide ((needN ky : Int) ≤ (sz : Int)) = true := decide_eq_true (by omega)
  have HAn := Lib.hid (Append_nil w9 (some ⟨G, 0, none⟩) kx kx (by omega))
  have HRn := Lib.hid (Room_nil w9)
  have HZn := Lib.hid (Reset_nil w9)
  obtain ⟨g0, q0, c0, e0, k0, r0⟩ := hr9.get 0 (by show 0 < 1; omega)
  subst e0
  rw [show ([bsOf ky 121] : List (List Int)).getD 0 [] = bsOf ky 121 from rfl, bsOf_len] at k0 r0
  have V1 : ∀ y, (convert 45 9 (.slice q0 ky c0)).run Try.prog (w9.drewN y) = .ok (.string (strOf (bsOf ky 121))) (w9.drewN y) := fun y => conv_rd (r0.below (below_drewN (Below.refl _ _) _))
  have V2 : ∀ y, (convert 45 9 (.slice (some ⟨G2, 0, none⟩) ky ky)).run Try.prog (w9.drewN y) = .ok (.string (strOf (bsOf ky 121))) (w9.drewN y) := fun y => conv_rd (hR9.below (below_drewN (Below.refl _ _) _))
  generalize strOf (bsOf ky 121) = s at V1 V2
  clear r0
  rw [show ([bsOf ky 121] : List (List Int)).length = 1 from rfl]
  generalize needN ky = qy at HNy dfy hqy hfy
  clear hr9 hb9 hR9 hNy HT2 HSe2 HM2d HM2b HM2n HS8 HB8
  go_wp2_with (first
    | (go_at_call 32; with_reducible refine HNy.out.mono ?_; rintro e w' ⟨rfl, rfl⟩)
    | (go_at_call 25; with_reducible refine HZn.out.mono ?_; rintro e w' ⟨rfl, rfl⟩)
    | (go_at_call 27; with_reducible refine HAn.out.mono ?_; rintro e w' ⟨rfl, rfl⟩)
    | (go_at_call 30; with_reducible refine HRn.out.mono ?_; rintro e w' ⟨rfl, rfl⟩))
  go_quiet (fail)
  go_wp2
  go_ret
  exact ⟨rfl, HB9.out.trans (below_drewN (Below.refl _ _) _)⟩
set_option maxHeartbeats 4000000 in
set_option maxRecDepth 100000 in
theorem room_ff (a b n : Int) (kx ky s0 : Nat) (w : World) (ha : bits .and .i64 a 511 = (kx : Int)) (hb : bits .and .i64 b 511 = (ky : Int)) (hn : bits .and .i64 n 31 = (s0 : Int)) (hkx : kx ≤ 511) (hky : ky ≤ 511) (hs0 : s0 ≤ 31)
    (hfx : 1 + s0 < needN kx) (hfy : 1 + s0 < needN ky) :
    Calls Try.prog 6 #[.int .i64 a, .int .i64 b, .int .i64 n] w fun e w' => e = .returned (.bool true) ∧ Below w.heap.size w w' := by
  have HA := Lib.hid (awake_any w)
  have hqx : needN kx ≤ 11 ∧ 1 ≤ needN kx := by have := needN_bd kx; split at this <;> omega
  have hqy : needN ky ≤ 11 ∧ 1 ≤ needN ky := by have := needN_bd ky; split at this <;> omega
  obtain ⟨sz, hsz⟩ : ∃ s, s = 1 + s0 := ⟨_, rfl⟩
  rw [← hsz] at hfx hfy
  have hz1 : 1 ≤ sz ∧ sz ≤ 32 := by omega
  have es : (1 : Int) + (s0 : Int) = (sz : Int) := by omega
  clear hsz
  go_enter Try.func6, Try.ntmps6
  go_wp2_with (go_at_call 9; with_reducible refine HA.out.mono ?_; rintro e w0 ⟨rfl, hb0⟩)
  have HB0 := Lib.hid hb0
  have hN : Calls Try.prog 11 #[.int .i64 32] w0 _ := New_any 32 w0 (by omega) (by omega)
  clear HA hb0
  with_reducible refine hN.mono ?_
  clear hN
  rintro e w1 ⟨D, L, N, rfl, h1, hb1⟩
  have H1 := Lib.hid h1
  have HB1 := Lib.hid (HB0.out.trans (hb1.mono HB0.out.size))
  have hs01 : w.heap.size ≤ w0.heap.size := HB0.out.size
  have hs1 : w0.heap.size ≤ w1.heap.size := hb1.size
  have hO : Calls Try.prog 13 #[.pointer (some ⟨D, 0, none⟩), .int .i64 0, .int .i64 (sz : Int)] w1 (OpenPost w1 D 0 sz (fresh 32).now) := Open_ok h1 rfl (free_fresh 32).by_ 0 sz (by omega) (by show 0 + sz ≤ 32; omega) (by rw [(told_none (fresh 32).now 0 sz (fun i hi => pcF_fresh 32 0 i (by omega))).2]; decide)
  have HO := Lib.hid hO
  clear h1 hb1 hO HB0
  go_wp2_with fail
  with_reducible refine HO.out.mono ?_
  clear HO
  rintro e w2 ⟨A, p2, cc2, vs2, rfl, hA, hl2, _, hb2⟩
  rw [logOf_fresh D 32 0 sz (by omega)] at hl2
  have e2 : Hid ((toldOf (fresh 32).now 0 sz).2.2 = []) := by
    show (toldOf (fresh 32).now 0 sz).2.2 = []
    rw [(told_none (fresh 32).now 0 sz (fun i hi => pcF_fresh 32 0 i (by omega))).1]
  rw [e2.out]
  have HD2 := Lib.hid (H1.out.below hb2)
  have HL2 := Lib.hid hl2
  have HB2 := Lib.hid (HB1.out.trans (hb2.mono HB1.out.size))
  have hwA : w0.heap.size ≤ A := Nat.le_trans hs1 hA
  have HBx := Lib.hid (bytes2_any w2 kx 120 (by omega))
  clear hl2 hb2 H1 HB1 e2
  go_wp2_with fail
  with_reducible refine HBx.out.mono ?_
  clear HBx
  rintro e w3 ⟨G, rfl, hG, hr3, hb3⟩
  have HD3 := Lib.hid (HD2.out.below hb3)
  have HL3 := Lib.hid (HL2.out.below hb3)
  have HB3 := Lib.hid (HB2.out.trans (hb3.mono HB2.out.size))
  have HS3 := Lib.hid (src_row HD2.out hG hr3 (bsOf_len kx 120))
  have HBy := Lib.hid (bytes2_any w3 ky 121 (by omega))
  clear hb3 hr3 HB2
  go_wp2_with fail
  with_reducible refine HBy.out.mono ?_
  clear HBy
  rintro e w4 ⟨G2, rfl, hG2, hr4, hb4⟩
  have hd4 := HD3.out.below hb4
  have hl4 := HL3.out.below hb4
  have hG2A : G2 ≠ A := by have := HL3.out.lt; omega
  have hS4 : Src D L N (.slice none 0 0) w4 (some ⟨G, 0, none⟩) kx (bsOf kx 120) := Src.next HS3.out (DkF.new hb4 HD3.out.base)
  have HB4 := Lib.hid (HB3.out.trans (hb4.mono HB3.out.size))
  have ha4 : Calls Try.prog 27 #[.pointer (some ⟨A, 0, none⟩), .slice (some ⟨G, 0, none⟩) kx kx] w4 (AppPost w0.heap.size D L N (.slice none 0 0) A (appendOf { d := D, frm := 0, n := sz, place := 0, num := 1, ses := 1, broken := false } (fresh 32) (bsOf kx 120)) w4) :=
    Append_at hd4 hl4 hwA _ 0 kx kx _ hS4 (by omega) (by omega) (by omega) (by omega) (by decide) (by decide) (by omega) (by omega)
  have em1 := append_full { d := D, frm := 0, n := sz, place := 0, num := 1, ses := 1, broken := false } (fresh 32) (bsOf kx 120) rfl (by rw [bsOf_len]; omega) (by show sz < 0 + needN _; rw [bsOf_len]; omega)
  have hone : ∀ i, i < sz → pcF (fresh 32).now 0 i = if i < 0 then some (pieceOf 1 1 (bsOf kx 120) 0 i) else none := fun i hi => by rw [if_neg (by omega)]; exact pcF_fresh 32 0 i (by omega)
  have htold := told_none (fresh 32).now 0 sz (fun i hi => pcF_fresh 32 0 i (by omega))
  have hfree := free_fresh 32
  rw [em1] at ha4
  clear em1
  have hmn : (fresh 32).n = 32 := rfl
  have hwr : (fresh 32).writes ≤ 100 := by decide
  have hwr0 : (fresh 32).writes = 0 := rfl
  have hpe : (fresh 32).pend = [] := rfl
  obtain ⟨pl1, hpl1⟩ : ∃ p, p = 0 := ⟨_, rfl⟩
  obtain ⟨nu1, hnu1⟩ : ∃ p : Int, p = 1 := ⟨_, rfl⟩
  have ha4 : Calls Try.prog 27 #[.pointer (some ⟨A, 0, none⟩), .slice (some ⟨G, 0, none⟩) kx kx] w4 (AppPost w0.heap.size D L N (.slice none 0 0) A ({ d := D, frm := 0, n := sz, place := pl1, num := nu1, ses := 1, broken := false }, fresh 32, 5) w4) := by rw [hpl1, hnu1]; exact ha4
  generalize fresh 32 = m1 at ha4 hone htold hfree hmn hwr hpe hwr0
  have HWr0 := Lib.hid hwr0
  clear hwr0
  have hnub : 0 ≤ nu1 ∧ nu1 ≤ 4294967294 := by omega
  have HTold := Lib.hid htold
  have hpb : pl1 ≤ sz := by omega
  have HOne := Lib.hid hone
  have HFree := Lib.hid hfree
  have HPl := Lib.hid hpl1
  have HMn := Lib.hid hmn
  have HPe := Lib.hid hpe
  have HA4 := Lib.hid ha4
  have HS4y := Lib.hid (src_row HD3.out hG2 hr4 (bsOf_len ky 121))
  have hlA : ∀ g off, some (⟨G2, 0, none⟩ : Addr) = some ⟨g, off, none⟩ → g ≠ A := fun g off e => by
    injection e with e
    injection e with e1 _
    rw [← e1]; exact hG2A
  have HlA := Lib.hid hlA
  clear hnu1 hpl1 hone hfree hmn hpe ha4 hS4 hd4 hl4 hr4 hb4 HB3 HS3 HD2 HL2 HD3 HL3 hlA htold
  go_wp2_with fail
  with_reducible refine HA4.out.mono ?_
  clear HA4
  rintro e w5 ⟨P5, rfl, hd5, hl5, hf5⟩
  have HD5 := Lib.hid hd5
  have HL5 := Lib.hid hl5
  have HS5 := Lib.hid (Src.lk HS4y.out hf5 HlA.out)
  have HB5 := Lib.hid (HB4.out.trans (hf5.below.mono hs01))
  have hNx := Need_any w5 (kx : Int) (by omega)
  rw [needN_eq] at hNx
  have HNx := Lib.hid hNx
  have dfx : decide ((needN kx : Int) ≤ (sz : Int)) = false := decide_eq_false (by omega)
  have hRo := Room_any HL5.out (by show sz ≤ 1000000; omega) (by show pl1 ≤ 1000000; omega)
  have hRo : Calls Try.prog 30 #[.pointer (some ⟨A, 0, none⟩)] w5 fun e w' => e = .returned (.int .i64 (sz : Int)) ∧ ∃ y, w' = w5.drewN y := by
    have e0 : ((sz : Int)) - ((pl1 : Nat) : Int) = (sz : Int) := by rw [HPl.out]; omega
    rw [← e0]; exact hRo
  have HRo := Lib.hid hRo
  have hWr := Writes_any HD5.out
  rw [HWr0.out] at hWr
  have HWr := Lib.hid hWr
  clear hWr
  clear hd5 hl5 hf5 HS4y HB4 hNx hRo
  go_wp2_with fail
  with_reducible refine HNx.out.mono ?_
  clear HNx
  rintro e w' ⟨rfl, rfl⟩
  generalize hqq : needN kx = qx at dfx HRo hqx hfx ⊢
  have HQx := Lib.hid hqq
  clear hqq
  go_wp2_with fail
  with_reducible refine HWr.out.mono ?_
  clear HWr
  rintro e w' ⟨rfl, rfl⟩
  go_wp2_with fail
  with_reducible refine HRo.out.mono ?_
  clear HRo
  rintro e w' ⟨rfl, yy, rfl⟩
  have hbd : Below w5.heap.size w5 (w5.drewN yy) := below_drewN (Below.refl _ _) yy
  have HD6 := Lib.hid (HD5.out.below hbd)
  have HL6 := Lib.hid (HL5.out.below hbd)
  have HS6 := Lib.hid (Src.next HS5.out (DkF.new hbd HD5.out.base))
  have HB6 := Lib.hid (HB5.out.trans (hbd.mono HB5.out.size))
  have HRs := Lib.hid (Reset_any HL6.out hwA)
  clear hbd HD5 HL5 HS5 HB5
  go_wp2_with fail
  generalize w5.drewN yy = w6 at HD6 HL6 HS6 HB6 HRs ⊢
  with_reducible refine HRs.out.mono ?_
  clear HRs
  rintro e w7 ⟨rfl, hl7, hb7, hf7⟩
  have HD7 := Lib.hid (HD6.out.l HL6.out hf7)
  have HL7 := Lib.hid (show LogAt A { d := D, frm := 0, n := sz, place := 0, num := nu1, ses := 1, broken := false } w7 from hl7)
  have HS7 := Lib.hid (Src.lk HS6.out (LkF.turn (A := A) LkF.refl hb7 hf7) HlA.out)
  have HB7 := Lib.hid (HB6.out.trans (hb7.mono hs01))
  have ha7 : Calls Try.prog 27 #[.pointer (some ⟨A, 0, none⟩), .slice (some ⟨G2, 0, none⟩) ky ky] w7 (AppPost w0.heap.size D L N P5 A (appendOf { d := D, frm := 0, n := sz, place := 0, num := nu1, ses := 1, broken := false } m1 (bsOf ky 121)) w7) :=
    Append_at HD7.out HL7.out hwA _ 0 ky ky _ HS7.out (by omega) (by omega) (by omega) (by omega) (by omega) (by rw [HPe.out]; decide) (by omega) (by omega)
  have em2 := append_full { d := D, frm := 0, n := sz, place := 0, num := nu1, ses := 1, broken := false } m1 (bsOf ky 121) rfl (by rw [bsOf_len]; omega) (by show sz < 0 + needN _; rw [bsOf_len]; omega)
  rw [em2] at ha7
  have hm2n := HMn.out
  have hm2d := HFree.out.dead
  have hm2b := HFree.out.by_
  have hs2 : sesOf m1.now 0 sz ≠ 4294967295 := by rw [HTold.out.2]; decide
  have ht2 : (toldOf m1.now 0 sz).2.2 = [] := by rw [HTold.out.1]
  clear em2
  have HA7 := Lib.hid ha7
  have HT2 := Lib.hid ht2
  have HSe2 := Lib.hid hs2
  have HM2d := Lib.hid hm2d
  have HM2b := Lib.hid hm2b
  have HM2n := Lib.hid hm2n
  clear hl7 hb7 hf7 ha7 ht2 hs2 hm2d hm2b hm2n HD6 HL6 HS6 HB6 HOne HFree HTold
  go_wp2_with fail
  with_reducible refine HA7.out.mono ?_
  clear HA7
  rintro e w8 ⟨P8, rfl, hd8, _, hf8⟩
  have HS8 := Lib.hid (Src.lk HS7.out hf8 HlA.out)
  have HB8 := Lib.hid (HB7.out.trans (hf8.below.mono hs01))
  have hO8 : Calls Try.prog 13 #[.pointer (some ⟨D, 0, none⟩), .int .i64 0, .int .i64 (sz : Int)] w8 (OpenPost w8 D 0 sz m1.now) := Open_ok hd8 HM2d.out HM2b.out 0 sz (by omega) (by show 0 + sz ≤ m1.n; rw [HM2n.out]; omega) HSe2.out
  have HO8 := Lib.hid hO8
  clear hd8 hf8 hO8 HS7 HB7 HD7 HL7
  go_wp2_with fail
  with_reducible refine HO8.out.mono ?_
  clear HO8
  rintro e w9 ⟨A9, p9, cc9, vs9, rfl, _, _, hr9, hb9⟩
  rw [HT2.out] at hr9 ⊢
  have HB9 := Lib.hid (HB8.out.trans (hb9.mono HB8.out.size))
  have hR9 := HS8.out.1.below hb9
  have hNy := Need_any w9 (ky : Int) (by omega)
  rw [needN_eq] at hNy
  have HNy := Lib.hid hNy
  have dfy : decide ((needN ky : Int) ≤ (sz : Int)) = false := decide_eq_false (by omega)
  have HAn := Lib.hid (Append_nil w9 (some ⟨G, 0, none⟩) kx kx (by omega))
  have HRn := Lib.hid (Room_nil w9)
  have HZn := Lib.hid (Reset_nil w9)
  rw [show ([] : List (List Int)).length = 0 from rfl]
  generalize needN ky = qy at HNy dfy hqy hfy
  clear hr9 hb9 hR9 hNy HT2 HSe2 HM2d HM2b HM2n HS8 HB8
  go_wp2_with (first
    | (go_at_call 32; with_reducible refine HNy.out.mono ?_; rintro e w' ⟨rfl, rfl⟩)
    | (go_at_call 25; with_reducible refine HZn.out.mono ?_; rintro e w' ⟨rfl, rfl⟩)
    | (go_at_call 27; with_reducible refine HAn.out.mono ?_; rintro e w' ⟨rfl, rfl⟩)
    | (go_at_call 30; with_reducible refine HRn.out.mono ?_; rintro e w' ⟨rfl, rfl⟩))
  go_quiet (fail)
  go_wp2
  go_ret
  exact ⟨rfl, HB9.out.trans (below_drewN (Below.refl _ _) _)⟩
theorem room_any (a b n : Int) (w : World) :
    Calls Try.prog 6 #[.int .i64 a, .int .i64 b, .int .i64 n] w fun e w' => e = .returned (.bool true) ∧ Below w.heap.size w w' := by
  obtain ⟨kx, hkx⟩ := Int.eq_ofNat_of_zero_le (show 0 ≤ a % 512 by omega)
  obtain ⟨ky, hky⟩ := Int.eq_ofNat_of_zero_le (show 0 ≤ b % 512 by omega)
  obtain ⟨s0, hs0⟩ := Int.eq_ofNat_of_zero_le (show 0 ≤ n % 32 by omega)
  have ha : bits .and .i64 a 511 = (kx : Int) := by rw [andm511, hkx]
  have hb : bits .and .i64 b 511 = (ky : Int) := by rw [andm511, hky]
  have hn : bits .and .i64 n 31 = (s0 : Int) := by rw [andm31, hs0]
  by_cases hx : needN kx ≤ 1 + s0
  · by_cases hy : needN ky ≤ 1 + s0
    · exact room_tt a b n kx ky s0 w ha hb hn (by omega) (by omega) (by omega) hx hy
    · exact room_tf a b n kx ky s0 w ha hb hn (by omega) (by omega) (by omega) hx (by omega)
  · by_cases hy : needN ky ≤ 1 + s0
    · exact room_ft a b n kx ky s0 w ha hb hn (by omega) (by omega) (by omega) (by omega) hy
    · exact room_ff a b n kx ky s0 w ha hb hn (by omega) (by omega) (by omega) (by omega) (by omega)
end Go.Proofs.Yticiaiiedagalaa.dk
