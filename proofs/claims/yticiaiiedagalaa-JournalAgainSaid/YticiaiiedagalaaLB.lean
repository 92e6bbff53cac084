/- JournalAgain: the walk. -/
import Derived.Test.YticiaiiedagalaaLA
namespace Go.Proofs.Yticiaiiedagalaa.dk
open Go.PlainAid Go.ChangeShapes Go.WideShapes Go.ChangeAt Go.RowKit

theorem src_old {B D L N G k : Nat} {P : Value} {m : Dk} {w : World} {b : List Int} (h : DiskAt B D L N P m w) (hr : RowB G b w) (hl : b.length = k) (hG : G < B) : Src D L N P w (some ⟨G, 0, none⟩) k b :=
  ⟨hr.rd hl, fun g off e _ => by
    injection e with e
    injection e with e1 e2
    rw [← e1]
    have := h.bD
    have := h.bL
    have := h.bN
    rintro (e | e | e | e)
    · omega
    · omega
    · omega
    · have := (h.hP.lt G e).1; omega⟩
theorem log_of {D pl : Nat} {nu s : Int} {R : List (List Int)} {now : List Int} (h : tell (pcF now 0) = (pl, nu, R)) (hs : gr2 fS (pcF now 0) 16 = s) : logOf D 0 16 now = { d := D, frm := 0, n := 16, place := pl, num := nu, ses := s + 1, broken := false } := by
  unfold logOf
  rw [show toldOf now 0 16 = (pl, nu, R) from h, show sesOf now 0 16 = s from hs]
set_option maxHeartbeats 4000000 in
set_option maxRecDepth 100000 in
theorem again_great (a b fi se : Int) (p : Option Addr) (kn kc : Nat) (q : Option Addr) (hn hc : Nat) (w : World) (h : 200 < kn ∨ 200 < hn) :
    Calls Try.prog 5 #[.int .i64 a, .int .i64 b, .int .i64 fi, .int .i64 se, .slice p kn kc, .slice q hn hc] w fun e w' => e = .returned (.bool true) ∧ Below w.heap.size w w' := by
  have HA := Lib.hid (awake_any w)
  by_cases h1 : 200 < kn
  · have d1 : decide ((200 : Int) < (kn : Int)) = true := decide_eq_true (by omega)
    go_enter Try.func5, Try.ntmps5
    go_wp2_with (go_at_call 9; with_reducible refine HA.out.mono ?_; rintro e w0 ⟨rfl, hb0⟩)
    go_ret
    exact ⟨rfl, hb0⟩
  · have d1 : decide ((200 : Int) < (kn : Int)) = false := decide_eq_false (by omega)
    have d2 : decide ((200 : Int) < (hn : Int)) = true := decide_eq_true (by omega)
    go_enter Try.func5, Try.ntmps5
    go_wp2_with (go_at_call 9; with_reducible refine HA.out.mono ?_; rintro e w0 ⟨rfl, hb0⟩)
    go_ret
    exact ⟨rfl, hb0⟩
set_option maxHeartbeats 8000000 in
set_option maxRecDepth 100000 in
theorem again_some (a b fi se : Int) (p : Option Addr) (kn kc : Nat) (kb : List Bool) (q : Option Addr) (hn hc : Nat) (hb : List Bool) (w : World) (hkn : kn ≤ 200) (hhn : hn ≤ 200) (hK : Kb w.heap.size w p kn kb) (hH : Kb w.heap.size w q hn hb) :
    Calls Try.prog 5 #[.int .i64 a, .int .i64 b, .int .i64 fi, .int .i64 se, .slice p kn kc, .slice q hn hc] w fun e w' => e = .returned (.bool true) ∧ Below w.heap.size w w' := by
  have HA := Lib.hid (awake_any w)
  have HKb := Lib.hid hK
  have HHb := Lib.hid hH
  obtain ⟨kx, hkx⟩ := Int.eq_ofNat_of_zero_le (show 0 ≤ a % 512 by omega)
  obtain ⟨ky, hky⟩ := Int.eq_ofNat_of_zero_le (show 0 ≤ b % 512 by omega)
  obtain ⟨k1, hk1⟩ := Int.eq_ofNat_of_zero_le (show 0 ≤ fi % 16 by omega)
  obtain ⟨k2, hk2⟩ := Int.eq_ofNat_of_zero_le (show 0 ≤ se % 16 by omega)
  have ha : bits .and .i64 a 511 = (kx : Int) := by rw [andm511, hkx]
  have hbb : bits .and .i64 b 511 = (ky : Int) := by rw [andm511, hky]
  have hfi : bits .and .i64 fi 15 = (k1 : Int) := by rw [andm15, hk1]
  have hse : bits .and .i64 se 15 = (k2 : Int) := by rw [andm15, hk2]
  have bkx : kx ≤ 511 := by omega
  have bky : ky ≤ 511 := by omega
  have bk1 : k1 ≤ 15 := by omega
  have bk2 : k2 ≤ 15 := by omega
  have hqx : needN kx ≤ 11 := by have := needN_bd kx; split at this <;> omega
  have hqy : needN ky ≤ 11 := by have := needN_bd ky; split at this <;> omega
  have d1 : decide ((200 : Int) < (kn : Int)) = false := decide_eq_false (by omega)
  have d2 : decide ((200 : Int) < (hn : Int)) = false := decide_eq_false (by omega)
  clear hK hH hkx hky hk1 hk2
  obtain ⟨x, hx⟩ : ∃ x, x = bsOf kx 97 := ⟨_, rfl⟩
  obtain ⟨y, hy⟩ : ∃ y, y = bsOf ky 98 := ⟨_, rfl⟩
  have lx : x.length = kx := by rw [hx, bsOf_len]
  have ly : y.length = ky := by rw [hy, bsOf_len]
  have Bx : Bys x := by rw [hx]; exact bsOf_bys _ _
  have By : Bys y := by rw [hy]; exact bsOf_bys _ _
  have Hx : ∀ W : World, Calls Try.prog 28 #[.int .i64 (kx : Int), .int .u8 97] W (RowPost W kx x) := fun W => by rw [hx]; exact bytes2_any W kx 97 (by omega)
  have Hy : ∀ W : World, Calls Try.prog 28 #[.int .i64 (ky : Int), .int .u8 98] W (RowPost W ky y) := fun W => by rw [hy]; exact bytes2_any W ky 98 (by omega)
  have HX := Lib.hid Hx
  have HY := Lib.hid Hy
  rw [← lx] at hqx
  rw [← ly] at hqy
  clear hx hy Hx Hy
  go_enter Try.func5, Try.ntmps5
  go_wp2_with (go_at_call 9; with_reducible refine HA.out.mono ?_; rintro e w0 ⟨rfl, hb0⟩)
  have HB0 := Lib.hid hb0
  clear HA hb0
  with_reducible refine (HX.out w0).mono ?_
  clear HX
  rintro e w1 ⟨G1, rfl, hG1, hr1, hb1⟩
  have hG1l := hr1.lt
  have HR1 := Lib.hid hr1
  have HB1 := Lib.hid (HB0.out.trans (hb1.mono HB0.out.size))
  clear hr1 hb1
  go_wp2_with fail
  with_reducible refine (HY.out w1).mono ?_
  clear HY
  rintro e w2 ⟨G2, rfl, hG2, hr2, hb2⟩
  have HR2 := Lib.hid hr2
  have HR12 : Hid (RowB G1 x w2) := (hb2.block G1 hG1l).trans HR1.out
  have HB2 := Lib.hid (HB1.out.trans (hb2.mono HB1.out.size))
  have hG2l := hr2.lt
  have hG1m : G1 < w2.heap.size := Nat.lt_of_lt_of_le hG1l hb2.size
  have hs02 : w.heap.size ≤ w2.heap.size := HB2.out.size
  clear hr2 hb2 HR1 HB1 HB0 hG1 hG2 hG1l
  have hN : Calls Try.prog 11 #[.int .i64 16] w2 _ := New_any 16 w2 (by omega) (by omega)
  have HN := Lib.hid hN
  clear hN
  go_wp2_with fail
  with_reducible refine HN.out.mono ?_
  clear HN
  rintro e w3 ⟨D, L, N, rfl, h3, hb3⟩
  have H3 := Lib.hid h3
  have HB3 := Lib.hid hb3
  have hO : Calls Try.prog 13 #[.pointer (some ⟨D, 0, none⟩), .int .i64 0, .int .i64 16] w3 (OpenPost w3 D 0 16 (fresh 16).now) := Open_ok h3 rfl (free_fresh 16).by_ 0 16 (by omega) (by decide) (by rw [(told_none (fresh 16).now 0 16 (fun i hi => pcF_fresh 16 0 i (by omega))).2]; decide)
  have HO := Lib.hid hO
  clear h3 hb3 hO
  go_wp2_with fail
  with_reducible refine HO.out.mono ?_
  clear HO
  rintro e w4 ⟨A, p4, cc4, vs4, rfl, hA, hl4, _, hb4⟩
  rw [logOf_fresh D 16 0 16 (by omega)] at hl4
  have HD4 := Lib.hid (H3.out.below hb4)
  have HL4 := Lib.hid hl4
  have HB4 := Lib.hid (HB3.out.trans (hb4.mono HB3.out.size))
  have hwA : w2.heap.size ≤ A := Nat.le_trans HB3.out.size hA
  have HLm := Lib.hid (Limit_any HD4.out (k1 : Int) (by omega) (by omega))
  generalize (toldOf (fresh 16).now 0 16).2.2.length = n4
  clear hl4 hb4 H3 HB3 hA
  go_wp2_with fail
  with_reducible refine HLm.out.mono ?_
  clear HLm
  rintro e w5 ⟨rfl, hd5, hb5, hf5⟩
  rw [show max (k1 : Int) (-1) = (k1 : Int) by omega] at hd5
  have hl5 := HL4.out.d HD4.out (Bf.one hb5 hf5 (.inl rfl))
  have hb25 := HB4.out.trans hb5
  have hr15 : RowB G1 x w5 := (hb25.block G1 hG1m).trans HR12.out
  have hS5 := src_old hd5 hr15 lx hG1m
  obtain ⟨g1, m1, e1, K1, em1, he1, hp1, hn1, hw1, hliv1, hov1⟩ := laid_over (D := D) (pl := 0) (nu := 1) (s := 1) (m := { fresh 16 with limit := (k1 : Int) }) (b := x) Bx (liv_limit (liv_fresh 16) _) (by show (0 : Int) ≤ (k1 : Int); omega) rfl hqx kb
  have ha5 : Calls Try.prog 27 #[.pointer (some ⟨A, 0, none⟩), .slice (some ⟨G1, 0, none⟩) kx kx] w5 (AppPost w2.heap.size D L N (.slice none 0 0) A (appendOf { d := D, frm := 0, n := 16, place := 0, num := 1, ses := 1, broken := false } { fresh 16 with limit := (k1 : Int) } x) w5) :=
    Append_at hd5 hl5 hwA G1 0 kx kx x hS5 (Nat.le_refl _) (by omega) (by omega) (by omega) (by show (0 : Int) < 800000; decide) (by show (0 : Nat) ≤ 800000; decide) (by omega) (by omega)
  rw [em1] at ha5
  have HA5 := Lib.hid ha5
  have HB5 := Lib.hid hb25
  have HLv1 := Lib.hid hliv1
  have hw1' : m1.writes ≤ 12 := by have : m1.writes ≤ (0 : Int) + 12 := hw1; omega
  have hT1 := told_first (F := pcF (fresh 16).now 0) (F1 := pcF (reopened kb m1).now 0) (fun i hi => pcF_fresh 16 0 i (by omega)) hov1 hqx
  have HT1 := Lib.hid hT1
  have HO1 := Lib.hid hov1
  have HE1 := Lib.hid he1
  clear hd5 hb5 hf5 hl5 hb25 hr15 hS5 ha5 em1 he1 hw1 hliv1 hov1 hT1 HB4 HL4 HD4 hwA
  go_wp2_with fail
  with_reducible refine HA5.out.mono ?_
  clear HA5
  rintro e w6 ⟨P6, rfl, hd6, _, hf6⟩
  have HB6 := Lib.hid (HB5.out.trans hf6.below)
  have HRo := Lib.hid (Reopen_any hd6 p kn kc kb ((HKb.out.below (HB2.out.trans (HB6.out.mono hs02))).up hs02) (by omega) (by show m1.pend.length ≤ 1000000; omega))
  clear hd6 hf6 HB5
  go_wp2_with fail
  with_reducible refine HRo.out.mono ?_
  clear HRo
  rintro e w7 ⟨rfl, hd7, hb7⟩
  have HD7 := Lib.hid hd7
  have HB7 := Lib.hid (HB6.out.trans hb7.below)
  have hs7 : gr2 fS (pcF (reopened kb m1).now 0) 16 ≤ 1 := by
    rcases HT1.out with ⟨_, _, h⟩ | ⟨_, _, _, _, h | ⟨h, _⟩⟩ <;> omega
  have hO7 : Calls Try.prog 13 #[.pointer (some ⟨D, 0, none⟩), .int .i64 0, .int .i64 16] w7 (OpenPost w7 D 0 16 (reopened kb m1).now) := Open_ok hd7 rfl HLv1.out.bn 0 16 (by omega) (by show 0 + 16 ≤ m1.n; omega) (by show gr2 fS (pcF (reopened kb m1).now 0) 16 ≠ _; omega)
  have HO7 := Lib.hid hO7
  clear hd7 hb7 hO7 HB6
  go_wp2_with fail
  with_reducible refine HO7.out.mono ?_
  clear HO7
  rintro e w8 ⟨A8, p8, c8, vs8, rfl, hA8, hl8, hr8, hb8⟩
  have HD8 := Lib.hid (HD7.out.below hb8)
  have HB8 := Lib.hid (HB7.out.trans (hb8.mono HB7.out.size))
  have hwA8 : w2.heap.size ≤ A8 := Nat.le_trans HB7.out.size hA8
  have HRec8 := Lib.hid hr8
  have HL8 := Lib.hid hl8
  clear hl8 hr8 hb8 hA8 HD7 HB7
  have hTd : toldOf (reopened kb m1).now 0 16 = tell (pcF (reopened kb m1).now 0) := rfl
  rw [hTd] at HRec8 ⊢
  clear hTd
  rcases HT1.out with ⟨hT, hall, hs⟩ | ⟨nu, hT, hnu, hmiss, hs⟩
  · have hl8 := HL8.out
    rw [log_of hT hs] at hl8
    have HL8' := Lib.hid hl8
    rw [hT] at HRec8 ⊢
    have hr8 : RecAt w7.heap.size (.slice p8 1 c8) [x] vs8 w8 := HRec8.out
    rw [show ((needN x.length, (2 : Int), [x]) : Nat × Int × List (List Int)).2.2.length = 1 from rfl]
    obtain ⟨g0, q0, c0, rfl, k0, r0⟩ := hr8.get 0 (by simp)
    rw [show ([x] : List (List Int)).getD 0 [] = x from rfl, lx] at k0 r0
    have hrx : RowB G1 x w8 := (HB8.out.block G1 hG1m).trans HR12.out
    have r1 := hrx.rd lx
    have V1 : ∀ z, (convert 45 9 (.slice q0 kx c0)).run Try.prog (w8.drewN z) = .ok (.string (strOf x)) (w8.drewN z) := fun z => conv_rd (r0.below (below_drewN (Below.refl _ _) _))
    have V2 : ∀ z, (convert 45 9 (.slice (some ⟨G1, 0, none⟩) kx kx)).run Try.prog (w8.drewN z) = .ok (.string (strOf x)) (w8.drewN z) := fun z => conv_rd (r1.below (below_drewN (Below.refl _ _) _))
    clear hl8 HL8 HRec8 hr8 r0 r1 hrx
    by_cases he : e1 = 0
    · subst he
      go_wp2_with fail
      go_quiet (fail)
      have hd9 := HD8.out.below (below_drewN (Below.refl _ _) nq)
      have hl9 := HL8'.out.below (below_drewN (Below.refl _ _) nq)
      have hb9 : Below w2.heap.size w2 (w8.drewN nq) := below_drewN HB8.out nq
      clear HD8 HL8' HB8 V1 V2 k0
      generalize w8.drewN nq = w9 at hd9 hl9 hb9 ⊢
      have HD9 := Lib.hid hd9
      have HL9 := Lib.hid hl9
      have HB9 := Lib.hid hb9
      have HLm := Lib.hid (Limit_any hd9 (k2 : Int) (by omega) (by omega))
      clear hd9 hl9 hb9
      go_wp2_with fail
      with_reducible refine HLm.out.mono ?_
      clear HLm
      rintro e w10 ⟨rfl, hdA, hbA, hfA⟩
      rw [show max (k2 : Int) (-1) = (k2 : Int) by omega] at hdA
      have hlA := HL9.out.d HD9.out (Bf.one hbA hfA (.inl rfl))
      have hBA := HB9.out.trans hbA
      have hrA : RowB G2 y w10 := (hBA.block G2 hG2l).trans HR2.out
      have hSA := src_old hdA hrA ly hG2l
      have hpR : (reopened kb m1).pend = [] := rfl
      obtain ⟨g3, m3, e3, K3, em3, he3, hp3, hn3, hw3, hliv3, hov3⟩ := laid_over (D := D) (pl := needN x.length) (nu := 2) (s := 2) (m := { reopened kb m1 with limit := (k2 : Int) }) (b := y) By (liv_limit HLv1.out _) (by show (0 : Int) ≤ (k2 : Int); omega) hn1 hqy hb
      have haA : Calls Try.prog 27 #[.pointer (some ⟨A8, 0, none⟩), .slice (some ⟨G2, 0, none⟩) ky ky] w10 (AppPost w2.heap.size D L N (.slice none 0 0) A8 (appendOf { d := D, frm := 0, n := 16, place := needN x.length, num := 2, ses := 2, broken := false } { reopened kb m1 with limit := (k2 : Int) } y) w10) :=
        Append_at hdA hlA hwA8 G2 0 ky ky y hSA (Nat.le_refl _) (by omega) (by omega) (by omega) (by show m1.writes < 800000; omega) (by show (0 : Nat) ≤ 800000; decide) (by omega) (by omega)
      rw [em3] at haA
      have HAA := Lib.hid haA
      have HBA := Lib.hid hBA
      have HLv3 := Lib.hid hliv3
      have hw3' : m3.writes ≤ 100 := by have : m3.writes ≤ m1.writes + 12 := hw3; omega
      have hT2 := told_both (x := x) (y := y) (F := pcF (fresh 16).now 0) (F1 := pcF (reopened kb m1).now 0) (F2 := pcF (reopened hb m3).now 0) (fun i hi => pcF_fresh 16 0 i (by omega)) HO1.out hqx hall hqy hov3
      have hS2 := over_ses (s := 2) (by omega) hs7 hov3
      have HT2 := Lib.hid hT2
      have HE3 := Lib.hid he3
      clear hdA hbA hfA hlA hBA hrA hSA haA em3 he3 hw3 hliv3 hov3 hT2 HB9 HL9 HD9 hpR
      go_wp2_with fail
      with_reducible refine HAA.out.mono ?_
      clear HAA
      rintro e w11 ⟨P11, rfl, hd11, _, hf11⟩
      have HB11 := Lib.hid (HBA.out.trans hf11.below)
      have HRo := Lib.hid (Reopen_any hd11 q hn hc hb ((HHb.out.below (HB2.out.trans (HB11.out.mono hs02))).up hs02) (by omega) (by show m3.pend.length ≤ 1000000; omega))
      clear hd11 hf11 HBA
      go_wp2_with fail
      with_reducible refine HRo.out.mono ?_
      clear HRo
      rintro e w12 ⟨rfl, hd12, hb12⟩
      have HB12 := Lib.hid (HB11.out.trans hb12.below)
      have hO12 : Calls Try.prog 13 #[.pointer (some ⟨D, 0, none⟩), .int .i64 0, .int .i64 16] w12 (OpenPost w12 D 0 16 (reopened hb m3).now) := Open_ok hd12 rfl HLv3.out.bn 0 16 (by omega) (by show 0 + 16 ≤ m3.n; have : m3.n = 16 := hn3; omega) (by show gr2 fS (pcF (reopened hb m3).now 0) 16 ≠ _; omega)
      have HO12 := Lib.hid hO12
      clear hd12 hb12 hO12 HB11
      go_wp2_with fail
      with_reducible refine HO12.out.mono ?_
      clear HO12
      rintro e w13 ⟨A13, p13, c13, vs13, rfl, _, _, hr13, hb13⟩
      have HB13 := Lib.hid (HB12.out.trans (hb13.mono HB12.out.size))
      have HBw : Hid (Below w.heap.size w w13) := HB2.out.trans (HB13.out.mono hs02)
      have hTd : toldOf (reopened hb m3).now 0 16 = tell (pcF (reopened hb m3).now 0) := rfl
      rw [hTd] at hr13 ⊢
      clear hTd
      rcases HT2.out with hU | ⟨hU, hU2⟩
      · rw [hU] at hr13 ⊢
        rw [show ([x, y] : List (List Int)).length = 2 from rfl] at hr13 ⊢
        obtain ⟨ga0, qa0, ca0, rfl, ka0, ra0⟩ := hr13.get 0 (by simp)
        obtain ⟨ga1, qa1, ca1, ea1, ka1, ra1⟩ := hr13.get 1 (by simp)
        obtain rfl : ga0 = ga1 := by injection ea1 with e; injection e
        clear ea1
        rw [show ([x, y] : List (List Int)).getD 0 [] = x from rfl, lx] at ka0 ra0
        have rw0 := (show RowB G1 x w13 from (HB13.out.block G1 hG1m).trans HR12.out).rd lx
        have Va0 : ∀ z, (convert 45 9 (.slice qa0 kx ca0)).run Try.prog (w13.drewN z) = .ok (.string (strOf x)) (w13.drewN z) := fun z => conv_rd (ra0.below (below_drewN (Below.refl _ _) _))
        have Vb0 : ∀ z, (convert 45 9 (.slice (some ⟨G1, 0, none⟩) kx kx)).run Try.prog (w13.drewN z) = .ok (.string (strOf x)) (w13.drewN z) := fun z => conv_rd (rw0.below (below_drewN (Below.refl _ _) _))
        clear ra0 rw0
        rw [show ([x, y] : List (List Int)).getD 1 [] = y from rfl, ly] at ka1 ra1
        have rw1 := (show RowB G2 y w13 from (HB13.out.block G2 hG2l).trans HR2.out).rd ly
        have Va1 : ∀ z, (convert 45 9 (.slice qa1 ky ca1)).run Try.prog (w13.drewN z) = .ok (.string (strOf y)) (w13.drewN z) := fun z => conv_rd (ra1.below (below_drewN (Below.refl _ _) _))
        have Vb1 : ∀ z, (convert 45 9 (.slice (some ⟨G2, 0, none⟩) ky ky)).run Try.prog (w13.drewN z) = .ok (.string (strOf y)) (w13.drewN z) := fun z => conv_rd (rw1.below (below_drewN (Below.refl _ _) _))
        clear ra1 rw1
        clear hr13 hb13 HB13
        generalize strOf x = sx at Va0 Vb0
        generalize strOf y = sy at Va1 Vb1
        go_wp2_with fail
        go_quiet (fail)
        go_wp2_with fail
        go_quiet (fail)
        go_wp2
        go_ret
        exact ⟨rfl, below_drewN (below_drewN HBw.out _) _⟩
      · have de3 : (e3 != 0) = true := by
          rw [bne_iff_ne]
          intro h
          obtain ⟨j, hj, hkj⟩ := hU2
          rw [HE3.out h j hj] at hkj
          cases hkj
        rw [hU] at hr13 ⊢
        rw [show ([x] : List (List Int)).length = 1 from rfl] at hr13 ⊢
        obtain ⟨ga0, qa0, ca0, rfl, ka0, ra0⟩ := hr13.get 0 (by simp)
        rw [show ([x] : List (List Int)).getD 0 [] = x from rfl, lx] at ka0 ra0
        have rw0 := (show RowB G1 x w13 from (HB13.out.block G1 hG1m).trans HR12.out).rd lx
        have Va0 : ∀ z, (convert 45 9 (.slice qa0 kx ca0)).run Try.prog (w13.drewN z) = .ok (.string (strOf x)) (w13.drewN z) := fun z => conv_rd (ra0.below (below_drewN (Below.refl _ _) _))
        have Vb0 : ∀ z, (convert 45 9 (.slice (some ⟨G1, 0, none⟩) kx kx)).run Try.prog (w13.drewN z) = .ok (.string (strOf x)) (w13.drewN z) := fun z => conv_rd (rw0.below (below_drewN (Below.refl _ _) _))
        clear ra0 rw0
        clear hr13 hb13 HB13
        generalize strOf x = sx at Va0 Vb0
        go_wp2_with fail
        go_quiet (fail)
        go_wp2_with fail
        go_ret
        exact ⟨rfl, below_drewN HBw.out _⟩
    · have de : (e1 == 0) = false := beq_eq_false_iff_ne.2 he
      go_wp2_with fail
      go_quiet (fail)
      have hd9 := HD8.out.below (below_drewN (Below.refl _ _) nq)
      have hl9 := HL8'.out.below (below_drewN (Below.refl _ _) nq)
      have hb9 : Below w2.heap.size w2 (w8.drewN nq) := below_drewN HB8.out nq
      clear HD8 HL8' HB8 V1 V2 k0
      generalize w8.drewN nq = w9 at hd9 hl9 hb9 ⊢
      have HD9 := Lib.hid hd9
      have HL9 := Lib.hid hl9
      have HB9 := Lib.hid hb9
      have HLm := Lib.hid (Limit_any hd9 (k2 : Int) (by omega) (by omega))
      clear hd9 hl9 hb9
      go_wp2_with fail
      with_reducible refine HLm.out.mono ?_
      clear HLm
      rintro e w10 ⟨rfl, hdA, hbA, hfA⟩
      rw [show max (k2 : Int) (-1) = (k2 : Int) by omega] at hdA
      have hlA := HL9.out.d HD9.out (Bf.one hbA hfA (.inl rfl))
      have hBA := HB9.out.trans hbA
      have hrA : RowB G2 y w10 := (hBA.block G2 hG2l).trans HR2.out
      have hSA := src_old hdA hrA ly hG2l
      have hpR : (reopened kb m1).pend = [] := rfl
      obtain ⟨g3, m3, e3, K3, em3, he3, hp3, hn3, hw3, hliv3, hov3⟩ := laid_over (D := D) (pl := needN x.length) (nu := 2) (s := 2) (m := { reopened kb m1 with limit := (k2 : Int) }) (b := y) By (liv_limit HLv1.out _) (by show (0 : Int) ≤ (k2 : Int); omega) hn1 hqy hb
      have haA : Calls Try.prog 27 #[.pointer (some ⟨A8, 0, none⟩), .slice (some ⟨G2, 0, none⟩) ky ky] w10 (AppPost w2.heap.size D L N (.slice none 0 0) A8 (appendOf { d := D, frm := 0, n := 16, place := needN x.length, num := 2, ses := 2, broken := false } { reopened kb m1 with limit := (k2 : Int) } y) w10) :=
        Append_at hdA hlA hwA8 G2 0 ky ky y hSA (Nat.le_refl _) (by omega) (by omega) (by omega) (by show m1.writes < 800000; omega) (by show (0 : Nat) ≤ 800000; decide) (by omega) (by omega)
      rw [em3] at haA
      have HAA := Lib.hid haA
      have HBA := Lib.hid hBA
      have HLv3 := Lib.hid hliv3
      have hw3' : m3.writes ≤ 100 := by have : m3.writes ≤ m1.writes + 12 := hw3; omega
      have hT2 := told_both (x := x) (y := y) (F := pcF (fresh 16).now 0) (F1 := pcF (reopened kb m1).now 0) (F2 := pcF (reopened hb m3).now 0) (fun i hi => pcF_fresh 16 0 i (by omega)) HO1.out hqx hall hqy hov3
      have hS2 := over_ses (s := 2) (by omega) hs7 hov3
      have HT2 := Lib.hid hT2
      have HE3 := Lib.hid he3
      clear hdA hbA hfA hlA hBA hrA hSA haA em3 he3 hw3 hliv3 hov3 hT2 HB9 HL9 HD9 hpR
      go_wp2_with fail
      with_reducible refine HAA.out.mono ?_
      clear HAA
      rintro e w11 ⟨P11, rfl, hd11, _, hf11⟩
      have HB11 := Lib.hid (HBA.out.trans hf11.below)
      have HRo := Lib.hid (Reopen_any hd11 q hn hc hb ((HHb.out.below (HB2.out.trans (HB11.out.mono hs02))).up hs02) (by omega) (by show m3.pend.length ≤ 1000000; omega))
      clear hd11 hf11 HBA
      go_wp2_with fail
      with_reducible refine HRo.out.mono ?_
      clear HRo
      rintro e w12 ⟨rfl, hd12, hb12⟩
      have HB12 := Lib.hid (HB11.out.trans hb12.below)
      have hO12 : Calls Try.prog 13 #[.pointer (some ⟨D, 0, none⟩), .int .i64 0, .int .i64 16] w12 (OpenPost w12 D 0 16 (reopened hb m3).now) := Open_ok hd12 rfl HLv3.out.bn 0 16 (by omega) (by show 0 + 16 ≤ m3.n; have : m3.n = 16 := hn3; omega) (by show gr2 fS (pcF (reopened hb m3).now 0) 16 ≠ _; omega)
      have HO12 := Lib.hid hO12
      clear hd12 hb12 hO12 HB11
      go_wp2_with fail
      with_reducible refine HO12.out.mono ?_
      clear HO12
      rintro e w13 ⟨A13, p13, c13, vs13, rfl, _, _, hr13, hb13⟩
      have HB13 := Lib.hid (HB12.out.trans (hb13.mono HB12.out.size))
      have HBw : Hid (Below w.heap.size w w13) := HB2.out.trans (HB13.out.mono hs02)
      have hTd : toldOf (reopened hb m3).now 0 16 = tell (pcF (reopened hb m3).now 0) := rfl
      rw [hTd] at hr13 ⊢
      clear hTd
      rcases HT2.out with hU | ⟨hU, hU2⟩
      · rw [hU] at hr13 ⊢
        rw [show ([x, y] : List (List Int)).length = 2 from rfl] at hr13 ⊢
        obtain ⟨ga0, qa0, ca0, rfl, ka0, ra0⟩ := hr13.get 0 (by simp)
        obtain ⟨ga1, qa1, ca1, ea1, ka1, ra1⟩ := hr13.get 1 (by simp)
        obtain rfl : ga0 = ga1 := by injection ea1 with e; injection e
        clear ea1
        rw [show ([x, y] : List (List Int)).getD 0 [] = x from rfl, lx] at ka0 ra0
        have rw0 := (show RowB G1 x w13 from (HB13.out.block G1 hG1m).trans HR12.out).rd lx
        have Va0 : ∀ z, (convert 45 9 (.slice qa0 kx ca0)).run Try.prog (w13.drewN z) = .ok (.string (strOf x)) (w13.drewN z) := fun z => conv_rd (ra0.below (below_drewN (Below.refl _ _) _))
        have Vb0 : ∀ z, (convert 45 9 (.slice (some ⟨G1, 0, none⟩) kx kx)).run Try.prog (w13.drewN z) = .ok (.string (strOf x)) (w13.drewN z) := fun z => conv_rd (rw0.below (below_drewN (Below.refl _ _) _))
        clear ra0 rw0
        rw [show ([x, y] : List (List Int)).getD 1 [] = y from rfl, ly] at ka1 ra1
        have rw1 := (show RowB G2 y w13 from (HB13.out.block G2 hG2l).trans HR2.out).rd ly
        have Va1 : ∀ z, (convert 45 9 (.slice qa1 ky ca1)).run Try.prog (w13.drewN z) = .ok (.string (strOf y)) (w13.drewN z) := fun z => conv_rd (ra1.below (below_drewN (Below.refl _ _) _))
        have Vb1 : ∀ z, (convert 45 9 (.slice (some ⟨G2, 0, none⟩) ky ky)).run Try.prog (w13.drewN z) = .ok (.string (strOf y)) (w13.drewN z) := fun z => conv_rd (rw1.below (below_drewN (Below.refl _ _) _))
        clear ra1 rw1
        clear hr13 hb13 HB13
        generalize strOf x = sx at Va0 Vb0
        generalize strOf y = sy at Va1 Vb1
        go_wp2_with fail
        go_quiet (fail)
        go_wp2_with fail
        go_quiet (fail)
        go_wp2
        go_ret
        exact ⟨rfl, below_drewN (below_drewN HBw.out _) _⟩
      · have de3 : (e3 != 0) = true := by
          rw [bne_iff_ne]
          intro h
          obtain ⟨j, hj, hkj⟩ := hU2
          rw [HE3.out h j hj] at hkj
          cases hkj
        rw [hU] at hr13 ⊢
        rw [show ([x] : List (List Int)).length = 1 from rfl] at hr13 ⊢
        obtain ⟨ga0, qa0, ca0, rfl, ka0, ra0⟩ := hr13.get 0 (by simp)
        rw [show ([x] : List (List Int)).getD 0 [] = x from rfl, lx] at ka0 ra0
        have rw0 := (show RowB G1 x w13 from (HB13.out.block G1 hG1m).trans HR12.out).rd lx
        have Va0 : ∀ z, (convert 45 9 (.slice qa0 kx ca0)).run Try.prog (w13.drewN z) = .ok (.string (strOf x)) (w13.drewN z) := fun z => conv_rd (ra0.below (below_drewN (Below.refl _ _) _))
        have Vb0 : ∀ z, (convert 45 9 (.slice (some ⟨G1, 0, none⟩) kx kx)).run Try.prog (w13.drewN z) = .ok (.string (strOf x)) (w13.drewN z) := fun z => conv_rd (rw0.below (below_drewN (Below.refl _ _) _))
        clear ra0 rw0
        clear hr13 hb13 HB13
        generalize strOf x = sx at Va0 Vb0
        go_wp2_with fail
        go_quiet (fail)
        go_wp2_with fail
        go_ret
        exact ⟨rfl, below_drewN HBw.out _⟩
  · obtain ⟨sv, hsv, hs2⟩ : ∃ sv, gr2 fS (pcF (reopened kb m1).now 0) 16 + 1 = sv ∧ (sv = 2 ∨ (sv = 1 ∧ ∀ i, i < needN x.length → K1 i = false)) := ⟨_, rfl, by
      rcases hs with h | ⟨h, h2⟩
      · left; omega
      · right; exact ⟨by omega, h2⟩⟩
    obtain ⟨i0, hi0, hK0⟩ := hmiss
    have hl8 := HL8.out
    rw [log_of hT rfl, hsv] at hl8
    have HL8' := Lib.hid hl8
    rw [hT] at HRec8 ⊢
    rw [show ((0, nu, []) : Nat × Int × List (List Int)).2.2.length = 0 from rfl]
    have he : ¬ e1 = 0 := fun h => by
      have := HE1.out h i0 hi0
      rw [hK0] at this
      cases this
    have de : (e1 == 0) = false := beq_eq_false_iff_ne.2 he
    have hnub : 0 ≤ nu ∧ nu ≤ 4294967295 := by omega
    have hsvb : 0 ≤ sv ∧ sv ≤ 2 := by rcases hs2 with h | ⟨h, _⟩ <;> omega
    clear hl8 HL8 HRec8
    go_wp2_with fail
    go_quiet (fail)
    have hd9 := HD8.out.below (below_drewN (Below.refl _ _) nq)
    have hl9 := HL8'.out.below (below_drewN (Below.refl _ _) nq)
    have hb9 : Below w2.heap.size w2 (w8.drewN nq) := below_drewN HB8.out nq
    clear HD8 HL8' HB8
    generalize w8.drewN nq = w9 at hd9 hl9 hb9 ⊢
    have HD9 := Lib.hid hd9
    have HL9 := Lib.hid hl9
    have HB9 := Lib.hid hb9
    have HLm := Lib.hid (Limit_any hd9 (k2 : Int) (by omega) (by omega))
    clear hd9 hl9 hb9
    go_wp2_with fail
    with_reducible refine HLm.out.mono ?_
    clear HLm
    rintro e w10 ⟨rfl, hdA, hbA, hfA⟩
    rw [show max (k2 : Int) (-1) = (k2 : Int) by omega] at hdA
    have hlA := HL9.out.d HD9.out (Bf.one hbA hfA (.inl rfl))
    have hBA := HB9.out.trans hbA
    have hrA : RowB G2 y w10 := (hBA.block G2 hG2l).trans HR2.out
    have hSA := src_old hdA hrA ly hG2l
    have hpR : (reopened kb m1).pend = [] := rfl
    obtain ⟨g3, m3, e3, K3, em3, he3, hp3, hn3, hw3, hliv3, hov3⟩ := laid_over (D := D) (pl := 0) (nu := nu) (s := sv) (m := { reopened kb m1 with limit := (k2 : Int) }) (b := y) By (liv_limit HLv1.out _) (by show (0 : Int) ≤ (k2 : Int); omega) hn1 hqy hb
    have haA : Calls Try.prog 27 #[.pointer (some ⟨A8, 0, none⟩), .slice (some ⟨G2, 0, none⟩) ky ky] w10 (AppPost w2.heap.size D L N (.slice none 0 0) A8 (appendOf { d := D, frm := 0, n := 16, place := 0, num := nu, ses := sv, broken := false } { reopened kb m1 with limit := (k2 : Int) } y) w10) :=
      Append_at hdA hlA hwA8 G2 0 ky ky y hSA (Nat.le_refl _) (by omega) (by omega) (by omega) (by show m1.writes < 800000; omega) (by show (0 : Nat) ≤ 800000; decide) (by omega) (by omega)
    rw [em3] at haA
    have HAA := Lib.hid haA
    have HBA := Lib.hid hBA
    have HLv3 := Lib.hid hliv3
    have hw3' : m3.writes ≤ 100 := by have : m3.writes ≤ m1.writes + 12 := hw3; omega
    have hT2 := told_over2 (x := x) (y := y) (F := pcF (fresh 16).now 0) (F1 := pcF (reopened kb m1).now 0) (F2 := pcF (reopened hb m3).now 0) (fun i hi => pcF_fresh 16 0 i (by omega)) HO1.out hqx i0 hi0 hK0 hqy hnu hs2 hov3
    have hS2 := over_ses (s := sv) (by omega) hs7 hov3
    have HT2 := Lib.hid hT2
    have HE3 := Lib.hid he3
    clear hdA hbA hfA hlA hBA hrA hSA haA em3 he3 hw3 hliv3 hov3 hT2 HB9 HL9 HD9 hpR
    go_wp2_with fail
    with_reducible refine HAA.out.mono ?_
    clear HAA
    rintro e w11 ⟨P11, rfl, hd11, _, hf11⟩
    have HB11 := Lib.hid (HBA.out.trans hf11.below)
    have HRo := Lib.hid (Reopen_any hd11 q hn hc hb ((HHb.out.below (HB2.out.trans (HB11.out.mono hs02))).up hs02) (by omega) (by show m3.pend.length ≤ 1000000; omega))
    clear hd11 hf11 HBA
    go_wp2_with fail
    with_reducible refine HRo.out.mono ?_
    clear HRo
    rintro e w12 ⟨rfl, hd12, hb12⟩
    have HB12 := Lib.hid (HB11.out.trans hb12.below)
    have hO12 : Calls Try.prog 13 #[.pointer (some ⟨D, 0, none⟩), .int .i64 0, .int .i64 16] w12 (OpenPost w12 D 0 16 (reopened hb m3).now) := Open_ok hd12 rfl HLv3.out.bn 0 16 (by omega) (by show 0 + 16 ≤ m3.n; have : m3.n = 16 := hn3; omega) (by show gr2 fS (pcF (reopened hb m3).now 0) 16 ≠ _; omega)
    have HO12 := Lib.hid hO12
    clear hd12 hb12 hO12 HB11
    go_wp2_with fail
    with_reducible refine HO12.out.mono ?_
    clear HO12
    rintro e w13 ⟨A13, p13, c13, vs13, rfl, _, _, hr13, hb13⟩
    have HB13 := Lib.hid (HB12.out.trans (hb13.mono HB12.out.size))
    have HBw : Hid (Below w.heap.size w w13) := HB2.out.trans (HB13.out.mono hs02)
    have hTd : toldOf (reopened hb m3).now 0 16 = tell (pcF (reopened hb m3).now 0) := rfl
    rw [hTd] at hr13 ⊢
    clear hTd
    rcases HT2.out with hU | ⟨hU, hU2⟩
    · rw [hU] at hr13 ⊢
      rw [show ([y] : List (List Int)).length = 1 from rfl] at hr13 ⊢
      obtain ⟨ga0, qa0, ca0, rfl, ka0, ra0⟩ := hr13.get 0 (by simp)
      rw [show ([y] : List (List Int)).getD 0 [] = y from rfl, ly] at ka0 ra0
      have rw0 := (show RowB G2 y w13 from (HB13.out.block G2 hG2l).trans HR2.out).rd ly
      have Va0 : ∀ z, (convert 45 9 (.slice qa0 ky ca0)).run Try.prog (w13.drewN z) = .ok (.string (strOf y)) (w13.drewN z) := fun z => conv_rd (ra0.below (below_drewN (Below.refl _ _) _))
      have Vb0 : ∀ z, (convert 45 9 (.slice (some ⟨G2, 0, none⟩) ky ky)).run Try.prog (w13.drewN z) = .ok (.string (strOf y)) (w13.drewN z) := fun z => conv_rd (rw0.below (below_drewN (Below.refl _ _) _))
      clear ra0 rw0
      clear hr13 hb13 HB13
      generalize strOf y = sy at Va0 Vb0
      go_wp2_with fail
      go_quiet (fail)
      go_wp2_with fail
      go_quiet (fail)
      go_wp2
      go_ret
      exact ⟨rfl, below_drewN (below_drewN HBw.out _) _⟩
    · have de3 : (e3 != 0) = true := by
        rw [bne_iff_ne]
        intro h
        obtain ⟨j, hj, hkj⟩ := hU2
        rw [HE3.out h j hj] at hkj
        cases hkj
      rw [hU] at hr13 ⊢
      rw [show ([] : List (List Int)).length = 0 from rfl] at hr13 ⊢
      clear hr13 hb13 HB13
      go_wp2_with fail
      go_quiet (fail)
      go_wp2_with fail
      go_ret
      exact ⟨rfl, below_drewN HBw.out _⟩
theorem again_any (a b fi se : Int) (p : Option Addr) (kn kc : Nat) (kb : List Bool) (q : Option Addr) (hn hc : Nat) (hb : List Bool) (w : World) (hK : Kb w.heap.size w p kn kb) (hH : Kb w.heap.size w q hn hb) :
    Calls Try.prog 5 #[.int .i64 a, .int .i64 b, .int .i64 fi, .int .i64 se, .slice p kn kc, .slice q hn hc] w fun e w' => e = .returned (.bool true) ∧ Below w.heap.size w w' := by
  by_cases h : 200 < kn ∨ 200 < hn
  · exact again_great a b fi se p kn kc q hn hc w h
  · exact again_some a b fi se p kn kc kb q hn hc hb w (by omega) (by omega) hK hH
end Go.Proofs.Yticiaiiedagalaa.dk
