/- JournalLong: a record of any length is told whole. -/
import Derived.Test.YticiaiiedagalaaJO
namespace Go.Proofs.Yticiaiiedagalaa.dk
open Go.PlainAid Go.ChangeShapes Go.WideShapes Go.ChangeAt Go.RowKit

theorem src_row {B D L N : Nat} {P : Value} {m : Dk} {w w2 : World} {G k : Nat} {l : List Int} (h : DiskAt B D L N P m w) (hG : w.heap.size ≤ G) (hr : RowB G l w2) (hl : l.length = k) : Src D L N P w2 (some ⟨G, 0, none⟩) k l :=
  ⟨hr.rd hl, fun g off e _ => by
    injection e with e
    injection e with e1 e2
    rw [← e1]
    exact xd_fresh h hG⟩
set_option maxHeartbeats 4000000 in
set_option maxRecDepth 100000 in
theorem long_any (n c : Int) (w : World) :
    Calls Try.prog 7 #[.int .i64 n, .int .u8 c] w fun e w' => e = .returned (.bool true) ∧ Below w.heap.size w w' := by
  have HA := Lib.hid (awake_any w)
  obtain ⟨k, hk⟩ := Int.eq_ofNat_of_zero_le (show 0 ≤ n % 2048 by omega)
  have hn : bits .and .i64 n 2047 = (k : Int) := by rw [andm2047, hk]
  have hk2 : k ≤ 2047 := by omega
  clear hk
  have hq : needN k ≤ 60 ∧ 1 ≤ needN k := by have := needN_bd k; split at this <;> omega

  go_enter Try.func7, Try.ntmps7
  go_wp2_with (go_at_call 9; with_reducible refine HA.out.mono ?_; rintro e w0 ⟨rfl, hb0⟩)
  have HB0 := Lib.hid hb0
  have hN : Calls Try.prog 11 #[.int .i64 64] w0 _ := New_any 64 w0 (by omega) (by omega)
  clear HA hb0
  with_reducible refine hN.mono ?_
  clear hN
  rintro e w1 ⟨D, L, N, rfl, h1, hb1⟩
  have H1 := Lib.hid h1
  have HB1 := Lib.hid (HB0.out.trans (hb1.mono HB0.out.size))
  have hs01 : w.heap.size ≤ w0.heap.size := HB0.out.size
  have hs1 : w0.heap.size ≤ w1.heap.size := hb1.size
  have hO : Calls Try.prog 13 #[.pointer (some ⟨D, 0, none⟩), .int .i64 3, .int .i64 60] w1 (OpenPost w1 D 3 60 (fresh 64).now) := Open_ok h1 rfl (free_fresh 64).by_ 3 60 (by omega) (by decide) (by rw [(told_none (fresh 64).now 3 60 (fun i hi => pcF_fresh 64 3 i (by omega))).2]; decide)
  have HO := Lib.hid hO
  clear h1 hb1 hO HB0
  go_wp2_with fail
  with_reducible refine HO.out.mono ?_
  clear HO
  rintro e w2 ⟨A, p2, cc2, vs2, rfl, hA, hl2, _, hb2⟩
  rw [logOf_fresh D 64 3 60 (by omega)] at hl2
  have e2 : Hid ((toldOf (fresh 64).now 3 60).2.2 = []) := by
    show (toldOf (fresh 64).now 3 60).2.2 = []
    rw [(told_none (fresh 64).now 3 60 (fun i hi => pcF_fresh 64 3 i (by omega))).1]
  rw [e2.out]
  have HD2 := Lib.hid (H1.out.below hb2)
  have HL2 := Lib.hid hl2
  have HB2 := Lib.hid (HB1.out.trans (hb2.mono HB1.out.size))
  have hwA : w0.heap.size ≤ A := Nat.le_trans hs1 hA
  have HBy := Lib.hid (bytes2_any w2 k c (by omega))
  clear hl2 hb2 H1 HB1 e2
  go_wp2_with fail
  with_reducible refine HBy.out.mono ?_
  clear HBy
  rintro e w3 ⟨G, rfl, hG, hr3, hb3⟩
  have hS3 := src_row HD2.out hG hr3 (bsOf_len k c)
  have hb3l := HL2.out.below hb3
  have hd3 := HD2.out.below hb3
  have hbl := bsOf_len k c
  have ha3 : Calls Try.prog 27 #[.pointer (some ⟨A, 0, none⟩), .slice (some ⟨G, 0, none⟩) k k] w3 (AppPost w0.heap.size D L N (.slice none 0 0) A (appendOf { d := D, frm := 3, n := 60, place := 0, num := 1, ses := 1, broken := false } (fresh 64) (bsOf k c)) w3) :=
    Append_at hd3 hb3l hwA _ 0 k k _ hS3 (by omega) (by omega) (by omega) (by omega) (by decide) (by decide) (by omega) (by omega)
  obtain ⟨m1, em1, hm1⟩ := append_free_at (D := D) (frm := 3) (n := 60) (pl := 0) (nu := 1) (s := 1) (m := fresh 64) (b := bsOf k c) (bsOf_bys k c) (free_fresh 64) (by rw [hbl]; omega) (by decide) (by rw [hbl]; omega)
  rw [em1] at ha3
  obtain ⟨ht1, ht2⟩ := told_one hm1 (by omega) (by rw [hbl]; omega) (by rw [hbl]; omega)
  rw [hbl] at ha3 ht1
  have HA3 := Lib.hid ha3
  have HM1 := Lib.hid hm1
  have HT1 := Lib.hid ht1
  have HT2 := Lib.hid ht2
  have HB3 := Lib.hid (HB2.out.trans (hb3.mono HB2.out.size))
  have HR3 := Lib.hid hr3
  have hGl := hr3.lt
  have HX3 := Lib.hid (xd_fresh HD2.out hG)
  have hGA : G ≠ A := by have := HL2.out.lt; omega
  clear hS3 hb3l hd3 ha3 em1 hm1 ht1 ht2 hr3 hb3 hbl HB2
  go_wp2_with fail
  with_reducible refine HA3.out.mono ?_
  clear HA3
  rintro e w4 ⟨P4, rfl, hd4, hl4, hf4⟩
  have hO4 : Calls Try.prog 13 #[.pointer (some ⟨D, 0, none⟩), .int .i64 3, .int .i64 60] w4 (OpenPost w4 D 3 60 m1.now) := Open_ok hd4 HM1.out.free.dead HM1.out.free.by_ 3 60 (by omega) (by show 3 + 60 ≤ m1.n; rw [HM1.out.n]; decide) HT2.out
  have HO4 := Lib.hid hO4
  have HR4 : Hid (RowB G (bsOf k c) w4) := (hf4.fr G hGl HX3.out hGA).trans HR3.out
  have HL4 := Lib.hid hl4
  have HB4 := Lib.hid (HB3.out.trans (hf4.below.mono hs01))
  clear hd4 hl4 hf4 hO4 HR3 HB3
  go_wp2_with fail
  with_reducible refine HO4.out.mono ?_
  clear HO4
  rintro e w5 ⟨A5, p5, cc5, vs5, rfl, _, hl5, hr5, hb5⟩
  rw [HT1.out] at hr5 ⊢
  have HB5 := Lib.hid (HB4.out.trans (hb5.mono HB4.out.size))
  have HL5a := Lib.hid (HL4.out.below hb5)
  have hl5' : LogAt A5 { d := D, frm := 3, n := 60, place := needN k, num := 2, ses := sesOf m1.now 3 60 + 1, broken := false } w5 := by
    unfold logOf at hl5
    rw [HT1.out] at hl5
    exact hl5
  have HL5b := Lib.hid hl5'
  obtain ⟨g0, q0, c0, e0, k0, r0⟩ := hr5.get 0 (by show 0 < 1; omega)
  subst e0
  have hR5 := HR4.out.below hb5
  have hN := Need_any w5 (k : Int) (by omega)
  rw [needN_eq] at hN
  have HN := Lib.hid hN
  have d60 : decide ((60 : Int) < (needN k : Int)) = false := decide_eq_false (by omega)
  rw [show ([bsOf k c] : List (List Int)).getD 0 [] = bsOf k c from rfl, bsOf_len] at k0 r0
  rw [show ([bsOf k c] : List (List Int)).length = 1 from rfl]
  have V1 : ∀ y, (convert 45 9 (.slice q0 k c0)).run Try.prog (w5.drewN y) = .ok (.string (strOf (bsOf k c))) (w5.drewN y) := fun y => conv_rd (r0.below (below_drewN (Below.refl _ _) _))
  have V2 : ∀ y, (convert 45 9 (.slice (some ⟨G, 0, none⟩) k k)).run Try.prog (w5.drewN y) = .ok (.string (strOf (bsOf k c))) (w5.drewN y) := fun y => conv_rd ((hR5.rd (bsOf_len k c)).below (below_drewN (Below.refl _ _) _))
  generalize strOf (bsOf k c) = s at V1 V2
  have NQ : ∀ y, Calls Try.prog 32 #[.int .i64 (k : Int)] (w5.drewN y) fun e w' => e = .returned (.int .i64 (needN k : Int)) ∧ w' = w5.drewN y := fun y => by
    have := Need_any (w5.drewN y) (k : Int) (by omega)
    rw [needN_eq] at this
    exact same_of this
  have HNQ := Lib.hid NQ
  have RA : ∀ y, Calls Try.prog 30 #[.pointer (some ⟨A, 0, none⟩)] (w5.drewN y) fun e w' => e = .returned (.int .i64 (((60 : Nat) : Int) - ((0 + needN k : Nat) : Int))) ∧ ∃ z, w' = (w5.drewN y).drewN z := fun y => Room_any (HL5a.out.below (below_drewN (Below.refl _ _) y)) (by show (60 : Nat) ≤ 1000000; omega) (by show 0 + needN k ≤ 1000000; omega)
  have RB : ∀ y, Calls Try.prog 30 #[.pointer (some ⟨A5, 0, none⟩)] (w5.drewN y) fun e w' => e = .returned (.int .i64 (((60 : Nat) : Int) - (needN k : Int))) ∧ ∃ z, w' = (w5.drewN y).drewN z := fun y => Room_any (HL5b.out.below (below_drewN (Below.refl _ _) y)) (by show (60 : Nat) ≤ 1000000; omega) (by show needN k ≤ 1000000; omega)
  rw [Nat.zero_add] at RA
  rw [show ((60 : Nat) : Int) = 60 from rfl] at RA RB
  have HRA := Lib.hid RA
  have HRB := Lib.hid RB
  generalize hnk : needN k = q at HN HNQ HRA HRB d60 hq
  clear NQ RA RB hl5 hl5' hr5 hb5 r0 hR5 hN HL5a HL5b HT1 HT2 HM1 HR4 HB4 hnk
  go_wp2_with fail
  with_reducible refine HN.out.mono ?_
  rintro e w' ⟨rfl, rfl⟩
  go_wp2_with fail
  go_quiet ((first
    | (go_at_call_of 30 (Value.pointer (some ⟨A, 0, none⟩)); exact Calls.quiet_of (HRA.out _))
    | (go_at_call_of 30 (Value.pointer (some ⟨A5, 0, none⟩)); exact Calls.quiet_of (HRB.out _))
    | (go_at_call 32; exact Calls.quiet_of_same (HNQ.out _))))
  go_wp2
  go_ret
  exact ⟨rfl, HB5.out.trans (below_drewN (Below.refl _ _) _)⟩
end Go.Proofs.Yticiaiiedagalaa.dk
