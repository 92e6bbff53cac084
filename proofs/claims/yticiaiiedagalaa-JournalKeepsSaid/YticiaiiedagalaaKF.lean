/- JournalKeeps: the walk. -/
import Derived.Test.YticiaiiedagalaaKE
namespace Go.Proofs.Yticiaiiedagalaa.dk
open Go.PlainAid Go.ChangeShapes Go.WideShapes Go.ChangeAt Go.RowKit

set_option maxHeartbeats 4000000 in
set_option maxRecDepth 100000 in
theorem keeps_great (p : Option Addr) (n c : Nat) (li : Int) (q : Option Addr) (kn kc : Nat) (w : World) (h : 20 < n ∨ 200 < kn) :
    Calls Try.prog 4 #[.slice p n c, .int .i64 li, .slice q kn kc] w fun e w' => e = .returned (.bool true) ∧ Below w.heap.size w w' := by
  have HA := Lib.hid (awake_any w)
  by_cases h1 : 20 < n
  · have d1 : decide ((20 : Int) < (n : Int)) = true := decide_eq_true (by omega)
    go_enter Try.func4, Try.ntmps4
    go_wp2_with (go_at_call 9; with_reducible refine HA.out.mono ?_; rintro e w0 ⟨rfl, hb0⟩)
    go_ret
    exact ⟨rfl, hb0⟩
  · have d1 : decide ((20 : Int) < (n : Int)) = false := decide_eq_false (by omega)
    have d2 : decide ((200 : Int) < (kn : Int)) = true := decide_eq_true (by omega)
    go_enter Try.func4, Try.ntmps4
    go_wp2_with (go_at_call 9; with_reducible refine HA.out.mono ?_; rintro e w0 ⟨rfl, hb0⟩)
    go_ret
    exact ⟨rfl, hb0⟩
set_option maxHeartbeats 8000000 in
set_option maxRecDepth 100000 in
theorem keeps_some (p : Option Addr) (n c : Nat) (l : List Int) (li : Int) (q : Option Addr) (kn kc : Nat) (kb : List Bool) (w : World) (hn : n ≤ 20) (hkn : kn ≤ 200) (hl : Ri w.heap.size w p n l) (hk : Kb w.heap.size w q kn kb) :
    Calls Try.prog 4 #[.slice p n c, .int .i64 li, .slice q kn kc] w fun e w' => e = .returned (.bool true) ∧ Below w.heap.size w w' := by
  have HA := Lib.hid (awake_any w)
  have HLi := Lib.hid hl
  have HKb := Lib.hid hk
  obtain ⟨k63, hk63⟩ := Int.eq_ofNat_of_zero_le (show 0 ≤ li % 64 by omega)
  have hli : bits .and .i64 li 63 = (k63 : Int) := by rw [andm63, hk63]
  have hk63b : k63 ≤ 63 := by omega
  have d1 : decide ((20 : Int) < (n : Int)) = false := decide_eq_false (by omega)
  have d2 : decide ((200 : Int) < (kn : Int)) = false := decide_eq_false (by omega)
  clear hl hk hk63
  go_enter Try.func4, Try.ntmps4
  go_wp2_with (go_at_call 9; with_reducible refine HA.out.mono ?_; rintro e w0 ⟨rfl, hb0⟩)
  have HB0 := Lib.hid hb0
  have hN : Calls Try.prog 11 #[.int .i64 64] w0 _ := New_any 64 w0 (by omega) (by omega)
  clear HA hb0
  with_reducible refine hN.mono ?_
  clear hN
  rintro e w1 ⟨D, L, N, rfl, h1, hb1⟩
  have H1 := Lib.hid h1
  have HB1 := Lib.hid (HB0.out.trans (hb1.mono HB0.out.size))
  have hs01 : w.heap.size ≤ w0.heap.size := HB0.out.size
  have hs1 : w0.heap.size ≤ w1.heap.size := hb1.size
  have hDLN := h1.lt
  have hO : Calls Try.prog 13 #[.pointer (some ⟨D, 0, none⟩), .int .i64 0, .int .i64 64] w1 (OpenPost w1 D 0 64 (fresh 64).now) := Open_ok h1 rfl (free_fresh 64).by_ 0 64 (by omega) (by decide) (by rw [(told_none (fresh 64).now 0 64 (fun i hi => pcF_fresh 64 0 i (by omega))).2]; decide)
  have HO := Lib.hid hO
  clear h1 hb1 hO HB0
  go_wp2_with fail
  with_reducible refine HO.out.mono ?_
  clear HO
  rintro e w2 ⟨A, p2, cc2, vs2, rfl, hA, hl2, _, hb2⟩
  rw [logOf_fresh D 64 0 64 (by omega)] at hl2
  have e2 : Hid ((toldOf (fresh 64).now 0 64).2.2 = []) := by
    show (toldOf (fresh 64).now 0 64).2.2 = []
    rw [(told_none (fresh 64).now 0 64 (fun i hi => pcF_fresh 64 0 i (by omega))).1]
  rw [e2.out]
  have HD2 := Lib.hid (H1.out.below hb2)
  have HL2 := Lib.hid hl2
  have HB2 := Lib.hid (HB1.out.trans (hb2.mono HB1.out.size))
  have hwA : w0.heap.size ≤ A := Nat.le_trans hs1 hA
  have hs2 := hb2.size
  have hAl := hl2.lt
  have HLm := Lib.hid (Limit_any HD2.out (k63 : Int) (by omega) (by omega))
  have hDB : D < w2.heap.size ∧ L < w2.heap.size ∧ N < w2.heap.size := by omega
  clear hl2 hb2 H1 HB1 e2 hDLN
  go_wp2_with fail
  with_reducible refine HLm.out.mono ?_
  clear HLm
  rintro e w3 ⟨rfl, h3, hb3, hf3⟩
  have hlk : LkF w0.heap.size D L N (.slice none 0 0) A w2 (.slice none 0 0) w3 := LkF.of (DkF.of (Bf.one hb3 hf3 (.inl rfl)))
  rw [show max (k63 : Int) (-1) = (k63 : Int) by omega] at h3
  have HL3 := Lib.hid (HL2.out.d HD2.out (Bf.one hb3 hf3 (.inl rfl)))
  have hs3 : w2.heap.size ≤ w3.heap.size := hlk.below.size
  have HK3 : Hid (KA w l w0.heap.size D L N A w2.heap.size 0 { fresh 64 with limit := (k63 : Int) } (.slice none 0 0) none 0 [] w3) := ⟨h3, ⟨World.ownsRow_nil _ _ _ _, fun i hi => absurd hi (by simp [bsK])⟩, HB2.out.trans (hb3.mono hs01), rfl, by show (0 : Int) ≤ 1000 * ((0 : Nat) : Int) + 2000; decide, hs3⟩
  have HV3 : Hid (KLive l D A 0 { fresh 64 with limit := (k63 : Int) } w3) := ⟨HL3.out, liv_limit (liv_fresh 64) _, by show (0 : Int) ≤ (k63 : Int); omega, by show (0 : Int) ≤ 1000 * ((0 : Nat) : Int) + 1000; decide, seq_zero _ _ _ (fun x hx => secOf_rep _ _ (by omega))⟩
  clear h3 hb3 hf3 hlk HD2 HL2 HL3 HB2
  go_upto_block 0 with fail
  go_cut [13, 14, 15, 16, 17] (fun v13 v14 _ _ _ wx => ∃ (j : Nat) (m : Dk) (P : Value) (p : Option Addr) (cc : Nat) (vs : List Value), v13 = .slice p j cc ∧ j ≤ n ∧ Hid (KA w l w0.heap.size D L N A w2.heap.size j m P p cc vs wx) ∧ Hid (KLive l D A j m wx ∨ (j < n ∧ KDead l w2.heap.size D j m v14 wx)))
  case first =>
    go_wp2_with fail
    go_loopw [13, 14, 15] (fun v13 v14 v15 wr => ∃ (i j : Nat) (m : Dk) (P : Value) (p : Option Addr) (cc : Nat) (vs : List Value), v15 = .int .i64 (i : Int) ∧ v13 = .slice p j cc ∧ i ≤ n ∧ j ≤ i ∧ Hid (KA w l w0.heap.size D L N A w2.heap.size j m P p cc vs wr) ∧ Hid ((i = j ∧ KLive l D A j m wr) ∨ (i = j + 1 ∧ KDead l w2.heap.size D j m v14 wr))) (fun _ _ v15 _ => n - (intOf v15).toNat)
    case atStart => exact ⟨0, 0, _, _, none, 0, [], rfl, rfl, Nat.zero_le _, Nat.zero_le _, HK3.out, .inl ⟨rfl, HV3.out⟩⟩
    case round =>
      clear HK3 HV3
      obtain ⟨i, j, m, P, pw, cw, vs, rfl, rfl, hi, hji, HK, HM⟩ := hrel
      have HDe := Lib.hid (Dead_any HK.out.d)
      rcases HM.out with ⟨hij, hlive⟩ | ⟨hij, hdead⟩
      · subst hij
        by_cases hin : i < n
        · have di : decide ((i : Int) < (n : Int)) = true := decide_eq_true (by omega)
          have hde := HDe.out
          rw [hlive.liv.dead] at hde
          have HDe2 := Lib.hid hde
          have HLv := Lib.hid hlive
          clear hde hlive HM HDe
          obtain ⟨lb, lo, rfl, _, hcell⟩ := (HLi.out.below HK.out.b).2 (by omega)
          have hc := hcell i hin
          obtain ⟨kk, hkk⟩ := Int.eq_ofNat_of_zero_le (show 0 ≤ (l.getD i 0) % 128 by omega)
          have hand : bits .and .i64 (l.getD i 0) 127 = (kk : Int) := by rw [andm127, hkk]
          have hkb : kk ≤ 127 := by omega
          have hfk : Hid (fK l i = bsOf kk (i : Int)) := by
            show fK l i = bsOf kk (i : Int)
            unfold fK; rw [hkk]; rfl
          have hby := bytes2_any wr kk (i : Int) (by omega)
          rw [← hfk.out] at hby
          have HBy := Lib.hid hby
          have hlen : (fK l i).length = kk := by rw [hfk.out, bsOf_len]
          have HLen := Lib.hid hlen
          have hbys : Bys (fK l i) := by rw [hfk.out]; exact bsOf_bys _ _
          have hnd := fK_need l i
          have hpl := fK_pl l i
          clear hcell hkk hby
          generalize l.getD i 0 = y at hc hand
          go_wp2_with (go_at_call 34; with_reducible refine HDe2.out.mono ?_; rintro e w' ⟨rfl, rfl⟩)
          with_reducible refine HBy.out.mono ?_
          clear HBy
          rintro e w4 ⟨G, rfl, hG, hr4, hb4⟩
          have hd4 := HK.out.d.below hb4
          have hl4 := HLv.out.g.below hb4
          have HRec4 := Lib.hid (HK.out.r.below hb4)
          have HB4 := Lib.hid (HK.out.b.trans (hb4.mono HK.out.b.size))
          have hS4 := src_row HK.out.d hG hr4 hlen
          have hmn := HK.out.n
          have hmw := HLv.out.wr
          have hm100 : m.writes < 800000 := by omega
          have hmp : m.pend.length ≤ 800000 := by rw [HLv.out.liv.pend]; decide
          have ha4 := Append_at hd4 hl4 hwA G 0 kk kk (fK l i) hS4 (Nat.le_refl _) (by omega) (by omega) (by omega) hm100 hmp (by omega) (by omega)
          have HA4 := Lib.hid ha4
          have HD4 := Lib.hid hd4
          have HR4 := Lib.hid hr4
          have hG2 : w2.heap.size ≤ G := by have := HK.out.sz; omega
          have hGA : G ≠ A := by omega
          have HXG := Lib.hid (xd_fresh HK.out.d hG)
          have hGl := hr4.lt
          clear hd4 hl4 hS4 ha4 hr4 hc hand hb4
          have hcases := append_lim (D := D) (frm := 0) (n := 64) (pl := plK (fK l) i) (nu := (i : Int) + 1) (s := 1) (m := m) (b := fK l i) hbys HLv.out.liv HLv.out.lim (by omega) (by omega) (by omega)
          rcases hcases with ⟨m2, em2, hm2, _⟩ | ⟨m2, em2, hm2, _⟩
          · have ha5 := HA4.out
            rw [em2] at ha5
            have HA5 := Lib.hid ha5
            have HM2 := Lib.hid hm2
            clear ha5 HA4 em2 hm2
            go_wp2_with fail
            with_reducible refine HA5.out.mono ?_
            clear HA5
            rintro e w5 ⟨P5, rfl, hd5, hl5, hf5⟩
            have hR5 := HRec4.out.lk HD4.out hDB.1 hDB.2.1 hDB.2.2 (by omega) hf5
            have hr5 : RowB G (fK l i) w5 := (hf5.fr G hGl (xd_fresh HK.out.d hG) hGA).trans HR4.out
            have hro := row_owned hr5 hlen hG2 (by omega)
            rw [hlen] at hro
            have hb6 : Below w5.heap.size w5 (w5.alloc (.cells #[.slice (some ⟨G, 0, none⟩) kk kk] 45)) := (Below.refl _ _).alloc (Nat.le_refl _) _
            have hc6 : (w5.alloc (.cells #[.slice (some ⟨G, 0, none⟩) kk kk] 45)).cell? ⟨w5.heap.size, 0, none⟩ = some (.slice (some ⟨G, 0, none⟩) (fK l i).length kk) := by rw [hlen]; exact cell_of_row _ _ _ _ _ _ (heap_alloc_new _ _)
            have hro6 := owned_keeps hro (fun g hg => hb6.block g (hro.lt g hg).2)
            have hsz5 : w2.heap.size ≤ w5.heap.size := by have := hf5.below.size; have := HK.out.sz; omega
            obtain ⟨p8, c8, w8, hr8, hR8, hb8, hg8⟩ := append_rec (c := 1) (hR5.below hb6) (by rw [hlen]; exact hro6) hc6 (by rw [bsK_len]; omega) (Nat.le_trans hsz5 hb6.size)
            have el8 : (bsK (fK l) i ++ [fK l i]).length = i + 1 := by rw [List.length_append, bsK_len]; rfl
            rw [el8] at hr8 hR8
            rw [← bsK_succ] at hR8
            have HR8 := Lib.hid hr8
            have hd8 := (hd5.below hb6).grown (hR5.below hb6) hg8
            have hl8 := (hl5.below hb6).grown (hR5.below hb6) hg8
            have hb58 : Below w.heap.size w5 w8 := (hb6.mono (by have := HLi.out; omega)).trans (hb8.mono (by omega))
            have hm2w := HM2.out.wr
            have hm2n := HM2.out.n
            have hm2s := HM2.out.sec
            have hKA8 : Hid (KA w l w0.heap.size D L N A w2.heap.size (i + 1) m2 P5 p8 c8 (vs ++ [.slice (some ⟨G, 0, none⟩) (fK l i).length kk]) w8) := ⟨hd8, hR8, (HB4.out.trans (hf5.below.mono hs01)).trans hb58, hm2n.trans hmn, by rw [hm2w]; omega, Nat.le_trans hsz5 (Nat.le_trans hb6.size hb8.size)⟩
            have hKL8 : Hid (KLive l D A (i + 1) m2 w8) := ⟨by
              rw [show ((i : Int) + 1 + 1) % 4294967296 = ((i + 1 : Nat) : Int) + 1 by omega] at hl8
              exact hl8, HM2.out.liv, by rw [HM2.out.lim]; omega, by rw [hm2w]; omega, seq_succ HLv.out.seq (by omega) (fun x hx => by
                have := hm2s x (by omega)
                rw [this]
                show (if 0 + plK (fK l) i ≤ x ∧ x < 0 + plK (fK l) i + needN (fK l i).length then pieceOf 1 ((i : Int) + 1) (fK l i) (needN (fK l i).length) (x - (0 + plK (fK l) i)) else secOf m.now x) = _
                rw [Nat.zero_add])⟩
            clear hd8 hl8 hb58 hm2w hm2n hm2s hR8 hg8 hb8 hro6 hc6 hb6 hro hr5 hR5 hd5 hl5 hf5 HM2 HD4 HR4 HRec4 HK HLv HXG hsz5
            have HR := Lib.hid hr8
            clear hr8
            go_wp2_with (at_builtin; refine wpList_append_run rfl _ _ _ rfl _ _ _ _ rfl rfl HR.out ?_)
            constructor
            · exact ⟨i + 1, i + 1, m2, P5, p8, c8, _, by go_num, rfl, hin, Nat.le_refl _, hKA8.out, .inl ⟨rfl, hKL8.out⟩⟩
            · show n - ((i : Int) + 1).toNat < n - (i : Int).toNat
              omega
          · have ha5 := HA4.out
            rw [em2] at ha5
            have HA5 := Lib.hid ha5
            have HM2 := Lib.hid hm2
            clear ha5 HA4 em2 hm2
            go_wp2_with fail
            with_reducible refine HA5.out.mono ?_
            clear HA5
            rintro e w5 ⟨P5, rfl, hd5, hl5, hf5⟩
            have hR5 := HRec4.out.lk HD4.out hDB.1 hDB.2.1 hDB.2.2 (by omega) hf5
            have hr5 : RowB G (fK l i) w5 := (hf5.fr G hGl (xd_fresh HK.out.d hG) hGA).trans HR4.out
            have hsz5 : w2.heap.size ≤ w5.heap.size := by have := hf5.below.size; have := HK.out.sz; omega
            have hm2w := HM2.out.mid.wr
            have hm2n := HM2.out.mid.n
            have hkc := HM2.out.kc
            have hKA8 : Hid (KA w l w0.heap.size D L N A w2.heap.size i m2 P5 pw cw vs w5) := ⟨hd5, hR5, HB4.out.trans (hf5.below.mono hs01), hm2n.trans hmn, by rw [hm2w]; omega, hsz5⟩
            have hKD8 : Hid (KDead l w2.heap.size D i m2 (.slice (some ⟨G, 0, none⟩) kk kk) w5) := ⟨m, G, _, HLv.out.liv, hmn, HLv.out.wr, HLv.out.seq, HM2.out, by rw [hlen], hr5, hG2⟩
            clear hR5 hr5 hd5 hl5 hf5 HM2 HD4 HR4 HRec4 HK HLv HXG hsz5 hm2w hm2n hkc
            go_wp2
            constructor
            · exact ⟨i + 1, i, m2, P5, pw, cw, _, by go_num, rfl, hin, Nat.le_succ _, hKA8.out, .inr ⟨rfl, hKD8.out⟩⟩
            · show n - ((i : Int) + 1).toNat < n - (i : Int).toNat
              omega
        · have di : decide ((i : Int) < (n : Int)) = false := decide_eq_false (by omega)
          have hE : Hid (KLive l D A i m wr) := hlive
          clear hlive HM HDe
          go_wp2_with fail
          go_meet
          exact ⟨i, m, P, pw, cw, vs, rfl, by omega, HK, .inl hE.out⟩
      · have hdd : m.dead = true := by obtain ⟨_, _, _, _, _, _, _, h, _⟩ := hdead; exact h.dead
        have HDd := Lib.hid hdead
        have hde := HDe.out
        rw [hdd] at hde
        have HDe2 := Lib.hid hde
        clear hdead HM HDe hde
        by_cases hin : i < n
        · have di : decide ((i : Int) < (n : Int)) = true := decide_eq_true (by omega)
          go_wp2_with (go_at_call 34; with_reducible refine HDe2.out.mono ?_; rintro e w' ⟨rfl, rfl⟩)
          go_meet
          exact ⟨j, m, P, pw, cw, vs, rfl, by omega, HK, .inr ⟨by omega, HDd.out⟩⟩
        · have di : decide ((i : Int) < (n : Int)) = false := decide_eq_false (by omega)
          go_wp2_with fail
          go_meet
          exact ⟨j, m, P, pw, cw, vs, rfl, by omega, HK, .inr ⟨by omega, HDd.out⟩⟩
  case rest =>
    clear HK3 HV3
    obtain ⟨j, m, P, pw, cw, vs, rfl, hj, HK, HM⟩ := hcut
    have hpe := keep_pend HM.out
    have hmn : m.n = 64 := HK.out.n
    have hKT := keep_told (l := l) (B2 := w2.heap.size) (D := D) (j := j) (m := m) (v := u14) (W := wc) (by omega) hmn (by
      rcases HM.out with h | ⟨h1, h2⟩
      · exact .inl ⟨h.liv, h.seq⟩
      · exact .inr ⟨by omega, h2⟩) kb
    have HKT := Lib.hid hKT
    have hfl : m.dead = true → ∃ (G : Nat), u14 = .slice (some ⟨G, 0, none⟩) (fK l j).length (fK l j).length ∧ RowB G (fK l j) wc ∧ w2.heap.size ≤ G := fun hd => by
      rcases HM.out with h | ⟨_, _, G, _, _, _, _, _, _, h1, h2⟩
      · rw [h.liv.dead] at hd; cases hd
      · exact ⟨G, h1, h2⟩
    have HFl := Lib.hid hfl
    have HDe := Lib.hid (Dead_any HK.out.d)
    have HRo := Lib.hid (Reopen_any HK.out.d q kn kc kb ((HKb.out.below HK.out.b).up hs01) (by omega) hpe)
    clear hKT hfl hpe HM
    go_wp2_with (go_at_call 34; with_reducible refine HDe.out.mono ?_; rintro e w' ⟨rfl, rfl⟩)
    clear HDe
    with_reducible refine HRo.out.mono ?_
    clear HRo
    rintro e w4 ⟨rfl, hd4, hb4⟩
    have HR4 := Lib.hid (HK.out.r.lk HK.out.d hDB.1 hDB.2.1 hDB.2.2 hAl (LkF.of (A := A) (DkF.of hb4)))
    have HB4 := Lib.hid (HK.out.b.trans (hb4.below.mono hs01))
    have HS4 : Hid (w2.heap.size ≤ w4.heap.size) := Nat.le_trans HK.out.sz hb4.below.size
    have hO : Calls Try.prog 13 #[.pointer (some ⟨D, 0, none⟩), .int .i64 0, .int .i64 64] w4 (OpenPost w4 D 0 64 (reopened kb m).now) := Open_ok hd4 rfl HKT.out.1 0 64 (by omega) (by show 0 + 64 ≤ m.n; omega) HKT.out.2.1
    have HO := Lib.hid hO
    have hrd4 : m.dead = true → ∃ (G : Nat), u14 = .slice (some ⟨G, 0, none⟩) (fK l j).length (fK l j).length ∧ RowB G (fK l j) w4 := fun hd => by
      obtain ⟨G, h1, h2, h3⟩ := HFl.out hd
      exact ⟨G, h1, h2.lk HK.out.d hDB.1 hDB.2.1 hDB.2.2 hAl h3 (LkF.of (A := A) (DkF.of hb4))⟩
    have HFl4 := Lib.hid hrd4
    generalize m.dead = dd at HFl4 HKT ⊢
    clear hd4 hb4 hO hrd4 HFl HK
    go_wp2_with fail
    with_reducible refine HO.out.mono ?_
    clear HO
    rintro e w5 ⟨A5, p5, c5, vs5, rfl, _, _, hr5, hb5⟩
    have hw5 := hb5.size
    have HR5 := Lib.hid (HR4.out.below hb5)
    have HB5 := Lib.hid (HB4.out.trans (hb5.mono (by have := HB4.out.size; omega)))
    rcases HKT.out.2.2 with hT | ⟨rfl, hT⟩
    · rw [hT] at hr5 ⊢
      rw [bsK_len] at hr5 ⊢
      obtain ⟨hcc, hnl, hsp⟩ := hr5.cap (bsK_len _ _)
      have d3 : decide ((j : Int) < (j : Int)) = false := decide_eq_false (by omega)
      have d4 : decide ((j : Int) + 1 < (j : Int)) = false := decide_eq_false (by omega)
      have HS : Hid (∀ z, Calls Try.prog 15 #[.slice p5 j c5, .slice pw j cw] (w5.drewN z) fun e w' => e = .returned (.bool true) ∧ ∃ y, w' = (w5.drewN z).drewN y) := fun z => Same_any _ p5 pw j c5 cw (fK l) ((hr5.rrK (Nat.le_refl _)).below (below_drewN (Below.refl _ _) _)) ((HR5.out.rrK (Nat.le_refl _)).below (below_drewN (Below.refl _ _) _)) (by omega)
      clear hT hr5 hb5 HKT HFl4 HR4 HB4 HR5
      go_wp2_with fail
      go_quiet (fail)
      have d5 : decide ((c5 : Int) < (j : Int)) = false := decide_eq_false (by omega)
      have d6 : decide ((j : Int) < 0) = false := decide_eq_false (by omega)
      go_wp2_with (go_at_call 15; with_reducible refine (HS.out _).mono ?_; rintro e w9 ⟨rfl, y9, rfl⟩)
      go_ret
      exact ⟨rfl, below_drewN HB5.out _⟩
    · rw [hT] at hr5 ⊢
      rw [bsK_len] at hr5 ⊢
      obtain ⟨hcc, hnl, hsp⟩ := hr5.cap (bsK_len _ _)
      have d3 : decide ((j : Int) + 1 < (j : Int)) = false := decide_eq_false (by omega)
      have d4 : decide ((j : Int) + 1 < (j : Int) + 1) = false := decide_eq_false (by omega)
      have d5 : decide ((j : Int) < (j : Int) + 1) = true := decide_eq_true (by omega)
      have d6 : decide ((c5 : Int) < (j : Int)) = false := decide_eq_false (by omega)
      have d7 : decide ((j : Int) < 0) = false := decide_eq_false (by omega)
      have HS : Hid (∀ z, Calls Try.prog 15 #[.slice p5 j c5, .slice pw j cw] (w5.drewN z) fun e w' => e = .returned (.bool true) ∧ ∃ y, w' = (w5.drewN z).drewN y) := fun z => Same_any _ p5 pw j c5 cw (fK l) ((hr5.rrK (Nat.le_succ _)).below (below_drewN (Below.refl _ _) _)) ((HR5.out.rrK (Nat.le_refl _)).below (below_drewN (Below.refl _ _) _)) (by omega)
      obtain ⟨g1, q1, c1, rfl, _, k1, r1⟩ := hr5.rrK (Nat.le_refl _) j (Nat.lt_succ_self j)
      obtain ⟨G, rfl, hG4⟩ := HFl4.out rfl
      have hG5 : RowB G (fK l j) w5 := (hb5.block G (Array.getElem?_eq_some_iff.1 hG4).1).trans hG4
      have r2 := hG5.rd (n := (fK l j).length) rfl
      have V1 : ∀ z, (convert 45 9 (.slice q1 (fK l j).length c1)).run Try.prog (w5.drewN z) = .ok (.string (strOf (fK l j))) (w5.drewN z) := fun z => conv_rd (r1.below (below_drewN (Below.refl _ _) _))
      have V2 : ∀ z, (convert 45 9 (.slice (some ⟨G, 0, none⟩) (fK l j).length (fK l j).length)).run Try.prog (w5.drewN z) = .ok (.string (strOf (fK l j))) (w5.drewN z) := fun z => conv_rd (r2.below (below_drewN (Below.refl _ _) _))
      clear hT hr5 hb5 HKT HFl4 HR4 HB4 HR5 r1 r2 hG4 hG5
      generalize (fK l j).length = lm at k1 V1 V2
      generalize strOf (fK l j) = s at V1 V2
      go_wp2_with fail
      go_quiet (fail)
      go_wp2_with (go_at_call 15; with_reducible refine (HS.out _).mono ?_; rintro e w9 ⟨rfl, y9, rfl⟩)
      go_ret
      exact ⟨rfl, below_drewN HB5.out _⟩
theorem keeps_any (p : Option Addr) (n c : Nat) (l : List Int) (li : Int) (q : Option Addr) (kn kc : Nat) (kb : List Bool) (w : World) (hl : Ri w.heap.size w p n l) (hk : Kb w.heap.size w q kn kb) :
    Calls Try.prog 4 #[.slice p n c, .int .i64 li, .slice q kn kc] w fun e w' => e = .returned (.bool true) ∧ Below w.heap.size w w' := by
  by_cases h : 20 < n ∨ 200 < kn
  · exact keeps_great p n c li q kn kc w h
  · exact keeps_some p n c l li q kn kc kb w (by omega) (by omega) hl hk
end Go.Proofs.Yticiaiiedagalaa.dk
