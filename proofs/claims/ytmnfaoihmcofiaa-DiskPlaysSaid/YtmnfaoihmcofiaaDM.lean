/- For all bytes, bools and numbers DiskOrder answers true. -/
import Derived.Test.YtmnfaoihmcofiaaDJ
import Derived.Test.YtmnfaoihmcofiaaDL
namespace Go.Proofs.Ytmnfaoihmcofiaa.dk
open Go.PlainAid Go.ChangeShapes Go.WideShapes Go.ChangeAt Go.RowKit

set_option maxHeartbeats 4000000 in
set_option maxRecDepth 20000 in
theorem order_great (p : Option Addr) (n c : Nat) (q : Option Addr) (kn kc : Nat) (at_ : Int) (w : World) (hn : n ≤ 140737488351232) (hkn : kn ≤ 140737488351232) (hbig : 50 < n ∨ 100 < kn) :
    Calls Try.prog 6 #[.slice p n c, .slice q kn kc, .int .i64 at_] w fun e w' => e = .returned (.bool true) ∧ Below w.heap.size w w' := by
  have HA := Lib.hid (awake_any w)
  rcases (show 50 < n ∨ (n ≤ 50 ∧ 100 < kn) by omega) with h | ⟨h0, h⟩
  · have d1 : decide ((50 : Int) < n) = true := decide_eq_true (by omega)
    go_enter Try.func6, Try.ntmps6
    go_wp2_with (go_at_call 7; with_reducible refine HA.out.mono ?_; rintro e w0 ⟨rfl, hb0⟩)
    go_ret
    exact ⟨rfl, hb0⟩
  · have d1 : decide ((50 : Int) < n) = false := decide_eq_false (by omega)
    have d2 : decide ((100 : Int) < kn) = true := decide_eq_true (by omega)
    go_enter Try.func6, Try.ntmps6
    go_wp2_with (go_at_call 7; with_reducible refine HA.out.mono ?_; rintro e w0 ⟨rfl, hb0⟩)
    go_ret
    exact ⟨rfl, hb0⟩

/-- A byte that lies there, below what the call makes. -/
def Cl (w : World) (b o : Nat) (v : Int) : Prop := b < w.heap.size ∧ w.cell? ⟨b, o, none⟩ = some (.int .u8 v)
theorem Cl.below' {w w' : World} {b o : Nat} {v : Int} (h : Cl w b o v) (hb : Below w.heap.size w w') : Hid (w'.cell? ⟨b, o, none⟩ = some (.int .u8 v)) := (hb.cell (p := ⟨b, o, none⟩) h.1).trans h.2
theorem rd_one (w : World) (v : Int) : Rd (w.alloc (.cells #[.int .u8 v] 5)) (some ⟨w.heap.size, 0, none⟩) 1 [v] := ⟨rfl, fun _ => ⟨_, _, rfl, (Array.getElem?_eq_some_iff.1 (heap_alloc_new w (.cells #[.int .u8 v] 5))).1, fun q hq => by
  obtain rfl : q = 0 := by omega
  rw [cell_of_row _ _ _ _ _ _ (heap_alloc_new w _)]
  rfl⟩⟩

set_option maxHeartbeats 4000000 in
set_option maxRecDepth 20000 in
theorem order_small (p : Option Addr) (n c : Nat) (l : List Int) (q : Option Addr) (kn kc : Nat) (kb : List Bool) (at_ : Int) (w : World) (hl : Rd w p n l) (hk : Kb w.heap.size w q kn kb) (hn : n ≤ 50) (hkn : kn ≤ 100) :
    Calls Try.prog 6 #[.slice p n c, .slice q kn kc, .int .i64 at_] w fun e w' => e = .returned (.bool true) ∧ Below w.heap.size w w' := by
  have HA := Lib.hid (awake_any w)
  have HL := Lib.hid hl
  have HK := Lib.hid hk
  obtain ⟨k, hkk⟩ := Int.eq_ofNat_of_zero_le (show 0 ≤ at_ % 4 by omega)
  have hk4 : k < 4 := by omega
  have hk' : bits .and .i64 at_ 3 = (k : Int) := by rw [and3, hkk]
  have d1 : decide ((50 : Int) < n) = false := decide_eq_false (by omega)
  have d2 : decide ((100 : Int) < kn) = false := decide_eq_false (by omega)
  clear hkk hl hk
  go_enter Try.func6, Try.ntmps6
  go_wp2_with (go_at_call 7; with_reducible refine HA.out.mono ?_; rintro e w0 ⟨rfl, hb0⟩)
  have hN := New_any 4 w0 (by omega) (by omega)
  rw [show ((4 : Nat) : Int) = 4 from rfl] at hN
  with_reducible refine hN.mono ?_
  clear hN
  rintro e w1 ⟨D, L, N, rfl, h1, hb1⟩
  go_wp2_with fail
  have hN := New_any 4 w1 (by omega) (by omega)
  rw [show ((4 : Nat) : Int) = 4 from rfl] at hN
  with_reducible refine hN.mono ?_
  clear hN
  rintro e w2 ⟨D2, L2, N2, rfl, h2, hb2⟩
  have l1 := h1.lt
  have hA0 : Apart D L N (.slice none 0 0) D2 L2 N2 (.slice none 0 0) := by
    have e1 := h2.bD
    have e2 := h2.bL
    have e3 := h2.bN
    exact ⟨by omega, by omega, by omega, by omega, by omega, by omega, by omega, by omega, by omega, fun g hg => by cases hg⟩
  have h1' := Lib.hid (h1.below hb2)
  have h2' := Lib.hid h2
  have HA0 := Lib.hid hA0
  have hb01 := hb0.trans (hb1.mono hb0.size)
  have HB2 := Lib.hid (hb01.trans (hb2.mono hb01.size))
  have hB1 := hb0.size
  have hB2 := hb01.size
  clear HA h1 h2 hb1 hb2 l1 hA0 hb0 hb01
  go_wp2_with fail
  go_loopw [13, 14, 15] (fun wn kp i wr => ∃ (j : Nat) (P P2 : Value), wn = .int .u8 (want (l.take j)) ∧ kp = .int .u8 (kept kb (l.take j)) ∧ i = .int .i64 (j : Int) ∧ j ≤ n ∧ Hid (DiskAt w0.heap.size D L N P (ordm k (l.take j)) wr) ∧ Hid (DiskAt w1.heap.size D2 L2 N2 P2 (ordm k (l.take j)) wr) ∧ Hid (Apart D L N P D2 L2 N2 P2) ∧ Below w.heap.size w wr) (fun _ _ i _ => n - (intOf i).toNat)
  case atStart => exact ⟨0, _, _, rfl, rfl, rfl, Nat.zero_le _, h1'.out, h2'.out, HA0.out, HB2.out⟩
  case round =>
    clear h1' h2' HA0 HB2
    obtain ⟨j, P, P2, rfl, rfl, rfl, hj, HD, HX, HAp, hb⟩ := hrel
    by_cases hjn : j < n
    · have dj : decide ((j : Int) < n) = true := decide_eq_true (by omega)
      have hll : l.length = n := HL.out.1
      obtain ⟨v, hv⟩ : ∃ v, v = l.getD j 0 := ⟨_, rfl⟩
      have hts : l.take (j + 1) = l.take j ++ [v] := by
        rw [hv, List.getD_eq_getElem?_getD, List.getElem?_eq_getElem (by omega)]
        exact List.take_succ_eq_append_getElem (by omega)
      have htl : Hid ((l.take j).length = j) := by show (l.take j).length = j; rw [List.length_take]; omega
      obtain ⟨pb, po, rfl, hplt, hpc⟩ := HL.out.2 (by omega)
      have hcl : Cl w pb (po + j) v := ⟨hplt, by rw [hpc j hjn, ← hv]⟩
      have cl0 := (hcl.below' hb).out
      have hba0 : Below wr.heap.size wr (wr.alloc (.cells #[.int .u8 v] 5)) := (Below.refl _ _).alloc (Nat.le_refl _) _
      have hda := HD.out.below hba0
      have hxa := HX.out.below hba0
      have hba := hb.trans (hba0.mono hb.size)
      have hpl : ({ ordm k (l.take j) with writes := (ordm k (l.take j)).writes + 1 } : Dk).pend.length ≤ 1000000 := by show ((l.take j).map _).length ≤ _; rw [List.length_map, htl.out]; omega
      have hwl : (ordm k (l.take j)).writes < 1000000 := by show ((l.take j).length : Int) < _; rw [htl.out]; omega
      have HW1 := Lib.hid (Write_ok (m1 := { ordm k (l.take j) with writes := (ordm k (l.take j)).writes + 1 }) hda (some ⟨wr.heap.size, 0, none⟩) 1 1 [v] k (by omega) hk4 rfl (rd_one wr v) rfl hpl (spend_free hda (show (-1 : Int) < 0 by omega) hwl))
      clear hpc hplt hv HD HX hba0 hb hll
      rcases (show (j < kn ∧ kb.getD j false = true) ∨ (j < kn ∧ kb.getD j false = false) ∨ (¬ j < kn ∧ kb.getD j false = false) from by
        by_cases h : j < kn
        · cases hb : kb.getD j false with
          | true => exact .inl ⟨h, rfl⟩
          | false => exact .inr (.inl ⟨h, rfl⟩)
        · refine .inr (.inr ⟨h, ?_⟩)
          rw [List.getD_eq_getElem?_getD, List.getElem?_eq_none (by have := HK.out.1; omega)]
          rfl) with ⟨hkj, hkk⟩ | ⟨hkj, hkk⟩ | ⟨hkj, hkk⟩
      · go_wp2_with fail
        with_reducible refine HW1.out.mono ?_
        clear HW1
        rintro e wb ⟨P', rfl, hdb, bfb, frb⟩
        rw [← ordm_snoc] at hdb
        have hxb := hda.other hxa HAp.out bfb
        have apb := HAp.out.move frb (fun g hg => (hxa.hP.lt g hg).2)
        have bwb := hba.trans (bfb.below.mono hB1)
        have clb := hcl.below' bwb
        have hbc : Below wb.heap.size wb (wb.alloc (.cells #[.int .u8 v] 5)) := (Below.refl _ _).alloc (Nat.le_refl _) _
        have hdc := hdb.below hbc
        have hxc := hxb.below hbc
        have bwc := bwb.trans (hbc.mono bwb.size)
        have HW2 := Lib.hid (Write_ok (m1 := { ordm k (l.take j) with writes := (ordm k (l.take j)).writes + 1 }) hxc (some ⟨wb.heap.size, 0, none⟩) 1 1 [v] k (by omega) hk4 rfl (rd_one wb v) rfl hpl (spend_free hxc (show (-1 : Int) < 0 by omega) hwl))
        have DC := Lib.hid (And.intro hdc hxc)
        have AP := Lib.hid apb
        have BC := Lib.hid bwc
        have clb' := clb.out
        clear hdb hxb apb bfb frb hba hda hxa HAp hdc hxc bwb bwc hbc clb
        go_wp2_with fail
        with_reducible refine HW2.out.mono ?_
        clear HW2
        rintro e wd ⟨P2', rfl, hxd, bfd, frd⟩
        rw [← ordm_snoc] at hxd
        have hdd := DC.out.2.other DC.out.1 AP.out.symm bfd
        have apd := (AP.out.symm.move frd (fun g hg => (DC.out.1.hP.lt g hg).2)).symm
        have bwd := BC.out.trans (bfd.below.mono hB2)
        have HR := Lib.hid (Read_ok hdd rfl k hk4)
        have DD := Lib.hid (And.intro hxd apd)
        have BD := Lib.hid bwd
        clear hdd hxd apd bfd frd bwd DC AP BC clb'
        go_wp2_with fail
        with_reducible refine HR.out.mono ?_
        clear HR
        rintro e we ⟨G, rfl, hG, hxG, hde, hbe⟩
        have bwe := BD.out.trans (hbe.mono BD.out.size)
        have cle := (hcl.below' bwe).out
        have cG : we.cell? ⟨G, 0, none⟩ = some (.int .u8 v) := by
          rw [cell_of_row _ _ _ _ _ _ hxG, now_head k hk4, want_snoc]
        have vv : (v != v) = false := by simp
        have HE := Lib.hid (And.intro hde (And.intro (DD.out.1.below hbe) DD.out.2))
        have BE := Lib.hid bwe
        obtain ⟨qb, qo, rfl, hqB, hqc⟩ := (HK.out.below BE.out).2 (by omega)
        have hqk : we.cell? ⟨qb, qo + j, none⟩ = some (.bool true) := by rw [hqc j hkj, hkk]
        have dk : decide ((j : Int) < kn) = true := decide_eq_true (by omega)
        clear hqc
        clear hbe hde bwe hxG hG DD BD
        go_wp2
        go_quiet (fail)
        go_wp2
        constructor
        · exact ⟨j + 1, P', P2', by rw [hts, want_snoc], by rw [hts, kept_snoc, htl.out, hkk, if_pos rfl], by go_num, by omega, by rw [hts]; exact HE.out.1.below (below_drewN (Below.refl _ _) _), by rw [hts]; exact HE.out.2.1.below (below_drewN (Below.refl _ _) _), HE.out.2.2, below_drewN BE.out _⟩
        · show n - ((j : Int) + 1).toNat < n - (j : Int).toNat
          omega
      · go_wp2_with fail
        with_reducible refine HW1.out.mono ?_
        clear HW1
        rintro e wb ⟨P', rfl, hdb, bfb, frb⟩
        rw [← ordm_snoc] at hdb
        have hxb := hda.other hxa HAp.out bfb
        have apb := HAp.out.move frb (fun g hg => (hxa.hP.lt g hg).2)
        have bwb := hba.trans (bfb.below.mono hB1)
        have clb := hcl.below' bwb
        have hbc : Below wb.heap.size wb (wb.alloc (.cells #[.int .u8 v] 5)) := (Below.refl _ _).alloc (Nat.le_refl _) _
        have hdc := hdb.below hbc
        have hxc := hxb.below hbc
        have bwc := bwb.trans (hbc.mono bwb.size)
        have HW2 := Lib.hid (Write_ok (m1 := { ordm k (l.take j) with writes := (ordm k (l.take j)).writes + 1 }) hxc (some ⟨wb.heap.size, 0, none⟩) 1 1 [v] k (by omega) hk4 rfl (rd_one wb v) rfl hpl (spend_free hxc (show (-1 : Int) < 0 by omega) hwl))
        have DC := Lib.hid (And.intro hdc hxc)
        have AP := Lib.hid apb
        have BC := Lib.hid bwc
        have clb' := clb.out
        clear hdb hxb apb bfb frb hba hda hxa HAp hdc hxc bwb bwc hbc clb
        go_wp2_with fail
        with_reducible refine HW2.out.mono ?_
        clear HW2
        rintro e wd ⟨P2', rfl, hxd, bfd, frd⟩
        rw [← ordm_snoc] at hxd
        have hdd := DC.out.2.other DC.out.1 AP.out.symm bfd
        have apd := (AP.out.symm.move frd (fun g hg => (DC.out.1.hP.lt g hg).2)).symm
        have bwd := BC.out.trans (bfd.below.mono hB2)
        have HR := Lib.hid (Read_ok hdd rfl k hk4)
        have DD := Lib.hid (And.intro hxd apd)
        have BD := Lib.hid bwd
        clear hdd hxd apd bfd frd bwd DC AP BC clb'
        go_wp2_with fail
        with_reducible refine HR.out.mono ?_
        clear HR
        rintro e we ⟨G, rfl, hG, hxG, hde, hbe⟩
        have bwe := BD.out.trans (hbe.mono BD.out.size)
        have cle := (hcl.below' bwe).out
        have cG : we.cell? ⟨G, 0, none⟩ = some (.int .u8 v) := by
          rw [cell_of_row _ _ _ _ _ _ hxG, now_head k hk4, want_snoc]
        have vv : (v != v) = false := by simp
        have HE := Lib.hid (And.intro hde (And.intro (DD.out.1.below hbe) DD.out.2))
        have BE := Lib.hid bwe
        obtain ⟨qb, qo, rfl, hqB, hqc⟩ := (HK.out.below BE.out).2 (by omega)
        have hqk : we.cell? ⟨qb, qo + j, none⟩ = some (.bool false) := by rw [hqc j hkj, hkk]
        have dk : decide ((j : Int) < kn) = true := decide_eq_true (by omega)
        clear hqc
        clear hbe hde bwe hxG hG DD BD
        go_wp2
        go_quiet (fail)
        go_wp2
        constructor
        · exact ⟨j + 1, P', P2', by rw [hts, want_snoc], by rw [hts, kept_snoc, htl.out, hkk, if_neg (by decide)], by go_num, by omega, by rw [hts]; exact HE.out.1.below (below_drewN (Below.refl _ _) _), by rw [hts]; exact HE.out.2.1.below (below_drewN (Below.refl _ _) _), HE.out.2.2, below_drewN BE.out _⟩
        · show n - ((j : Int) + 1).toNat < n - (j : Int).toNat
          omega
      · go_wp2_with fail
        with_reducible refine HW1.out.mono ?_
        clear HW1
        rintro e wb ⟨P', rfl, hdb, bfb, frb⟩
        rw [← ordm_snoc] at hdb
        have hxb := hda.other hxa HAp.out bfb
        have apb := HAp.out.move frb (fun g hg => (hxa.hP.lt g hg).2)
        have bwb := hba.trans (bfb.below.mono hB1)
        have clb := hcl.below' bwb
        have hbc : Below wb.heap.size wb (wb.alloc (.cells #[.int .u8 v] 5)) := (Below.refl _ _).alloc (Nat.le_refl _) _
        have hdc := hdb.below hbc
        have hxc := hxb.below hbc
        have bwc := bwb.trans (hbc.mono bwb.size)
        have HW2 := Lib.hid (Write_ok (m1 := { ordm k (l.take j) with writes := (ordm k (l.take j)).writes + 1 }) hxc (some ⟨wb.heap.size, 0, none⟩) 1 1 [v] k (by omega) hk4 rfl (rd_one wb v) rfl hpl (spend_free hxc (show (-1 : Int) < 0 by omega) hwl))
        have DC := Lib.hid (And.intro hdc hxc)
        have AP := Lib.hid apb
        have BC := Lib.hid bwc
        have clb' := clb.out
        clear hdb hxb apb bfb frb hba hda hxa HAp hdc hxc bwb bwc hbc clb
        go_wp2_with fail
        with_reducible refine HW2.out.mono ?_
        clear HW2
        rintro e wd ⟨P2', rfl, hxd, bfd, frd⟩
        rw [← ordm_snoc] at hxd
        have hdd := DC.out.2.other DC.out.1 AP.out.symm bfd
        have apd := (AP.out.symm.move frd (fun g hg => (DC.out.1.hP.lt g hg).2)).symm
        have bwd := BC.out.trans (bfd.below.mono hB2)
        have HR := Lib.hid (Read_ok hdd rfl k hk4)
        have DD := Lib.hid (And.intro hxd apd)
        have BD := Lib.hid bwd
        clear hdd hxd apd bfd frd bwd DC AP BC clb'
        go_wp2_with fail
        with_reducible refine HR.out.mono ?_
        clear HR
        rintro e we ⟨G, rfl, hG, hxG, hde, hbe⟩
        have bwe := BD.out.trans (hbe.mono BD.out.size)
        have cle := (hcl.below' bwe).out
        have cG : we.cell? ⟨G, 0, none⟩ = some (.int .u8 v) := by
          rw [cell_of_row _ _ _ _ _ _ hxG, now_head k hk4, want_snoc]
        have vv : (v != v) = false := by simp
        have HE := Lib.hid (And.intro hde (And.intro (DD.out.1.below hbe) DD.out.2))
        have BE := Lib.hid bwe
        have dk : decide ((j : Int) < kn) = false := decide_eq_false (by omega)
        clear hbe hde bwe hxG hG DD BD
        go_wp2
        go_quiet (fail)
        go_wp2
        constructor
        · exact ⟨j + 1, P', P2', by rw [hts, want_snoc], by rw [hts, kept_snoc, htl.out, hkk, if_neg (by decide)], by go_num, by omega, by rw [hts]; exact HE.out.1.below (below_drewN (Below.refl _ _) _), by rw [hts]; exact HE.out.2.1.below (below_drewN (Below.refl _ _) _), HE.out.2.2, below_drewN BE.out _⟩
        · show n - ((j : Int) + 1).toNat < n - (j : Int).toNat
          omega
    · have dj : decide ((j : Int) < n) = false := decide_eq_false (by omega)
      have hll : l.length = n := HL.out.1
      have hjn' : j = n := by omega
      have htk : l.take j = l := List.take_of_length_le (by omega)
      rw [htk] at HD HX
      rw [htk]
      clear htk
      have hpl : ({ ordm k l with writes := (ordm k l).writes + 1 } : Dk).pend.length ≤ 1000000 := by show (l.map _).length ≤ _; rw [List.length_map]; omega
      have hwl : (ordm k l).writes < 1000000 := by show (l.length : Int) < _; omega
      have HS := Lib.hid (Sync_ok HD.out { ordm k l with writes := (ordm k l).writes + 1 } rfl hpl (spend_free HD.out (show (-1 : Int) < 0 by omega) hwl))
      have HB0 := Lib.hid hb
      have hpx : (ordm k l).pend.length ≤ 1000000 := hpl
      clear hb hll hjn' hwl
      go_wp2_with fail
      with_reducible refine HS.out.mono ?_
      clear HS
      rintro e wa ⟨rfl, hda, bfa⟩
      have hxa := HD.out.other HX.out HAp.out bfa
      have apa := HAp.out.gone
      have bwa := HB0.out.trans (bfa.below.mono hB1)
      have HR1 := Lib.hid (Reopen_any hda none 0 0 [] ⟨rfl, fun h => absurd h (by omega)⟩ (by omega) (Nat.zero_le _))
      have AA := Lib.hid (And.intro hda (And.intro hxa apa))
      have BA := Lib.hid bwa
      clear hda hxa apa bwa bfa HD HX HAp HB0
      go_wp2_with fail
      with_reducible refine HR1.out.mono ?_
      clear HR1
      rintro e wb ⟨rfl, hdb, bfb⟩
      have hxb := AA.out.1.other AA.out.2.1 AA.out.2.2 bfb
      have bwb := BA.out.trans (bfb.below.mono hB1)
      have hKb : Kb w1.heap.size wb q kn kb := by
        have h0 := HK.out.below bwb
        refine ⟨h0.1, fun h => ?_⟩
        obtain ⟨b0, o0, h1, h2, h3⟩ := h0.2 h
        exact ⟨b0, o0, h1, Nat.lt_of_lt_of_le h2 hB2, h3⟩
      have HR2 := Lib.hid (Reopen_any hxb q kn kc kb hKb (by omega) hpx)
      have AB := Lib.hid (And.intro hdb (And.intro hxb AA.out.2.2.gone))
      have BB := Lib.hid bwb
      clear hdb hxb bwb bfb AA BA hKb
      go_wp2_with fail
      with_reducible refine HR2.out.mono ?_
      clear HR2
      rintro e wc ⟨rfl, hxc, bfc⟩
      have hdc := AB.out.2.1.other AB.out.1 AB.out.2.2.symm bfc
      have bwc := BB.out.trans (bfc.below.mono hB2)
      have HR3 := Lib.hid (Read_ok hdc rfl k hk4)
      have AC := Lib.hid hxc
      have BC := Lib.hid bwc
      clear hdc hxc bwc bfc AB BB
      go_wp2_with fail
      with_reducible refine HR3.out.mono ?_
      clear HR3
      rintro e wd ⟨G1, rfl, hG1, hx1, hdd, hbd⟩
      have bwd := BC.out.trans (hbd.mono BC.out.size)
      have hxd := AC.out.below hbd
      have HR4 := Lib.hid (Read_ok hxd rfl k hk4)
      have AD := Lib.hid hdd
      have BD := Lib.hid bwd
      have cG1 : Hid (wd.cell? ⟨G1, 0, none⟩ = some (.int .u8 (want l))) := by
        show wd.cell? ⟨G1, 0, none⟩ = _
        rw [cell_of_row _ _ _ _ _ _ hx1]
        exact now_head k hk4 l
      have hG1l : G1 < wd.heap.size := (Array.getElem?_eq_some_iff.1 hx1).1
      clear hdd hxd bwd hx1 hbd AC BC hG1
      go_wp2_with fail
      with_reducible refine HR4.out.mono ?_
      clear HR4
      rintro e we ⟨G2, rfl, hG2, hx2, hxe, hbe⟩
      have bwe := BD.out.trans (hbe.mono BD.out.size)
      have hde := AD.out.below hbe
      have cG2 : we.cell? ⟨G2, 0, none⟩ = some (.int .u8 (kept kb l)) := by
        rw [cell_of_row _ _ _ _ _ _ hx2]
        exact reopened_head k hk4 kb l
      have cG1' : we.cell? ⟨G1, 0, none⟩ = some (.int .u8 (want l)) := (hbe.cell (p := ⟨G1, 0, none⟩) hG1l).trans cG1.out
      have hWr := Writes_any hde
      rw [show (reopened [] _).writes = (ordm k l).writes + 1 from rfl, show (ordm k l).writes = (l.length : Int) from rfl, HL.out.1] at hWr
      have HWr := Lib.hid hWr
      have BE := Lib.hid bwe
      clear hWr hde hxe hx2 hbe bwe AD BD hG2 cG1 hG1l
      go_wp2_with (go_at_call 22; with_reducible refine HWr.out.mono ?_; rintro e w' ⟨rfl, rfl⟩)
      go_ret
      exact ⟨rfl, BE.out⟩
theorem order_any (p : Option Addr) (n c : Nat) (l : List Int) (q : Option Addr) (kn kc : Nat) (kb : List Bool) (at_ : Int) (w : World) (hl : Rd w p n l) (hk : Kb w.heap.size w q kn kb) (hn : n ≤ 140737488351232) (hkn : kn ≤ 140737488351232) :
    Calls Try.prog 6 #[.slice p n c, .slice q kn kc, .int .i64 at_] w fun e w' => e = .returned (.bool true) ∧ Below w.heap.size w w' := by
  by_cases h : 50 < n ∨ 100 < kn
  · exact order_great p n c q kn kc at_ w hn hkn h
  · exact order_small p n c l q kn kc kb at_ w hl hk (by omega) (by omega)
end Go.Proofs.Ytmnfaoihmcofiaa.dk
