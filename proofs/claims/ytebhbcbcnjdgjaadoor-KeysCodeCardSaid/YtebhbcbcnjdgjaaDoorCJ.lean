/- A number of bytes: the document's answer, below 0. -/
import Derived.Test.YtebhbcbcnjdgjaaDoorMb
namespace Go.Proofs.YtebhbcbcnjdgjaaDoor.dk
open Go.PlainAid Go.ChangeShapes Go.WideShapes Go.ChangeAt Go.RowKit

set_option maxHeartbeats 4000000 in
set_option maxRecDepth 100000 in
theorem number_true (w : World) (p : Option Addr) (n c : Nat) (l : List Int) (hR : Rd w p n l) (hy : Bys l) (hn : n ≤ 100000) :
    Calls Tryd.prog 40 #[.slice p n c, .bool true] w (MPost w (fsz true (flipb l))) := by
  have hlen := hR.1
  obtain ⟨S, hS⟩ : ∃ S, flipb l = S := ⟨_, rfl⟩
  have hSl : S.length = n := by rw [← hS, flipb_len]; exact hlen
  have hSy : Bys S := by rw [← hS]; exact flip_bys hy
  have hSa : ∀ i, i < n → S.getD i 0 = 255 - l.getD i 0 := fun i hi => by
    rw [← hS]
    exact flipb_at l i (by omega)
  rw [hS]
  have hrow := heap_alloc_new w (.cells #[.bool false, .string ⟨#[]⟩, .int .i64 0] 25)
  have hbw : Below w.heap.size w (w.alloc (.cells #[.bool false, .string ⟨#[]⟩, .int .i64 0] 25)) := (Below.refl _ _).alloc (Nat.le_refl _) _
  have hNJ : NJ w none 0 [] (w.alloc (.cells #[.bool false, .string ⟨#[]⟩, .int .i64 0] 25)) := ⟨⟨rfl, .inl ⟨rfl, rfl⟩⟩, hrow, hbw⟩
  have HNJ := Lib.hid hNJ
  have HR := Lib.hid hR
  have HN := Lib.hid hn
  have HY := Lib.hid hy
  have HSl := Lib.hid hSl
  have HSy := Lib.hid hSy
  have HSa := Lib.hid hSa
  clear hR hy hrow hbw hNJ hn hS hSl hSy hSa
  go_enter Tryd.func40, Tryd.ntmps40
  go_wp2_with fail
  go_loopw [6, 7, 8] (fun v6 v7 v8 wr => ∃ (i : Nat) (p2 : Option Addr) (c2 : Nat), v8 = .int .i64 i ∧ i ≤ n ∧ v6 = .slice p2 i c2 ∧ Hid (NJ w p2 c2 (S.take i) wr) ∧ ((v7 = .int .i64 (-1) ∧ Hid (zat ((S.take i).drop 2) = none)) ∨ ∃ k : Nat, v7 = .int .i64 ((k : Int) + 2) ∧ Hid (zat (S.drop 2) = some k ∧ i = k + 3))) (fun _ _ v8 _ => n + 1 - (intOf v8).toNat)
  case atStart => exact ⟨0, none, 0, rfl, Nat.zero_le _, rfl, Lib.hid HNJ.out, .inl ⟨rfl, Lib.hid rfl⟩⟩
  case round =>
    clear HNJ
    obtain ⟨i, p2, c2, rfl, hi, rfl, HJ, hz⟩ := hrel
    have hnn := HN.out
    have hti : (S.take i).length = i := by rw [List.length_take, HSl.out]; omega
    rcases hz with ⟨rfl, HZ⟩ | ⟨k, rfl, HZ⟩
    · by_cases hin : i < n
      · have di : decide ((i : Int) < (n : Int)) = true := decide_eq_true (by omega)
        have din : decide (i < n) = true := decide_eq_true hin
        have hrd := HR.out.below HJ.out.b
        obtain ⟨g, off, rfl, _⟩ := hrd.form (by omega)
        have a0 := hrd.cell i hin
        have hxa := HSa.out i hin
        have hx := bys_at HSy.out (i := i) (by rw [HSl.out]; exact hin)
        have hlx := bys_at HY.out (i := i) (by omega)
        obtain ⟨p3, c3, w3, hru, hgr⟩ := append_one (S.getD i 0) HJ.out.own (by omega) HJ.out.b.size
        have hJ3 := HJ.out.more hgr
        have ets : S.take i ++ [S.getD i 0] = S.take (i + 1) := by
          rw [List.take_succ_eq_append_getElem (by rw [HSl.out]; exact hin), List.getD_eq_getElem?_getD, List.getElem?_eq_getElem (by rw [HSl.out]; exact hin)]
          rfl
        rw [ets] at hru hJ3
        rw [hti] at hru
        have hti1 : (S.take (i + 1)).length = i + 1 := by rw [List.length_take, HSl.out]; omega
        rw [hti1] at hru
        have HJ3 := Lib.hid hJ3
        have HRu := Lib.hid hru
        have hzz : 2 ≤ i → (S.getD i 0 ≠ 0 → zat ((S.take (i + 1)).drop 2) = none) ∧ (S.getD i 0 = 0 → zat (S.drop 2) = some (i - 2)) := fun h2 => by
          have e1 := take_drop_snoc S i (by rw [HSl.out]; exact hin) h2
          have e2 := take_drop_split S (i + 1) (by omega) (by rw [HSl.out]; exact hin)
          have hl2 : ((S.take i).drop 2).length = i - 2 := by rw [List.length_drop, hti]
          refine ⟨fun hc => ?_, fun hc => ?_⟩
          · rw [e1, zat_app_none _ _ HZ.out, zat, if_neg hc]
            rfl
          · rw [e2]
            apply zat_app_some
            rw [e1, zat_app_none _ _ HZ.out, hc, hl2, zat, if_pos rfl]
            simp
        have hz1 : i < 2 → zat ((S.take (i + 1)).drop 2) = none := fun h => by
          rw [List.drop_eq_nil_of_le (by omega)]
          rfl
        have HZZ := Lib.hid hzz
        have HZ1 := Lib.hid hz1
        clear hru hgr hrd hJ3 ets hzz hz1 HJ
        have wu : IntKind.u8.wrap (255 - l.getD i 0) = 255 - l.getD i 0 := by rw [IntKind.wrap_u8]; omega
        rw [hxa] at HRu HZZ hx
        generalize l.getD i 0 = x at a0 HRu HZZ hx hlx wu
        generalize hxe : 255 - x = xx at HRu HZZ hx wu
        by_cases h2 : 2 ≤ i
        · have d2 : decide ((1 : Int) < (i : Int)) = true := decide_eq_true (by omega)
          have d2n : decide (1 < i) = true := decide_eq_true (by omega)
          by_cases hc : xx = 0
          · subst hc
            go_wp2_with (at_builtin; refine wpList_append_run rfl _ _ _ rfl _ _ _ _ rfl rfl HRu.out ?_; clear HRu)
            exact ⟨⟨i + 1, p3, c3, by go_num, by omega, by go_num, HJ3, .inr ⟨i - 2, by rw [show ((i - 2 : Nat) : Int) + 2 = (i : Int) by omega], Lib.hid ⟨(HZZ.out h2).2 rfl, by omega⟩⟩⟩, by show n + 1 - ((i : Int) + 1).toNat < n + 1 - (i : Int).toNat; omega⟩
          · have hc2 : (xx == 0) = false := beq_eq_false_iff_ne.2 hc
            go_wp2_with (at_builtin; refine wpList_append_run rfl _ _ _ rfl _ _ _ _ rfl rfl HRu.out ?_; clear HRu)
            exact ⟨⟨i + 1, p3, c3, by go_num, by omega, by go_num, HJ3, .inl ⟨rfl, Lib.hid ((HZZ.out h2).1 hc)⟩⟩, by show n + 1 - ((i : Int) + 1).toNat < n + 1 - (i : Int).toNat; omega⟩
        · have d2 : decide ((1 : Int) < (i : Int)) = false := decide_eq_false (by omega)
          have d2n : decide (1 < i) = false := decide_eq_false (by omega)
          go_wp2_with (at_builtin; refine wpList_append_run rfl _ _ _ rfl _ _ _ _ rfl rfl HRu.out ?_; clear HRu)
          exact ⟨⟨i + 1, p3, c3, by go_num, by omega, by go_num, HJ3, .inl ⟨rfl, Lib.hid (HZ1.out (by omega))⟩⟩, by show n + 1 - ((i : Int) + 1).toNat < n + 1 - (i : Int).toNat; omega⟩
      · have di : decide ((i : Int) < (n : Int)) = false := decide_eq_false (by omega)
        have din : decide (i < n) = false := decide_eq_false hin
        obtain rfl : i = n := by omega
        have et : S.take i = S := List.take_of_length_le (by rw [HSl.out]; exact Nat.le_refl _)
        have hz := HZ.out
        rw [et] at hz
        have HE : Hid (fsz true S = none) := Lib.hid (fsz_short hz)
        have HS := Lib.hid (And.intro HJ.out.st HJ.out.b)
        have k0 := cell_of_row _ _ 0 _ _ _ HJ.out.st
        have k1 := cell_of_row _ _ 1 _ _ _ HJ.out.st
        have k2 := cell_of_row _ _ 2 _ _ _ HJ.out.st
        simp at k0 k1 k2
        clear hz et HZ HJ
        obtain ⟨⟨z0, z1, z2⟩, y0, y1, y2⟩ := row3 HS.out.1
        have hS3 := set3 (v0 := .bool false) (v1 := .string ⟨#[]⟩) (v2 := .int .i64 0) HS.out.1 (Nat.le_refl _) HS.out.2
        have HS3 := Lib.hid hS3
        clear hS3 HS
        go_wp2_with fail
        refine bodyPost_ret (results_row_tmp rfl _ _ w.heap.size _ _ _ _ rfl HS3.out.1 Tryd.underlying25 rfl (by kernel_rfl)) rfl ⟨HS3.out.2, by rw [HE.out]; rfl⟩
    · have HK := Lib.hid HZ.out.1
      have HIK := Lib.hid HZ.out.2
      have dk : decide ((k : Int) + 2 < 0) = false := decide_eq_false (by omega)
      clear HZ
      rcases Nat.lt_or_ge i n with hin | hin
      · have di : decide ((i : Int) < (n : Int)) = true := decide_eq_true (by omega)
        have din : decide (i < n) = true := decide_eq_true hin
        by_cases hk0 : k = 0
        · have HE : Hid (fsz true S = none) := Lib.hid (fsz_none (by rw [HK.out, hk0]))
          subst hk0
          have HS := Lib.hid (And.intro HJ.out.st HJ.out.b)
          clear HJ
          obtain ⟨⟨z0, z1, z2⟩, y0, y1, y2⟩ := row3 HS.out.1
          have hS3 := set3 (v0 := .bool false) (v1 := .string ⟨#[]⟩) (v2 := .int .i64 0) HS.out.1 (Nat.le_refl _) HS.out.2
          have HS3 := Lib.hid hS3
          clear hS3 HS
          go_wp2_with fail
          refine bodyPost_ret (results_row_tmp rfl _ _ w.heap.size _ _ _ _ rfl HS3.out.1 Tryd.underlying25 rfl (by kernel_rfl)) rfl ⟨HS3.out.2, by rw [HE.out]; rfl⟩
        · have dk3 : decide ((k : Int) + 2 < 3) = false := decide_eq_false (by omega)
          have hlti : w.heap.size < wr.heap.size := (Array.getElem?_eq_some_iff.1 HJ.out.st).1
          have hbn : Below wr.heap.size wr (wr.alloc (.cells #[.bool true, .string ⟨#[]⟩, .int .i64 0] 25)) := (Below.refl _ _).alloc (Nat.le_refl _) _
          have hNK : NK w wr.heap.size true (digs S 0) 0 p2 c2 (S.take i) (wr.alloc (.cells #[.bool true, .string ⟨#[]⟩, .int .i64 0] 25)) :=
            ⟨owned_keeps HJ.out.own fun g hg => hbn.block g (HJ.out.own.lt g hg).2, (hbn.block _ hlti).trans HJ.out.st, heap_alloc_new _ _, hlti, HJ.out.b.trans (hbn.mono (Nat.le_of_lt hlti))⟩
          obtain ⟨g2, rfl, hic⟩ : ∃ g, p2 = some ⟨g, 0, none⟩ ∧ i ≤ c2 := by
            rcases HJ.out.own.2 with ⟨hv, h⟩ | ⟨g, cap, cur, hv, _, _, h, _⟩
            · have := HIK.out; omega
            · injection hv with h1 _ h3
              exact ⟨g, h1, by omega⟩
          have HNK := Lib.hid hNK
          have hki : 2 + k < i := by have := HIK.out; omega
          have hin3 : i ≤ n := hi
          clear hNK hbn hlti HJ
          generalize hBd : wr.heap.size = Bd at HNK
          go_wp2_with fail
          clear hBd
          go_loopw [11] (fun v11 W => ∃ j : Nat, v11 = .int .i64 ((j : Int) + 2) ∧ j ≤ k ∧ Hid (NK w Bd true (digs S j) 0 (some ⟨g2, 0, none⟩) c2 (S.take i) W) ∧ Hid (∀ t, t < j → S.getD (2 + t) 0 ≤ 10)) (fun v11 _ => k + 2 - (intOf v11).toNat)
          case atStart => exact ⟨0, rfl, Nat.zero_le _, HNK, Lib.hid fun t ht => absurd ht (by omega)⟩
          case round =>
            clear HNK
            obtain ⟨j, rfl, hj, HK2, HT⟩ := hrel
            by_cases hjk : j < k
            · have dj : decide ((j : Int) + 2 < (k : Int) + 2) = true := decide_eq_true (by omega)
              have hgd : ∀ t, t < i → (S.take i).getD t 0 = S.getD t 0 := fun t ht => by
                rw [List.getD_eq_getElem?_getD, List.getD_eq_getElem?_getD, List.getElem?_take, if_pos ht]
              have a0 := (owned_rd HK2.out.own).cell (j + 2) (by omega)
              rw [hgd (j + 2) (by omega), Nat.zero_add] at a0
              have hx := bys_at HSy.out (i := 2 + j) (by rw [HSl.out]; omega)
              rw [Nat.add_comm 2 j] at hx
              have hx0 : S.getD (j + 2) 0 ≠ 0 := by
                have := zat_ne _ _ HK.out j hjk
                rw [List.getD_eq_getElem?_getD, List.getElem?_drop, Nat.add_comm 2 j, ← List.getD_eq_getElem?_getD] at this
                exact this
              have hji : j + 2 < i := by omega
              by_cases hx10 : S.getD (j + 2) 0 ≤ 10
              · have d10 : decide (10 < S.getD (j + 2) 0) = false := decide_eq_false (by omega)
                obtain ⟨⟨z0, z1, z2⟩, y0, y1, y2⟩ := row3 HK2.out.d
                have hsucc := digs_succ S j (by rw [HSl.out]; omega)
                rw [Nat.add_comm 2 j] at hsucc
                have HT2 : Hid (∀ t, t < j + 1 → S.getD (2 + t) 0 ≤ 10) := Lib.hid fun t ht => by
                  by_cases h : t = j
                  · rw [h, Nat.add_comm 2 j]; exact hx10
                  · exact HT.out t (by omega)
                have HSc := Lib.hid hsucc
                clear hsucc hgd HT
                generalize S.getD (j + 2) 0 = x at a0 hx hx0 hx10 d10 HSc
                have wu1 : IntKind.u8.wrap (x - 1) = x - 1 := by rw [IntKind.wrap_u8]; omega
                go_upto_region 20 with fail
                obtain ⟨e1, he1, hse⟩ : ∃ e1, (⟨#[48, 49, 50, 51, 52, 53, 54, 55, 56, 57]⟩ : ByteArray).extract (x.toNat - 1) x.toNat = e1 ∧ e1 = strOf [IntKind.u8.wrap (x + 47)] := ⟨_, rfl, digit_str x (by omega) hx10⟩
                have zs : (strOf (digs S j)).size ≤ 100000 := by rw [strOf_size, digs, List.length_map, List.length_take]; omega
                have ze : e1.size ≤ 10 := by rw [hse, strOf_size]; simp
                have hnx := HK2.out.put 1 (.string (strOf (digs S j) ++ e1)) (digs S (j + 1)) 0 (by rw [HSc.out, strOf_append, ← hse]; rfl)
                have HNX := Lib.hid hnx
                have hx1 : 1 ≤ x := by omega
                clear hnx hse HK2 HSc
                generalize strOf (digs S j) = sj at z1 zs HNX
                go_region
                go_wp2_with fail
                exact ⟨⟨j + 1, by go_num, by omega, Lib.hid HNX.out.drew, HT2⟩, by show k + 2 - ((j : Int) + 2 + 1).toNat < k + 2 - ((j : Int) + 2).toNat; omega⟩
              · have d10 : decide (10 < S.getD (j + 2) 0) = true := decide_eq_true (by omega)
                have HE : Hid (fsz true S = none) := Lib.hid (fsz_bad true HK.out hjk (by rw [HSl.out]; omega) (by omega) hx.2)
                have HRS := Lib.hid (And.intro HK2.out.st HK2.out.b)
                clear hgd HT HK2 hx0
                generalize S.getD (j + 2) 0 = x at a0 hx hx10 d10
                obtain ⟨⟨r0, r1, r2⟩, v0, v1, v2⟩ := row3 HRS.out.1
                have hS3 := set3 (v0 := .bool false) (v1 := .string ⟨#[]⟩) (v2 := .int .i64 0) HRS.out.1 (Nat.le_refl _) HRS.out.2
                have HS3 := Lib.hid hS3
                clear hS3 HRS
                go_wp2_with fail
                refine bodyPost_ret (results_row_tmp rfl _ _ w.heap.size _ _ _ _ rfl HS3.out.1 Tryd.underlying25 rfl (by kernel_rfl)) rfl ⟨HS3.out.2, by rw [HE.out]; rfl⟩
            · have dj : decide ((j : Int) + 2 < (k : Int) + 2) = false := decide_eq_false (by omega)
              obtain rfl : j = k := by omega
              have hgd : ∀ t, t < i → (S.take i).getD t 0 = S.getD t 0 := fun t ht => by
                rw [List.getD_eq_getElem?_getD, List.getD_eq_getElem?_getD, List.getElem?_take, if_pos ht]
              have a0 := (owned_rd HK2.out.own).cell 0 (by omega)
              have a1 := (owned_rd HK2.out.own).cell 1 (by omega)
              rw [hgd 0 (by omega), Nat.zero_add] at a0
              rw [hgd 1 (by omega), Nat.zero_add] at a1
              have hb0 := bys_at HSy.out (i := 0) (by rw [HSl.out]; omega)
              have hb1 := bys_at HSy.out (i := 1) (by rw [HSl.out]; omega)
              have hV := fsz_val true HK.out hk0 (by rw [HSl.out]; omega)
              have hdl : (digs S j).length = j := by rw [digs, List.length_map, List.length_take, List.length_drop, HSl.out]; omega
              have hdb : Bys (digs S j) := fun x hx => by
                obtain ⟨c, _, rfl⟩ := List.mem_map.1 hx
                rw [IntKind.wrap_u8]
                omega
              have hns := HK2.out.put 2 (.int .i64 (S.getD 0 0 * 256 + S.getD 1 0 - 1000 - (j : Int))) (digs S j) (S.getD 0 0 * 256 + S.getD 1 0 - 1000 - (j : Int)) rfl
              have HNX := Lib.hid hns.drew
              have HSa2 := Lib.hid (fun (v : World) => Sane_ref v true (strOf (digs S j)) (S.getD 0 0 * 256 + S.getD 1 0 - 1000 - (j : Int)) (by rw [strOf_size, hdl]; omega))
              rw [unstr_strOf _ hdb] at HSa2
              obtain ⟨⟨z0, z1, z2⟩, y0, y1, y2⟩ := row3 HK2.out.d
              have hzs : (strOf (digs S j)).size = j := by rw [strOf_size, hdl]
              have HV := Lib.hid hV
              have hin1 : 1 < i := by omega
              have hin0 : 0 < i := by omega
              clear hgd hV hdl hdb hns HT HK2
              generalize hsj : strOf (digs S j) = sj at z1 hzs HSa2
              have Hsj := Lib.hid hsj
              clear hsj
              generalize S.getD 0 0 = b0 at a0 hb0 HNX HSa2 HV
              generalize S.getD 1 0 = b1 at a1 hb1 HNX HSa2 HV
              go_upto_region 21 with fail
              go_region
              clear z0 z1 z2 y0 y1 y2 a0 a1
              generalize (wr.setCell ⟨Bd, 2, none⟩ (.int .i64 (b0 * 256 + b1 - 1000 - (j : Int)))).drew = wy at HNX ⊢
              have hd := HNX.out.d
              rw [Hsj.out] at hd
              obtain ⟨⟨z0, z1, z2⟩, _⟩ := row3 hd
              have HD2 := Lib.hid hd
              have HRS := Lib.hid (And.intro HNX.out.st HNX.out.b)
              clear hd HNX
              go_wp2_with fail
              with_reducible refine (HSa2.out wy).mono ?_
              clear HSa2
              rintro e w5 ⟨rfl, hb5⟩
              have hd5 := (hb5.block _ (Array.getElem?_eq_some_iff.1 HD2.out).1).trans HD2.out
              have hr5 := (hb5.block _ (Array.getElem?_eq_some_iff.1 HRS.out.1).1).trans HRS.out.1
              obtain ⟨⟨q0, q1, q2⟩, _⟩ := row3 hd5
              obtain ⟨⟨r0, r1, r2⟩, v0, v1, v2⟩ := row3 hr5
              have hbw5 := HRS.out.2.trans (hb5.mono HRS.out.2.size)
              have HV2 := HV.out
              clear z0 z1 z2 HD2 HRS hb5 hd5
              cases hds : dsane true (digs S j) (b0 * 256 + b1 - 1000 - (j : Int)) with
              | false =>
                rw [hds, if_neg (by decide)] at HV2
                have HE := Lib.hid HV2
                have hS3 := set3 (v0 := .bool false) (v1 := .string ⟨#[]⟩) (v2 := .int .i64 0) hr5 (Nat.le_refl _) hbw5
                have HS3 := Lib.hid hS3
                clear hS3 hr5 hbw5 HV2 HV hds
                go_wp2_with fail
                refine bodyPost_ret (results_row_tmp rfl _ _ w.heap.size _ _ _ _ rfl HS3.out.1 Tryd.underlying25 rfl (by kernel_rfl)) rfl ⟨HS3.out.2, by rw [HE.out]; rfl⟩
              | true =>
                rw [hds, if_pos rfl] at HV2
                have HE := Lib.hid HV2
                have hS3 := set3 (v0 := .bool true) (v1 := .string sj) (v2 := .int .i64 (b0 * 256 + b1 - 1000 - (j : Int))) hr5 (Nat.le_refl _) hbw5
                have HS3 := Lib.hid hS3
                clear hS3 hr5 hbw5 HV2 HV hds
                go_wp2_with fail
                refine bodyPost_ret (results_row_tmp rfl _ _ w.heap.size _ _ _ _ rfl HS3.out.1 Tryd.underlying25 rfl (by kernel_rfl)) rfl ⟨HS3.out.2, ?_⟩
                rw [HE.out]
                dsimp only
                rw [Hsj.out, show ((j + 4 : Nat) : Int) - 1 = (j : Int) + 2 + 1 by omega]
                rfl
      · have di : decide ((i : Int) < (n : Int)) = false := decide_eq_false (by omega)
        have din : decide (i < n) = false := decide_eq_false (by omega)
        by_cases hk0 : k = 0
        · have HE : Hid (fsz true S = none) := Lib.hid (fsz_none (by rw [HK.out, hk0]))
          subst hk0
          have HS := Lib.hid (And.intro HJ.out.st HJ.out.b)
          clear HJ
          obtain ⟨⟨z0, z1, z2⟩, y0, y1, y2⟩ := row3 HS.out.1
          have hS3 := set3 (v0 := .bool false) (v1 := .string ⟨#[]⟩) (v2 := .int .i64 0) HS.out.1 (Nat.le_refl _) HS.out.2
          have HS3 := Lib.hid hS3
          clear hS3 HS
          go_wp2_with fail
          refine bodyPost_ret (results_row_tmp rfl _ _ w.heap.size _ _ _ _ rfl HS3.out.1 Tryd.underlying25 rfl (by kernel_rfl)) rfl ⟨HS3.out.2, by rw [HE.out]; rfl⟩
        · have dk3 : decide ((k : Int) + 2 < 3) = false := decide_eq_false (by omega)
          have hlti : w.heap.size < wr.heap.size := (Array.getElem?_eq_some_iff.1 HJ.out.st).1
          have hbn : Below wr.heap.size wr (wr.alloc (.cells #[.bool true, .string ⟨#[]⟩, .int .i64 0] 25)) := (Below.refl _ _).alloc (Nat.le_refl _) _
          have hNK : NK w wr.heap.size true (digs S 0) 0 p2 c2 (S.take i) (wr.alloc (.cells #[.bool true, .string ⟨#[]⟩, .int .i64 0] 25)) :=
            ⟨owned_keeps HJ.out.own fun g hg => hbn.block g (HJ.out.own.lt g hg).2, (hbn.block _ hlti).trans HJ.out.st, heap_alloc_new _ _, hlti, HJ.out.b.trans (hbn.mono (Nat.le_of_lt hlti))⟩
          obtain ⟨g2, rfl, hic⟩ : ∃ g, p2 = some ⟨g, 0, none⟩ ∧ i ≤ c2 := by
            rcases HJ.out.own.2 with ⟨hv, h⟩ | ⟨g, cap, cur, hv, _, _, h, _⟩
            · have := HIK.out; omega
            · injection hv with h1 _ h3
              exact ⟨g, h1, by omega⟩
          have HNK := Lib.hid hNK
          have hki : 2 + k < i := by have := HIK.out; omega
          have hin3 : i ≤ n := hi
          clear hNK hbn hlti HJ
          generalize hBd : wr.heap.size = Bd at HNK
          go_wp2_with fail
          clear hBd
          go_loopw [11] (fun v11 W => ∃ j : Nat, v11 = .int .i64 ((j : Int) + 2) ∧ j ≤ k ∧ Hid (NK w Bd true (digs S j) 0 (some ⟨g2, 0, none⟩) c2 (S.take i) W) ∧ Hid (∀ t, t < j → S.getD (2 + t) 0 ≤ 10)) (fun v11 _ => k + 2 - (intOf v11).toNat)
          case atStart => exact ⟨0, rfl, Nat.zero_le _, HNK, Lib.hid fun t ht => absurd ht (by omega)⟩
          case round =>
            clear HNK
            obtain ⟨j, rfl, hj, HK2, HT⟩ := hrel
            by_cases hjk : j < k
            · have dj : decide ((j : Int) + 2 < (k : Int) + 2) = true := decide_eq_true (by omega)
              have hgd : ∀ t, t < i → (S.take i).getD t 0 = S.getD t 0 := fun t ht => by
                rw [List.getD_eq_getElem?_getD, List.getD_eq_getElem?_getD, List.getElem?_take, if_pos ht]
              have a0 := (owned_rd HK2.out.own).cell (j + 2) (by omega)
              rw [hgd (j + 2) (by omega), Nat.zero_add] at a0
              have hx := bys_at HSy.out (i := 2 + j) (by rw [HSl.out]; omega)
              rw [Nat.add_comm 2 j] at hx
              have hx0 : S.getD (j + 2) 0 ≠ 0 := by
                have := zat_ne _ _ HK.out j hjk
                rw [List.getD_eq_getElem?_getD, List.getElem?_drop, Nat.add_comm 2 j, ← List.getD_eq_getElem?_getD] at this
                exact this
              have hji : j + 2 < i := by omega
              by_cases hx10 : S.getD (j + 2) 0 ≤ 10
              · have d10 : decide (10 < S.getD (j + 2) 0) = false := decide_eq_false (by omega)
                obtain ⟨⟨z0, z1, z2⟩, y0, y1, y2⟩ := row3 HK2.out.d
                have hsucc := digs_succ S j (by rw [HSl.out]; omega)
                rw [Nat.add_comm 2 j] at hsucc
                have HT2 : Hid (∀ t, t < j + 1 → S.getD (2 + t) 0 ≤ 10) := Lib.hid fun t ht => by
                  by_cases h : t = j
                  · rw [h, Nat.add_comm 2 j]; exact hx10
                  · exact HT.out t (by omega)
                have HSc := Lib.hid hsucc
                clear hsucc hgd HT
                generalize S.getD (j + 2) 0 = x at a0 hx hx0 hx10 d10 HSc
                have wu1 : IntKind.u8.wrap (x - 1) = x - 1 := by rw [IntKind.wrap_u8]; omega
                go_upto_region 20 with fail
                obtain ⟨e1, he1, hse⟩ : ∃ e1, (⟨#[48, 49, 50, 51, 52, 53, 54, 55, 56, 57]⟩ : ByteArray).extract (x.toNat - 1) x.toNat = e1 ∧ e1 = strOf [IntKind.u8.wrap (x + 47)] := ⟨_, rfl, digit_str x (by omega) hx10⟩
                have zs : (strOf (digs S j)).size ≤ 100000 := by rw [strOf_size, digs, List.length_map, List.length_take]; omega
                have ze : e1.size ≤ 10 := by rw [hse, strOf_size]; simp
                have hnx := HK2.out.put 1 (.string (strOf (digs S j) ++ e1)) (digs S (j + 1)) 0 (by rw [HSc.out, strOf_append, ← hse]; rfl)
                have HNX := Lib.hid hnx
                have hx1 : 1 ≤ x := by omega
                clear hnx hse HK2 HSc
                generalize strOf (digs S j) = sj at z1 zs HNX
                go_region
                go_wp2_with fail
                exact ⟨⟨j + 1, by go_num, by omega, Lib.hid HNX.out.drew, HT2⟩, by show k + 2 - ((j : Int) + 2 + 1).toNat < k + 2 - ((j : Int) + 2).toNat; omega⟩
              · have d10 : decide (10 < S.getD (j + 2) 0) = true := decide_eq_true (by omega)
                have HE : Hid (fsz true S = none) := Lib.hid (fsz_bad true HK.out hjk (by rw [HSl.out]; omega) (by omega) hx.2)
                have HRS := Lib.hid (And.intro HK2.out.st HK2.out.b)
                clear hgd HT HK2 hx0
                generalize S.getD (j + 2) 0 = x at a0 hx hx10 d10
                obtain ⟨⟨r0, r1, r2⟩, v0, v1, v2⟩ := row3 HRS.out.1
                have hS3 := set3 (v0 := .bool false) (v1 := .string ⟨#[]⟩) (v2 := .int .i64 0) HRS.out.1 (Nat.le_refl _) HRS.out.2
                have HS3 := Lib.hid hS3
                clear hS3 HRS
                go_wp2_with fail
                refine bodyPost_ret (results_row_tmp rfl _ _ w.heap.size _ _ _ _ rfl HS3.out.1 Tryd.underlying25 rfl (by kernel_rfl)) rfl ⟨HS3.out.2, by rw [HE.out]; rfl⟩
            · have dj : decide ((j : Int) + 2 < (k : Int) + 2) = false := decide_eq_false (by omega)
              obtain rfl : j = k := by omega
              have hgd : ∀ t, t < i → (S.take i).getD t 0 = S.getD t 0 := fun t ht => by
                rw [List.getD_eq_getElem?_getD, List.getD_eq_getElem?_getD, List.getElem?_take, if_pos ht]
              have a0 := (owned_rd HK2.out.own).cell 0 (by omega)
              have a1 := (owned_rd HK2.out.own).cell 1 (by omega)
              rw [hgd 0 (by omega), Nat.zero_add] at a0
              rw [hgd 1 (by omega), Nat.zero_add] at a1
              have hb0 := bys_at HSy.out (i := 0) (by rw [HSl.out]; omega)
              have hb1 := bys_at HSy.out (i := 1) (by rw [HSl.out]; omega)
              have hV := fsz_val true HK.out hk0 (by rw [HSl.out]; omega)
              have hdl : (digs S j).length = j := by rw [digs, List.length_map, List.length_take, List.length_drop, HSl.out]; omega
              have hdb : Bys (digs S j) := fun x hx => by
                obtain ⟨c, _, rfl⟩ := List.mem_map.1 hx
                rw [IntKind.wrap_u8]
                omega
              have hns := HK2.out.put 2 (.int .i64 (S.getD 0 0 * 256 + S.getD 1 0 - 1000 - (j : Int))) (digs S j) (S.getD 0 0 * 256 + S.getD 1 0 - 1000 - (j : Int)) rfl
              have HNX := Lib.hid hns.drew
              have HSa2 := Lib.hid (fun (v : World) => Sane_ref v true (strOf (digs S j)) (S.getD 0 0 * 256 + S.getD 1 0 - 1000 - (j : Int)) (by rw [strOf_size, hdl]; omega))
              rw [unstr_strOf _ hdb] at HSa2
              obtain ⟨⟨z0, z1, z2⟩, y0, y1, y2⟩ := row3 HK2.out.d
              have hzs : (strOf (digs S j)).size = j := by rw [strOf_size, hdl]
              have HV := Lib.hid hV
              have hin1 : 1 < i := by omega
              have hin0 : 0 < i := by omega
              clear hgd hV hdl hdb hns HT HK2
              generalize hsj : strOf (digs S j) = sj at z1 hzs HSa2
              have Hsj := Lib.hid hsj
              clear hsj
              generalize S.getD 0 0 = b0 at a0 hb0 HNX HSa2 HV
              generalize S.getD 1 0 = b1 at a1 hb1 HNX HSa2 HV
              go_upto_region 21 with fail
              go_region
              clear z0 z1 z2 y0 y1 y2 a0 a1
              generalize (wr.setCell ⟨Bd, 2, none⟩ (.int .i64 (b0 * 256 + b1 - 1000 - (j : Int)))).drew = wy at HNX ⊢
              have hd := HNX.out.d
              rw [Hsj.out] at hd
              obtain ⟨⟨z0, z1, z2⟩, _⟩ := row3 hd
              have HD2 := Lib.hid hd
              have HRS := Lib.hid (And.intro HNX.out.st HNX.out.b)
              clear hd HNX
              go_wp2_with fail
              with_reducible refine (HSa2.out wy).mono ?_
              clear HSa2
              rintro e w5 ⟨rfl, hb5⟩
              have hd5 := (hb5.block _ (Array.getElem?_eq_some_iff.1 HD2.out).1).trans HD2.out
              have hr5 := (hb5.block _ (Array.getElem?_eq_some_iff.1 HRS.out.1).1).trans HRS.out.1
              obtain ⟨⟨q0, q1, q2⟩, _⟩ := row3 hd5
              obtain ⟨⟨r0, r1, r2⟩, v0, v1, v2⟩ := row3 hr5
              have hbw5 := HRS.out.2.trans (hb5.mono HRS.out.2.size)
              have HV2 := HV.out
              clear z0 z1 z2 HD2 HRS hb5 hd5
              cases hds : dsane true (digs S j) (b0 * 256 + b1 - 1000 - (j : Int)) with
              | false =>
                rw [hds, if_neg (by decide)] at HV2
                have HE := Lib.hid HV2
                have hS3 := set3 (v0 := .bool false) (v1 := .string ⟨#[]⟩) (v2 := .int .i64 0) hr5 (Nat.le_refl _) hbw5
                have HS3 := Lib.hid hS3
                clear hS3 hr5 hbw5 HV2 HV hds
                go_wp2_with fail
                refine bodyPost_ret (results_row_tmp rfl _ _ w.heap.size _ _ _ _ rfl HS3.out.1 Tryd.underlying25 rfl (by kernel_rfl)) rfl ⟨HS3.out.2, by rw [HE.out]; rfl⟩
              | true =>
                rw [hds, if_pos rfl] at HV2
                have HE := Lib.hid HV2
                have hS3 := set3 (v0 := .bool true) (v1 := .string sj) (v2 := .int .i64 (b0 * 256 + b1 - 1000 - (j : Int))) hr5 (Nat.le_refl _) hbw5
                have HS3 := Lib.hid hS3
                clear hS3 hr5 hbw5 HV2 HV hds
                go_wp2_with fail
                refine bodyPost_ret (results_row_tmp rfl _ _ w.heap.size _ _ _ _ rfl HS3.out.1 Tryd.underlying25 rfl (by kernel_rfl)) rfl ⟨HS3.out.2, ?_⟩
                rw [HE.out]
                dsimp only
                rw [Hsj.out, show ((j + 4 : Nat) : Int) - 1 = (j : Int) + 2 + 1 by omega]
                rfl
end Go.Proofs.YtebhbcbcnjdgjaaDoor.dk
