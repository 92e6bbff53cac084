/- A number, decoded. -/
import Derived.Test.YtebhbcbcnjdgjaaDoorN3
namespace Go.Proofs.YtebhbcbcnjdgjaaDoor.dk
open Go.PlainAid Go.ChangeShapes Go.WideShapes Go.ChangeAt Go.RowKit

/-- The number's bytes, i of its digits plain. -/
def trn (s : List Int) (i : Nat) : List Int := s.take 2 ++ ((s.drop 2).take i).map (fun c => IntKind.u8.wrap (c + 47)) ++ s.drop (2 + i)
theorem trn_zero (s : List Int) : trn s 0 = s := by unfold trn; simp
theorem trn_len (s : List Int) (i : Nat) : (trn s i).length = s.length := by
  unfold trn
  rw [List.length_append, List.length_append, List.length_map, List.length_take, List.length_take, List.length_drop, List.length_drop]
  omega
theorem trn_at (s : List Int) (i : Nat) (h : i + 2 < s.length) : (trn s i).getD (2 + i) 0 = s.getD (2 + i) 0 := by
  unfold trn
  rw [List.getD_eq_getElem?_getD, List.getElem?_append_right (by rw [List.length_append, List.length_map, List.length_take, List.length_take, List.length_drop]; omega), List.length_append, List.length_map, List.length_take, List.length_take, List.length_drop, List.getElem?_drop, List.getD_eq_getElem?_getD]
  congr 2
  omega
theorem trn_low (s : List Int) (i j : Nat) (h : j < 2) : (trn s i).getD j 0 = s.getD j 0 := by
  unfold trn
  match s with
  | [] => simp
  | [a] => match j with
    | 0 => simp
    | 1 => simp
  | a :: b :: t => match j with
    | 0 => rfl
    | 1 => rfl
theorem trn_mid (s : List Int) (i : Nat) (h : i + 2 ≤ s.length) : ((trn s i).drop 2).take i = ((s.drop 2).take i).map fun c => IntKind.u8.wrap (c + 47) := by
  unfold trn
  have h2 : (s.take 2).length = 2 := by rw [List.length_take]; omega
  have h3 : (((s.drop 2).take i).map fun c => IntKind.u8.wrap (c + 47)).length = i := by rw [List.length_map, List.length_take, List.length_drop]; omega
  rw [List.append_assoc, List.drop_append_of_le_length (by omega), List.drop_eq_nil_of_le (by omega), List.nil_append, List.take_append_of_le_length (by omega), List.take_of_length_le (by omega)]
theorem or8 (a b : Int) (ha : 0 ≤ a ∧ a ≤ 255) (hb : 0 ≤ b ∧ b ≤ 255) : bits .or .i64 (wrap64 (wrap64 a * 256)) (wrap64 b) = a * 256 + b := by
  rw [IntWalk.wrap64_in a (by omega), IntWalk.wrap64_in b (by omega), IntWalk.wrap64_in (a * 256) (by omega)]
  exact bits_join .i64 63 (by decide) (fun m a b => by rw [IntKind.wrap_i64]; omega) 8 (a * 256) b (by omega) (by omega) (by omega) (by omega) (by omega) (by omega)
theorem trn_succ (s : List Int) (i : Nat) (h : i + 2 < s.length) : (trn s i).set (2 + i) (IntKind.u8.wrap (s.getD (2 + i) 0 + 47)) = trn s (i + 1) := by
  unfold trn
  have hd : (s.drop 2).length = s.length - 2 := List.length_drop ..
  rw [List.set_append_right _ _ (by rw [List.length_append, List.length_map, List.length_take, List.length_take, List.length_drop]; omega), List.length_append, List.length_map, List.length_take, List.length_take, List.length_drop, show 2 + i - (min 2 s.length + min i (s.length - 2)) = 0 by omega, List.drop_eq_getElem_cons (show 2 + i < s.length by omega), List.set_cons_zero, List.take_succ_eq_append_getElem (show i < (s.drop 2).length by omega), List.map_append, ← List.append_assoc, List.append_assoc _ _ (s.drop (2 + (i + 1)))]
  congr 1
  rw [List.getD_eq_getElem?_getD, List.getElem?_eq_getElem (show 2 + i < s.length by omega), List.getElem_drop]
  rfl
set_option maxHeartbeats 8000000 in
set_option maxRecDepth 100000 in
theorem firstNumber_any (w : World) (g off n c : Nat) (l : List Int) (hR : Rd w (some ⟨g, off, none⟩) n l) (hy : Bys l) (h1 : 1 ≤ n) (hnc : n ≤ c) (hn : n ≤ 100000) (hc2 : 2 ≤ c) :
    Calls Tryd.prog 49 #[.slice (some ⟨g, off, none⟩) n c] w (NPost w (fnum l)) := by
  have hlen := hR.1
  obtain ⟨k, hk⟩ : ∃ k : Nat, min (n : Int) 44 = (k : Int) ∧ 1 ≤ k ∧ k ≤ n ∧ k ≤ c ∧ k ≤ 44 ∧ l.take 44 = l.take k := by
    by_cases h : n ≤ 44
    · exact ⟨n, by omega, h1, Nat.le_refl _, hnc, h, by rw [List.take_of_length_le (by omega), List.take_of_length_le (by omega)]⟩
    · exact ⟨44, by omega, by omega, by omega, by omega, by omega, rfl⟩
  obtain ⟨hmin, hk1, hkn, hkc, hk44, htk⟩ := hk
  have hbw : Below w.heap.size w (w.alloc (.cells pzero 43)) := (Below.refl _ _).alloc (Nat.le_refl _) _
  have hcut := (hR.below hbw).cut 1 (k - 1) (by omega)
  have hrow := heap_alloc_new w (.cells pzero 43)
  obtain ⟨wa, hwa⟩ : ∃ wa, wa = w.alloc (.cells pzero 43) := ⟨_, rfl⟩
  rw [← hwa] at hcut hrow hbw
  have hsz : wa.heap.size = w.heap.size + 1 := by rw [hwa, box_size]
  have HCl := Lib.hid (Clone_any wa g (off + 1) (k - 1) (c - 1) _ hcut (by omega))
  have eS : (l.drop 1).take (k - 1) = (l.take k).drop 1 := by rw [List.drop_take]
  have HRow := Lib.hid hrow
  have HBw := Lib.hid hbw
  have HSz := Lib.hid hsz
  have HR := Lib.hid hR
  have HY := Lib.hid hy
  have HWa := Lib.hid hwa
  have HTk := Lib.hid htk
  have hp := fnum.eq_1 l
  obtain ⟨R, hRR⟩ : ∃ R, fnum l = R := ⟨_, rfl⟩
  rw [hRR] at hp ⊢
  have HP := Lib.hid hp
  unfold pzero at HWa HRow
  clear hR hy hcut hrow hbw hsz hwa htk hp hRR
  have hc1 : ¬ (c = 1) := by omega
  have hkc1 : (k : Int) ≤ (c : Int) := by omega
  have hk1i : (1 : Int) ≤ (k : Int) := by omega
  go_enter Tryd.func49, Tryd.ntmps49
  go_wp2_with fail
  rw [← HWa.out]
  with_reducible refine HCl.out.mono ?_
  clear HCl
  rintro e w1 ⟨p1, c1, rfl, ho1, hb1⟩
  rw [eS] at ho1 ⊢
  have hrd1 := HR.out.below (HBw.out.trans (hb1.mono (by have := HSz.out; omega)))
  have a0 := hrd1.cell 0 (by omega)
  rw [Nat.add_zero] at a0
  have hrow1 := (hb1.block w.heap.size (by have := HSz.out; omega)).trans HRow.out
  have HBw1 := Lib.hid (HBw.out.trans (hb1.mono (by have := HSz.out; omega)))
  rw [HSz.out] at ho1 hb1
  have hys : Bys ((l.take k).drop 1) := (HY.out.take k).drop 1
  have hP := HP.out
  rw [HTk.out] at hP
  have hsl : ((l.take k).drop 1).length ≤ 100 := by rw [List.length_drop, List.length_take]; omega
  generalize (l.take k).drop 1 = s at ho1 hys hP hsl ⊢
  have HFl := Lib.hid (flip_own w1 (w.heap.size + 1) c1 p1 s ho1 hys (by omega))
  have HO1 := Lib.hid ho1
  have HRow1 := Lib.hid hrow1
  have HYs := Lib.hid hys
  clear ho1 hrow1 hys hrd1 hb1 eS HRow HBw HWa HP HTk
  by_cases h48 : l.getD 0 0 = 48
  · rw [if_pos h48] at hP
    have HP1 := Lib.hid hP
    rw [h48] at a0
    clear hP
    go_wp2_with fail
    with_reducible refine HFl.out.mono ?_
    rintro e w2 ⟨rfl, ho2, hb2⟩
    have hl2 : (flipb s).length = s.length := by simp [flipb]
    have HI := Lib.hid (And.intro (by rw [hl2]; exact ho2 : w2.ownsRow (w.heap.size + 1) 5 1 (.slice p1 (flipb s).length c1) (flipb s).length (bcells (flipb s))) (And.intro ((hb2.block w.heap.size (Nat.lt_succ_self _)).trans HRow1.out) (HBw1.out.trans (hb2.mono (Nat.le_succ _)))))
    have HYs2 := Lib.hid (flip_bys HYs.out)
    have HP2 := Lib.hid HP1.out
    have hl2' := hl2.symm
    rw [hl2'] at hsl ⊢
    clear HFl ho2 hb2 HO1 HRow1 HBw1 HYs HP1 hl2 hl2'
    generalize flipb s = s at HI HYs2 HP2 hsl ⊢
    by_cases hs2 : s.length < 2
    · have d2 : decide ((s.length : Int) < 2) = true := decide_eq_true (by omega)
      have d2n : decide (s.length < 2) = true := decide_eq_true hs2
      have e : R = none := by rw [HP2.out]; unfold fsz; rw [if_pos hs2]
      subst e
      have HB2 := Lib.hid HI.out.2.2
      obtain ⟨⟨z0, z1, z2, z3, z4, z5, z6⟩, y0, y1, y2, y3, y4, y5, y6⟩ := row7 HI.out.2.1
      have hS := set7 (v0 := .int .i64 0) (v1 := .bool false) (v2 := .bool false) (v3 := .string ⟨#[]⟩) (v4 := .int .i64 0) (v5 := .string ⟨#[]⟩) (v6 := .int .i64 0) HI.out.2.1 (Nat.le_refl _) HI.out.2.2
      have HS := Lib.hid hS
      clear hS HI
      go_wp2_with fail
      refine bodyPost_ret (results_row_tmp rfl _ _ w.heap.size _ _ _ _ rfl HS.out.1 Tryd.underlying43 rfl (by kernel_rfl)) rfl ⟨HS.out.2, rfl⟩
    · have d2 : decide ((s.length : Int) < 2) = false := decide_eq_false (by omega)
      have d2n : decide (s.length < 2) = false := decide_eq_false hs2
      obtain ⟨g1, rfl, hcap⟩ : ∃ g1, p1 = some ⟨g1, 0, none⟩ ∧ s.length ≤ c1 := by
        rcases HI.out.1.2 with ⟨_, h⟩ | ⟨g1, cap, cur, hv, _, _, h, _⟩
        · omega
        · injection hv with e1 _ e3
          exact ⟨g1, e1, by omega⟩
      by_cases hcc : c1 = 2
      · have hs0 : s.drop 2 = [] := List.drop_eq_nil_of_le (by omega)
        have e : R = none := by rw [HP2.out]; unfold fsz; rw [if_neg hs2, hs0]; rfl
        subst e
        have HX := Lib.hid (Tryd.bytes_IndexByte g1 0 0 0 [] 0 w2 rfl (fun i hi => absurd hi (by omega)))
        have hsl2 : s.length - 2 = 0 := by omega
        subst hcc
        go_wp2_with fail
        with_reducible refine HX.out.mono ?_
        clear HX
        rintro e w3 ⟨rfl, rfl⟩
        rw [show Lib.indexByte (Lib.bytesOf []) ((0 : Int).toNat.toUInt8) = -1 from rfl]
        have HB2 := Lib.hid HI.out.2.2
        obtain ⟨⟨z0, z1, z2, z3, z4, z5, z6⟩, y0, y1, y2, y3, y4, y5, y6⟩ := row7 HI.out.2.1
        have hS := set7 (v0 := .int .i64 0) (v1 := .bool false) (v2 := .bool false) (v3 := .string ⟨#[]⟩) (v4 := .int .i64 0) (v5 := .string ⟨#[]⟩) (v6 := .int .i64 0) HI.out.2.1 (Nat.le_refl _) HI.out.2.2
        have HS := Lib.hid hS
        clear hS HI
        go_wp2_with fail
        refine bodyPost_ret (results_row_tmp rfl _ _ w.heap.size _ _ _ _ rfl HS.out.1 Tryd.underlying43 rfl (by kernel_rfl)) rfl ⟨HS.out.2, rfl⟩
      · have hrs := owned_rd HI.out.1
        have hxs : (s.drop 2).length = s.length - 2 := by rw [List.length_drop]
        have hcx := hrs.cut 2 (s.length - 2) (by omega)
        rw [List.take_of_length_le (by omega), Nat.zero_add] at hcx
        have HX := Lib.hid (Tryd.bytes_IndexByte g1 2 (s.length - 2) (c1 - 2) (s.drop 2) 0 w2 hxs (fun i hi => hcx.cell i hi))
        rw [indexByte_zat _ (HYs2.out.drop 2)] at HX
        clear hrs hcx
        go_wp2_with fail
        with_reducible refine HX.out.mono ?_
        clear HX
        rintro e w3 ⟨rfl, rfl⟩
        have hPP := HP2.out
        unfold fsz at hPP
        rw [if_neg hs2] at hPP
        cases hz : zat (s.drop 2) with
        | none =>
          rw [hz] at hPP
          subst hPP
          clear hz hxs
          dsimp only
          have HB2 := Lib.hid HI.out.2.2
          obtain ⟨⟨z0, z1, z2, z3, z4, z5, z6⟩, y0, y1, y2, y3, y4, y5, y6⟩ := row7 HI.out.2.1
          have hS := set7 (v0 := .int .i64 0) (v1 := .bool false) (v2 := .bool false) (v3 := .string ⟨#[]⟩) (v4 := .int .i64 0) (v5 := .string ⟨#[]⟩) (v6 := .int .i64 0) HI.out.2.1 (Nat.le_refl _) HI.out.2.2
          have HS := Lib.hid hS
          clear hS HI
          go_wp2_with fail
          refine bodyPost_ret (results_row_tmp rfl _ _ w.heap.size _ _ _ _ rfl HS.out.1 Tryd.underlying43 rfl (by kernel_rfl)) rfl ⟨HS.out.2, rfl⟩
        | some j =>
          rw [hz] at hPP
          have hjl := zat_lt _ _ hz
          dsimp only at hPP ⊢
          by_cases hj0 : j = 0
          · subst hj0
            rw [if_pos rfl] at hPP
            subst hPP
            clear hz hxs hjl
            have HB2 := Lib.hid HI.out.2.2
            obtain ⟨⟨z0, z1, z2, z3, z4, z5, z6⟩, y0, y1, y2, y3, y4, y5, y6⟩ := row7 HI.out.2.1
            have hS := set7 (v0 := .int .i64 0) (v1 := .bool false) (v2 := .bool false) (v3 := .string ⟨#[]⟩) (v4 := .int .i64 0) (v5 := .string ⟨#[]⟩) (v6 := .int .i64 0) HI.out.2.1 (Nat.le_refl _) HI.out.2.2
            have HS := Lib.hid hS
            clear hS HI
            go_wp2_with fail
            refine bodyPost_ret (results_row_tmp rfl _ _ w.heap.size _ _ _ _ rfl HS.out.1 Tryd.underlying43 rfl (by kernel_rfl)) rfl ⟨HS.out.2, rfl⟩
          · have dj0 : decide ((j : Int) ≤ 0) = false := decide_eq_false (by omega)
            have dj0n : decide (j ≤ 0) = false := decide_eq_false (by omega)
            rw [if_neg hj0] at hPP
            have HPP := Lib.hid hPP
            have ws : IntKind.i64.wrap (2 + (j : Int)) = 2 + (j : Int) := by rw [IntKind.wrap_i64]; omega
            clear hPP hz
            have hj2 : 2 + j - 2 = j := by omega
            have hjc : 2 + j ≤ c1 := by omega
            have HPo := Lib.hid (And.intro hxs hjl)
            clear hxs hjl
            go_wp2_with fail
            go_loopw [40] (fun v wr => ∃ i : Nat, v = .int .i64 (i : Int) ∧ i ≤ j ∧ Hid (wr.ownsRow (w.heap.size + 1) 5 1 (.slice (some ⟨g1, 0, none⟩) s.length c1) s.length (bcells (trn s i)) ∧ wr.heap[w.heap.size]? = some (.cells #[.int .i64 0, .bool false, .bool false, .string ⟨#[]⟩, .int .i64 0, .string ⟨#[]⟩, .int .i64 0] 43 (0, 0)) ∧ Below w.heap.size w wr)) (fun v _ => j - (intOf v).toNat)
            case atStart => exact ⟨0, rfl, Nat.zero_le _, Lib.hid ⟨by rw [trn_zero]; exact HI.out.1, HI.out.2⟩⟩
            case round =>
              clear HI
              obtain ⟨i, rfl, hi, HI⟩ := hrel
              by_cases hij : i < j
              · have di : decide ((i : Int) < (j : Int)) = true := decide_eq_true (by omega)
                have din : decide (i < j) = true := decide_eq_true hij
                have hts := trn_len s i
                have hro : wr.ownsRow (w.heap.size + 1) 5 1 (.slice (some ⟨g1, 0, none⟩) (trn s i).length c1) (trn s i).length (bcells (trn s i)) := by rw [hts]; exact HI.out.1
                have hi2 : i + 2 < s.length := by have := HPo.out; omega
                have c0 := (owned_rd hro).cell (2 + i) (by omega)
                rw [trn_at s i hi2, Nat.zero_add] at c0
                have f0 : wr.frozen? ⟨g1, 2 + i, none⟩ = false := by
                  obtain ⟨cur, hc⟩ := owned_type HI.out.1 (g := g1) rfl
                  exact frozen_of_row _ _ _ _ _ hc
                obtain ⟨s1, s2, s3, s4⟩ := own_set HI.out.1 (2 + i) (.int .u8 (IntKind.u8.wrap (s.getD (2 + i) 0 + 47)))
                rw [bcells_set, trn_succ s i hi2] at s1
                have HN := Lib.hid s1
                have HNF := Lib.hid (And.intro ((s3 w.heap.size (by omega)).trans HI.out.2.1) (HI.out.2.2.trans (s4.mono (Nat.le_succ _))))
                clear s1 s3 s4 hro HI
                generalize s.getD (2 + i) 0 = x at c0 HN HNF
                go_wp2_with fail
                exact ⟨⟨i + 1, by go_num, by omega, Lib.hid ⟨HN.out, HNF.out⟩⟩, by show j - ((i : Int) + 1).toNat < j - (i : Int).toNat; omega⟩
              · have di : decide ((i : Int) < (j : Int)) = false := decide_eq_false (by omega)
                have din : decide (i < j) = false := decide_eq_false hij
                obtain rfl : i = j := by omega
                have hts := trn_len s i
                have hro : wr.ownsRow (w.heap.size + 1) 5 1 (.slice (some ⟨g1, 0, none⟩) (trn s i).length c1) (trn s i).length (bcells (trn s i)) := by rw [hts]; exact HI.out.1
                have hi2 : i + 2 < s.length := by have := HPo.out; omega
                have e0 := (owned_rd hro).cell 0 (by omega)
                have e1 := (owned_rd hro).cell 1 (by omega)
                rw [trn_low s i 0 (by omega), Nat.zero_add] at e0
                rw [trn_low s i 1 (by omega), Nat.zero_add] at e1
                have hb0 : 0 ≤ s.getD 0 0 ∧ s.getD 0 0 ≤ 255 := by
                  rw [List.getD_eq_getElem?_getD, List.getElem?_eq_getElem (by omega)]
                  exact HYs2.out _ (List.getElem_mem _)
                have hb1 : 0 ≤ s.getD 1 0 ∧ s.getD 1 0 ≤ 255 := by
                  rw [List.getD_eq_getElem?_getD, List.getElem?_eq_getElem (by omega)]
                  exact HYs2.out _ (List.getElem_mem _)
                have hcd := (owned_rd hro).cut 2 i (by omega)
                rw [trn_mid s i (by omega), Nat.zero_add] at hcd
                have V : ∀ y, (convert 23 9 (.slice (some ⟨g1, 2, none⟩) i (c1 - 2))).run Tryd.prog (wr.drewN y) = .ok (.string (strOf (((s.drop 2).take i).map fun c => IntKind.u8.wrap (c + 47)))) (wr.drewN y) := fun y => by exact conv_rd (hcd.below (below_drewN (Below.refl _ _) y))
                have hbd : Bys (((s.drop 2).take i).map fun c => IntKind.u8.wrap (c + 47)) := fun x hx => by
                  obtain ⟨c, _, rfl⟩ := List.mem_map.1 hx
                  rw [IntKind.wrap_u8]
                  omega
                have hdl : (((s.drop 2).take i).map fun c => IntKind.u8.wrap (c + 47)).length ≤ 100 := by rw [List.length_map, List.length_take]; omega
                clear hro hcd
                generalize ((s.drop 2).take i).map (fun c => IntKind.u8.wrap (c + 47)) = D at V hbd hdl HPP
                generalize s.getD 0 0 = b0 at e0 hb0 HPP
                generalize s.getD 1 0 = b1 at e1 hb1 HPP
                have hor := or8 b0 b1 hb0 hb1
                rw [IntWalk.wrap64_in b0 (by omega), IntWalk.wrap64_in b1 (by omega), IntWalk.wrap64_in (b0 * 256) (by omega)] at hor
                have ws2 : IntKind.i64.wrap (b0 * 256 + b1 - 1000) = b0 * 256 + b1 - 1000 := by rw [IntKind.wrap_i64]; omega
                have ws3 : IntKind.i64.wrap (b0 * 256 + b1 - 1000 - (i : Int)) = b0 * 256 + b1 - 1000 - (i : Int) := by rw [IntKind.wrap_i64]; omega
                have ws4 : IntKind.i64.wrap (3 + (i : Int)) = 3 + (i : Int) := by rw [IntKind.wrap_i64]; omega
                have ws5 : IntKind.i64.wrap (3 + (i : Int) + 1) = 3 + (i : Int) + 1 := by rw [IntKind.wrap_i64]; omega
                have HSa := Lib.hid (fun (v : World) => Sane_any v true (strOf D) (b0 * 256 + b1 - 1000 - (i : Int)) (by rw [strOf_size]; omega))
                rw [unstr_strOf D hbd] at HSa
                generalize hds : dsane true D (b0 * 256 + b1 - 1000 - (i : Int)) = ds at HSa HPP
                clear hds hbd hdl
                go_upto_region 16 with fail
                go_quiet (fail)
                have V' := V nq
                have hbwd : Below wr.heap.size wr (wr.drewN nq) := below_drewN (Below.refl _ _) nq
                clear V
                generalize wr.drewN nq = wd at V' hbwd ⊢
                have HBwd := Lib.hid hbwd
                clear hbwd
                go_wp2_with fail
                have hro2 := heap_alloc_new wd (.cells #[.bool true, .string (strOf D), .int .i64 (b0 * 256 + b1 - 1000 - (i : Int))] 25)
                have hbe : Below wr.heap.size wr (wd.alloc (.cells #[.bool true, .string (strOf D), .int .i64 (b0 * 256 + b1 - 1000 - (i : Int))] 25)) := HBwd.out.alloc HBwd.out.size _
                with_reducible refine (HSa.out _).mono ?_
                clear HSa
                rintro e w5 ⟨rfl, hb5⟩
                have hD5 := (hb5.block _ (Array.getElem?_eq_some_iff.1 hro2).1).trans hro2
                have hb5w := hbe.trans (hb5.mono hbe.size)
                have hrow5 := (hb5w.block w.heap.size (Array.getElem?_eq_some_iff.1 HI.out.2.1).1).trans HI.out.2.1
                have HI5 : Hid (True ∧ w5.heap[w.heap.size]? = some (.cells #[.int .i64 0, .bool false, .bool false, .string ⟨#[]⟩, .int .i64 0, .string ⟨#[]⟩, .int .i64 0] 43 (0, 0)) ∧ Below w.heap.size w w5) := ⟨trivial, hrow5, HI.out.2.2.trans (hb5w.mono HI.out.2.2.size)⟩
                have q0 := cell_of_row _ _ 0 _ _ _ hD5
                have q1 := cell_of_row _ _ 1 _ _ _ hD5
                have q2 := cell_of_row _ _ 2 _ _ _ hD5
                simp at q0 q1 q2
                clear hro2 hbe hb5 hD5 hb5w hrow5 HI
                have HI := HI5
                clear HI5
                obtain ⟨⟨z0, z1, z2, z3, z4, z5, z6⟩, y0, y1, y2, y3, y4, y5, y6⟩ := row7 HI.out.2.1
                have HPQ := HPP.out
                cases ds with
                | false =>
                  rw [if_neg (by decide)] at HPQ
                  subst HPQ
                  have hS := set7 (v0 := .int .i64 0) (v1 := .bool false) (v2 := .bool false) (v3 := .string ⟨#[]⟩) (v4 := .int .i64 0) (v5 := .string ⟨#[]⟩) (v6 := .int .i64 0) HI.out.2.1 (Nat.le_refl _) HI.out.2.2
                  have HS := Lib.hid hS
                  clear hS HI
                  go_wp2_with fail
                  refine bodyPost_ret (results_row_tmp rfl _ _ w.heap.size _ _ _ _ rfl HS.out.1 Tryd.underlying43 rfl (by kernel_rfl)) rfl ⟨HS.out.2, rfl⟩
                | true =>
                  rw [if_pos rfl] at HPQ
                  subst HPQ
                  have hS := set7 (v0 := .int .i64 2) (v1 := .bool false) (v2 := .bool true) (v3 := .string (strOf D)) (v4 := .int .i64 (b0 * 256 + b1 - 1000 - (i : Int))) (v5 := .string ⟨#[]⟩) (v6 := .int .i64 0) HI.out.2.1 (Nat.le_refl _) HI.out.2.2
                  have HS := Lib.hid hS
                  clear hS HI
                  go_wp2_with fail
                  refine bodyPost_ret (results_row_tmp rfl _ _ w.heap.size _ _ _ _ rfl HS.out.1 Tryd.underlying43 rfl (by kernel_rfl)) rfl ⟨HS.out.2, ?_⟩
                  have e2 : ((i + 4 : Nat) : Int) = 3 + (i : Int) + 1 := by omega
                  dsimp only
                  rw [e2]
                  rfl
  · rw [if_neg h48] at hP
    have HP2 := Lib.hid hP
    have f48 : (l.getD 0 0 == 48) = false := beq_eq_false_iff_ne.2 h48
    have HI := Lib.hid (And.intro HO1.out (And.intro HRow1.out HBw1.out))
    have HYs2 := Lib.hid HYs.out
    clear hP HFl HO1 HRow1 HBw1 HYs
    generalize l.getD 0 0 = x0 at a0 f48 h48
    by_cases hs2 : s.length < 2
    · have d2 : decide ((s.length : Int) < 2) = true := decide_eq_true (by omega)
      have d2n : decide (s.length < 2) = true := decide_eq_true hs2
      have e : R = none := by rw [HP2.out]; unfold fsz; rw [if_pos hs2]
      subst e
      have HB2 := Lib.hid HI.out.2.2
      obtain ⟨⟨z0, z1, z2, z3, z4, z5, z6⟩, y0, y1, y2, y3, y4, y5, y6⟩ := row7 HI.out.2.1
      have hS := set7 (v0 := .int .i64 0) (v1 := .bool false) (v2 := .bool false) (v3 := .string ⟨#[]⟩) (v4 := .int .i64 0) (v5 := .string ⟨#[]⟩) (v6 := .int .i64 0) HI.out.2.1 (Nat.le_refl _) HI.out.2.2
      have HS := Lib.hid hS
      clear hS HI
      go_wp2_with fail
      refine bodyPost_ret (results_row_tmp rfl _ _ w.heap.size _ _ _ _ rfl HS.out.1 Tryd.underlying43 rfl (by kernel_rfl)) rfl ⟨HS.out.2, rfl⟩
    · have d2 : decide ((s.length : Int) < 2) = false := decide_eq_false (by omega)
      have d2n : decide (s.length < 2) = false := decide_eq_false hs2
      obtain ⟨g1, rfl, hcap⟩ : ∃ g1, p1 = some ⟨g1, 0, none⟩ ∧ s.length ≤ c1 := by
        rcases HI.out.1.2 with ⟨_, h⟩ | ⟨g1, cap, cur, hv, _, _, h, _⟩
        · omega
        · injection hv with e1 _ e3
          exact ⟨g1, e1, by omega⟩
      by_cases hcc : c1 = 2
      · have hs0 : s.drop 2 = [] := List.drop_eq_nil_of_le (by omega)
        have e : R = none := by rw [HP2.out]; unfold fsz; rw [if_neg hs2, hs0]; rfl
        subst e
        have HX := Lib.hid (Tryd.bytes_IndexByte g1 0 0 0 [] 0 w1 rfl (fun i hi => absurd hi (by omega)))
        have hsl2 : s.length - 2 = 0 := by omega
        subst hcc
        go_wp2_with fail
        with_reducible refine HX.out.mono ?_
        clear HX
        rintro e w3 ⟨rfl, rfl⟩
        rw [show Lib.indexByte (Lib.bytesOf []) ((0 : Int).toNat.toUInt8) = -1 from rfl]
        have HB2 := Lib.hid HI.out.2.2
        obtain ⟨⟨z0, z1, z2, z3, z4, z5, z6⟩, y0, y1, y2, y3, y4, y5, y6⟩ := row7 HI.out.2.1
        have hS := set7 (v0 := .int .i64 0) (v1 := .bool false) (v2 := .bool false) (v3 := .string ⟨#[]⟩) (v4 := .int .i64 0) (v5 := .string ⟨#[]⟩) (v6 := .int .i64 0) HI.out.2.1 (Nat.le_refl _) HI.out.2.2
        have HS := Lib.hid hS
        clear hS HI
        go_wp2_with fail
        refine bodyPost_ret (results_row_tmp rfl _ _ w.heap.size _ _ _ _ rfl HS.out.1 Tryd.underlying43 rfl (by kernel_rfl)) rfl ⟨HS.out.2, rfl⟩
      · have hrs := owned_rd HI.out.1
        have hxs : (s.drop 2).length = s.length - 2 := by rw [List.length_drop]
        have hcx := hrs.cut 2 (s.length - 2) (by omega)
        rw [List.take_of_length_le (by omega), Nat.zero_add] at hcx
        have HX := Lib.hid (Tryd.bytes_IndexByte g1 2 (s.length - 2) (c1 - 2) (s.drop 2) 0 w1 hxs (fun i hi => hcx.cell i hi))
        rw [indexByte_zat _ (HYs2.out.drop 2)] at HX
        clear hrs hcx
        go_wp2_with fail
        with_reducible refine HX.out.mono ?_
        clear HX
        rintro e w3 ⟨rfl, rfl⟩
        have hPP := HP2.out
        unfold fsz at hPP
        rw [if_neg hs2] at hPP
        cases hz : zat (s.drop 2) with
        | none =>
          rw [hz] at hPP
          subst hPP
          clear hz hxs
          dsimp only
          have HB2 := Lib.hid HI.out.2.2
          obtain ⟨⟨z0, z1, z2, z3, z4, z5, z6⟩, y0, y1, y2, y3, y4, y5, y6⟩ := row7 HI.out.2.1
          have hS := set7 (v0 := .int .i64 0) (v1 := .bool false) (v2 := .bool false) (v3 := .string ⟨#[]⟩) (v4 := .int .i64 0) (v5 := .string ⟨#[]⟩) (v6 := .int .i64 0) HI.out.2.1 (Nat.le_refl _) HI.out.2.2
          have HS := Lib.hid hS
          clear hS HI
          go_wp2_with fail
          refine bodyPost_ret (results_row_tmp rfl _ _ w.heap.size _ _ _ _ rfl HS.out.1 Tryd.underlying43 rfl (by kernel_rfl)) rfl ⟨HS.out.2, rfl⟩
        | some j =>
          rw [hz] at hPP
          have hjl := zat_lt _ _ hz
          dsimp only at hPP ⊢
          by_cases hj0 : j = 0
          · subst hj0
            rw [if_pos rfl] at hPP
            subst hPP
            clear hz hxs hjl
            have HB2 := Lib.hid HI.out.2.2
            obtain ⟨⟨z0, z1, z2, z3, z4, z5, z6⟩, y0, y1, y2, y3, y4, y5, y6⟩ := row7 HI.out.2.1
            have hS := set7 (v0 := .int .i64 0) (v1 := .bool false) (v2 := .bool false) (v3 := .string ⟨#[]⟩) (v4 := .int .i64 0) (v5 := .string ⟨#[]⟩) (v6 := .int .i64 0) HI.out.2.1 (Nat.le_refl _) HI.out.2.2
            have HS := Lib.hid hS
            clear hS HI
            go_wp2_with fail
            refine bodyPost_ret (results_row_tmp rfl _ _ w.heap.size _ _ _ _ rfl HS.out.1 Tryd.underlying43 rfl (by kernel_rfl)) rfl ⟨HS.out.2, rfl⟩
          · have dj0 : decide ((j : Int) ≤ 0) = false := decide_eq_false (by omega)
            have dj0n : decide (j ≤ 0) = false := decide_eq_false (by omega)
            rw [if_neg hj0] at hPP
            have HPP := Lib.hid hPP
            have ws : IntKind.i64.wrap (2 + (j : Int)) = 2 + (j : Int) := by rw [IntKind.wrap_i64]; omega
            clear hPP hz
            have hj2 : 2 + j - 2 = j := by omega
            have hjc : 2 + j ≤ c1 := by omega
            have HPo := Lib.hid (And.intro hxs hjl)
            clear hxs hjl
            go_wp2_with fail
            go_loopw [40] (fun v wr => ∃ i : Nat, v = .int .i64 (i : Int) ∧ i ≤ j ∧ Hid (wr.ownsRow (w.heap.size + 1) 5 1 (.slice (some ⟨g1, 0, none⟩) s.length c1) s.length (bcells (trn s i)) ∧ wr.heap[w.heap.size]? = some (.cells #[.int .i64 0, .bool false, .bool false, .string ⟨#[]⟩, .int .i64 0, .string ⟨#[]⟩, .int .i64 0] 43 (0, 0)) ∧ Below w.heap.size w wr)) (fun v _ => j - (intOf v).toNat)
            case atStart => exact ⟨0, rfl, Nat.zero_le _, Lib.hid ⟨by rw [trn_zero]; exact HI.out.1, HI.out.2⟩⟩
            case round =>
              clear HI
              obtain ⟨i, rfl, hi, HI⟩ := hrel
              by_cases hij : i < j
              · have di : decide ((i : Int) < (j : Int)) = true := decide_eq_true (by omega)
                have din : decide (i < j) = true := decide_eq_true hij
                have hts := trn_len s i
                have hro : wr.ownsRow (w.heap.size + 1) 5 1 (.slice (some ⟨g1, 0, none⟩) (trn s i).length c1) (trn s i).length (bcells (trn s i)) := by rw [hts]; exact HI.out.1
                have hi2 : i + 2 < s.length := by have := HPo.out; omega
                have c0 := (owned_rd hro).cell (2 + i) (by omega)
                rw [trn_at s i hi2, Nat.zero_add] at c0
                have f0 : wr.frozen? ⟨g1, 2 + i, none⟩ = false := by
                  obtain ⟨cur, hc⟩ := owned_type HI.out.1 (g := g1) rfl
                  exact frozen_of_row _ _ _ _ _ hc
                obtain ⟨s1, s2, s3, s4⟩ := own_set HI.out.1 (2 + i) (.int .u8 (IntKind.u8.wrap (s.getD (2 + i) 0 + 47)))
                rw [bcells_set, trn_succ s i hi2] at s1
                have HN := Lib.hid s1
                have HNF := Lib.hid (And.intro ((s3 w.heap.size (by omega)).trans HI.out.2.1) (HI.out.2.2.trans (s4.mono (Nat.le_succ _))))
                clear s1 s3 s4 hro HI
                generalize s.getD (2 + i) 0 = x at c0 HN HNF
                go_wp2_with fail
                exact ⟨⟨i + 1, by go_num, by omega, Lib.hid ⟨HN.out, HNF.out⟩⟩, by show j - ((i : Int) + 1).toNat < j - (i : Int).toNat; omega⟩
              · have di : decide ((i : Int) < (j : Int)) = false := decide_eq_false (by omega)
                have din : decide (i < j) = false := decide_eq_false hij
                obtain rfl : i = j := by omega
                have hts := trn_len s i
                have hro : wr.ownsRow (w.heap.size + 1) 5 1 (.slice (some ⟨g1, 0, none⟩) (trn s i).length c1) (trn s i).length (bcells (trn s i)) := by rw [hts]; exact HI.out.1
                have hi2 : i + 2 < s.length := by have := HPo.out; omega
                have e0 := (owned_rd hro).cell 0 (by omega)
                have e1 := (owned_rd hro).cell 1 (by omega)
                rw [trn_low s i 0 (by omega), Nat.zero_add] at e0
                rw [trn_low s i 1 (by omega), Nat.zero_add] at e1
                have hb0 : 0 ≤ s.getD 0 0 ∧ s.getD 0 0 ≤ 255 := by
                  rw [List.getD_eq_getElem?_getD, List.getElem?_eq_getElem (by omega)]
                  exact HYs2.out _ (List.getElem_mem _)
                have hb1 : 0 ≤ s.getD 1 0 ∧ s.getD 1 0 ≤ 255 := by
                  rw [List.getD_eq_getElem?_getD, List.getElem?_eq_getElem (by omega)]
                  exact HYs2.out _ (List.getElem_mem _)
                have hcd := (owned_rd hro).cut 2 i (by omega)
                rw [trn_mid s i (by omega), Nat.zero_add] at hcd
                have V : ∀ y, (convert 23 9 (.slice (some ⟨g1, 2, none⟩) i (c1 - 2))).run Tryd.prog (wr.drewN y) = .ok (.string (strOf (((s.drop 2).take i).map fun c => IntKind.u8.wrap (c + 47)))) (wr.drewN y) := fun y => by exact conv_rd (hcd.below (below_drewN (Below.refl _ _) y))
                have hbd : Bys (((s.drop 2).take i).map fun c => IntKind.u8.wrap (c + 47)) := fun x hx => by
                  obtain ⟨c, _, rfl⟩ := List.mem_map.1 hx
                  rw [IntKind.wrap_u8]
                  omega
                have hdl : (((s.drop 2).take i).map fun c => IntKind.u8.wrap (c + 47)).length ≤ 100 := by rw [List.length_map, List.length_take]; omega
                clear hro hcd
                generalize ((s.drop 2).take i).map (fun c => IntKind.u8.wrap (c + 47)) = D at V hbd hdl HPP
                generalize s.getD 0 0 = b0 at e0 hb0 HPP
                generalize s.getD 1 0 = b1 at e1 hb1 HPP
                have hor := or8 b0 b1 hb0 hb1
                rw [IntWalk.wrap64_in b0 (by omega), IntWalk.wrap64_in b1 (by omega), IntWalk.wrap64_in (b0 * 256) (by omega)] at hor
                have ws2 : IntKind.i64.wrap (b0 * 256 + b1 - 1000) = b0 * 256 + b1 - 1000 := by rw [IntKind.wrap_i64]; omega
                have ws3 : IntKind.i64.wrap (b0 * 256 + b1 - 1000 - (i : Int)) = b0 * 256 + b1 - 1000 - (i : Int) := by rw [IntKind.wrap_i64]; omega
                have ws4 : IntKind.i64.wrap (3 + (i : Int)) = 3 + (i : Int) := by rw [IntKind.wrap_i64]; omega
                have ws5 : IntKind.i64.wrap (3 + (i : Int) + 1) = 3 + (i : Int) + 1 := by rw [IntKind.wrap_i64]; omega
                have HSa := Lib.hid (fun (v : World) => Sane_any v false (strOf D) (b0 * 256 + b1 - 1000 - (i : Int)) (by rw [strOf_size]; omega))
                rw [unstr_strOf D hbd] at HSa
                generalize hds : dsane false D (b0 * 256 + b1 - 1000 - (i : Int)) = ds at HSa HPP
                clear hds hbd hdl
                go_upto_region 16 with fail
                go_quiet (fail)
                have V' := V nq
                have hbwd : Below wr.heap.size wr (wr.drewN nq) := below_drewN (Below.refl _ _) nq
                clear V
                generalize wr.drewN nq = wd at V' hbwd ⊢
                have HBwd := Lib.hid hbwd
                clear hbwd
                go_wp2_with fail
                have hro2 := heap_alloc_new wd (.cells #[.bool false, .string (strOf D), .int .i64 (b0 * 256 + b1 - 1000 - (i : Int))] 25)
                have hbe : Below wr.heap.size wr (wd.alloc (.cells #[.bool false, .string (strOf D), .int .i64 (b0 * 256 + b1 - 1000 - (i : Int))] 25)) := HBwd.out.alloc HBwd.out.size _
                with_reducible refine (HSa.out _).mono ?_
                clear HSa
                rintro e w5 ⟨rfl, hb5⟩
                have hD5 := (hb5.block _ (Array.getElem?_eq_some_iff.1 hro2).1).trans hro2
                have hb5w := hbe.trans (hb5.mono hbe.size)
                have hrow5 := (hb5w.block w.heap.size (Array.getElem?_eq_some_iff.1 HI.out.2.1).1).trans HI.out.2.1
                have HI5 : Hid (True ∧ w5.heap[w.heap.size]? = some (.cells #[.int .i64 0, .bool false, .bool false, .string ⟨#[]⟩, .int .i64 0, .string ⟨#[]⟩, .int .i64 0] 43 (0, 0)) ∧ Below w.heap.size w w5) := ⟨trivial, hrow5, HI.out.2.2.trans (hb5w.mono HI.out.2.2.size)⟩
                have q0 := cell_of_row _ _ 0 _ _ _ hD5
                have q1 := cell_of_row _ _ 1 _ _ _ hD5
                have q2 := cell_of_row _ _ 2 _ _ _ hD5
                simp at q0 q1 q2
                clear hro2 hbe hb5 hD5 hb5w hrow5 HI
                have HI := HI5
                clear HI5
                obtain ⟨⟨z0, z1, z2, z3, z4, z5, z6⟩, y0, y1, y2, y3, y4, y5, y6⟩ := row7 HI.out.2.1
                have HPQ := HPP.out
                cases ds with
                | false =>
                  rw [if_neg (by decide)] at HPQ
                  subst HPQ
                  have hS := set7 (v0 := .int .i64 0) (v1 := .bool false) (v2 := .bool false) (v3 := .string ⟨#[]⟩) (v4 := .int .i64 0) (v5 := .string ⟨#[]⟩) (v6 := .int .i64 0) HI.out.2.1 (Nat.le_refl _) HI.out.2.2
                  have HS := Lib.hid hS
                  clear hS HI
                  go_wp2_with fail
                  refine bodyPost_ret (results_row_tmp rfl _ _ w.heap.size _ _ _ _ rfl HS.out.1 Tryd.underlying43 rfl (by kernel_rfl)) rfl ⟨HS.out.2, rfl⟩
                | true =>
                  rw [if_pos rfl] at HPQ
                  subst HPQ
                  have hS := set7 (v0 := .int .i64 2) (v1 := .bool false) (v2 := .bool false) (v3 := .string (strOf D)) (v4 := .int .i64 (b0 * 256 + b1 - 1000 - (i : Int))) (v5 := .string ⟨#[]⟩) (v6 := .int .i64 0) HI.out.2.1 (Nat.le_refl _) HI.out.2.2
                  have HS := Lib.hid hS
                  clear hS HI
                  go_wp2_with fail
                  refine bodyPost_ret (results_row_tmp rfl _ _ w.heap.size _ _ _ _ rfl HS.out.1 Tryd.underlying43 rfl (by kernel_rfl)) rfl ⟨HS.out.2, ?_⟩
                  have e2 : ((i + 4 : Nat) : Int) = 3 + (i : Int) + 1 := by omega
                  dsimp only
                  rw [e2]
                  rfl
end Go.Proofs.YtebhbcbcnjdgjaaDoor.dk
