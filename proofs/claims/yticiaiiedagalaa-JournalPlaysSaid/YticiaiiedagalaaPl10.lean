/- Which record lies whole at the head of some pieces. -/
import Derived.Test.YticiaiiedagalaaPl9
import Derived.Lib.LazyBuf
namespace Go.Proofs.Yticiaiiedagalaa.dk
open Go.PlainAid Go.ChangeShapes Go.WideShapes Go.ChangeAt Go.RowKit

theorem lget (F : Nat → Option (List Int)) (k i : Nat) : ((List.range k).map F).getD i none = if i < k then F i else none := by
  rw [List.getD_eq_getElem?_getD, List.getElem?_map]
  by_cases h : i < k
  · rw [List.getElem?_range h, if_pos h]; rfl
  · rw [List.getElem?_eq_none (by rw [List.length_range]; omega), if_neg h]; rfl
theorem pc_nil (w : World) (a : Option Addr) (l c : Nat) : (binOp BinOp.eql 74 (.slice a l c) (.slice none 0 0)).run Try.prog w = .ok (.bool a.isNone) w := Lib.run_eql_slice_nil w _ _ a l c 0 0 Try.underlying74
def wholeF (F : Nat → Option (List Int)) (k : Nat) : Nat := wholeOf ((List.range k).map F)
theorem wholeF_none {F : Nat → Option (List Int)} {k : Nat} (hk : 0 < k) (h : F 0 = none) : wholeF F k = 0 := wholeOf_none (by rw [lget, if_pos hk, h])
theorem wholeF_of {F : Nat → Option (List Int)} {k : Nat} {p : List Int} (hk : 0 < k) (h : F 0 = some p) : wholeF F k = if (fC p).toNat ≤ k ∧ (∀ i, i < (fC p).toNat → okAt p (fC p).toNat i (((List.range k).map F).getD i none) = true) then (fC p).toNat else 0 := by
  unfold wholeF
  rw [wholeOf_of (p := p) (by rw [lget, if_pos hk, h]), List.length_map, List.length_range]
theorem wholeF_long {F : Nat → Option (List Int)} {k : Nat} {p : List Int} (hk : 0 < k) (h : F 0 = some p) (hc : k < (fC p).toNat) : wholeF F k = 0 := by
  rw [wholeF_of hk h, if_neg (fun x => by omega)]
theorem wholeF_bad {F : Nat → Option (List Int)} {k : Nat} {p : List Int} (hk : 0 < k) (h : F 0 = some p) (i : Nat) (hi : i < (fC p).toNat) (hik : i < k) (ho : okAt p (fC p).toNat i (F i) = false) : wholeF F k = 0 := by
  rw [wholeF_of hk h, if_neg]
  rintro ⟨_, h2⟩
  have := h2 i hi
  rw [lget, if_pos hik, ho] at this
  cases this
theorem wholeF_full {F : Nat → Option (List Int)} {k : Nat} {p : List Int} (hk : 0 < k) (h : F 0 = some p) (hc : (fC p).toNat ≤ k) (ho : ∀ i, i < (fC p).toNat → okAt p (fC p).toNat i (F i) = true) : wholeF F k = (fC p).toNat := by
  rw [wholeF_of hk h, if_pos]
  exact ⟨hc, fun i hi => by rw [lget, if_pos (by omega)]; exact ho i hi⟩
theorem wholeF_le (F : Nat → Option (List Int)) (k : Nat) : wholeF F k ≤ k := by
  have := wholeOf_le ((List.range k).map F)
  rw [List.length_map, List.length_range] at this
  exact this
set_option maxHeartbeats 4000000 in
set_option maxRecDepth 100000 in
theorem whole_any {B b n : Nat} {F : Nat → Option (List Int)} {gs : Nat → Nat} {w : World} (h : PcAt B b n F gs w) (hF : ∀ i l, F i = some l → l.length = 64 ∧ Bys l) (o k : Nat) (hk : 0 < k) (hok : o + k = n) (hn : n ≤ 65536) :
    Calls Try.prog 54 #[.slice (some ⟨b, o, none⟩) k k] w fun e w' => e = .returned (.int .i64 (wholeF (fun i => F (o + i)) k)) ∧ Below w.heap.size w w' := by
  have HP := Lib.hid h
  have HF := Lib.hid hF
  have c0 := h.cell o (by omega)
  have hq := pc_nil
  clear h hF
  cases hf : F o with
  | none =>
    rw [hf] at c0
    unfold pv at c0
    have e : Hid (wholeF (fun i => F (o + i)) k = 0) := wholeF_none hk hf
    clear hf
    go_enter Try.func54, Try.ntmps54
    go_wp2_with fail
    go_ret
    exact ⟨by rw [e.out]; rfl, Below.refl _ _⟩
  | some p =>
    rw [hf] at c0
    unfold pv at c0
    have hp := HF.out o p hf
    have hrow := (HP.out.el o (by omega) p hf).1
    have HC := Lib.hid (count_any w (gs o) p (hrow.rd hp.1) hp.2)
    have HW := Lib.hid hf
    have hcb : 0 ≤ fC p ∧ fC p ≤ 4294967295 := hi_bd _
    obtain ⟨cn, hcn⟩ := Int.eq_ofNat_of_zero_le hcb.1
    have HCn := Lib.hid hcn
    have hcb2 : cn ≤ 4294967295 := by omega
    rw [hcn] at HC
    have HRow := Lib.hid hrow
    have HPp := Lib.hid hp
    clear hf hrow hp hcb hcn
    by_cases hck : k < cn
    · have e : Hid (wholeF (fun i => F (o + i)) k = 0) := wholeF_long hk HW.out (by rw [HCn.out]; exact hck)
      have d : decide ((k : Int) < cn) = true := decide_eq_true (by omega)
      go_enter Try.func54, Try.ntmps54
      go_wp2_with (go_at_call 58; with_reducible refine HC.out.mono ?_; rintro e' w' ⟨rfl, rfl⟩)
      go_ret
      exact ⟨by rw [e.out]; rfl, Below.refl _ _⟩
    · have d : decide ((k : Int) < cn) = false := decide_eq_false (by omega)
      go_enter Try.func54, Try.ntmps54
      go_wp2_with (go_at_call 58; with_reducible refine HC.out.mono ?_; rintro e' w' ⟨rfl, rfl⟩)
      go_loopw [29] (fun i wr => ∃ j : Nat, i = .int .i64 (j : Int) ∧ j ≤ cn ∧ Hid (∀ i, i < j → okAt p cn i (F (o + i)) = true) ∧ Hid (Below w.heap.size w wr)) (fun i _ => cn - (intOf i).toNat)
      case atStart => exact ⟨0, rfl, Nat.zero_le _, fun i hi => absurd hi (by omega), Below.refl _ _⟩
      case round =>
        clear c0
        obtain ⟨j, rfl, hj, HO, HB⟩ := hrel
        by_cases hjn : j < cn
        · have dj : decide ((j : Int) < (cn : Int)) = true := decide_eq_true (by omega)
          have hP := HP.out.below HB.out
          have c1 := hP.cell (o + j) (by omega)
          have bad : okAt p cn j (F (o + j)) = false → Hid (wholeF (fun i => F (o + i)) k = 0) := fun hx => wholeF_bad hk HW.out j (by rw [HCn.out]; exact hjn) (by omega) (by rw [HCn.out]; exact hx)
          have HBad := Lib.hid bad
          clear bad
          cases hf : F (o + j) with
          | none =>
            rw [hf] at c1
            unfold pv at c1
            have e := HBad.out (by rw [hf]; rfl)
            clear hf hP
            go_wp2_with fail
            go_ret
            exact ⟨by rw [e.out]; rfl, HB.out⟩
          | some q =>
            rw [hf] at c1
            unfold pv at c1
            have hqp := HF.out (o + j) q hf
            have hqr := ((hP.el (o + j) (by omega) q hf).1).rd hqp.1
            have hpr := (HRow.out.below HB.out).rd HPp.out.1
            have HQ1 := Lib.hid (place_any wr (gs (o + j)) q hqr hqp.2)
            have hpb : 0 ≤ fP q ∧ fP q ≤ 4294967295 := hi_bd _
            have HWf := Lib.hid hf
            by_cases hpl : fP q = (j : Int)
            · rw [hpl] at HQ1
              have hsz := size_any wr (gs (o + j)) q hqr hqp.2
              by_cases hlast : j + 1 < cn ∧ fZ q ≠ 48
              · have e := HBad.out (by rw [hf]; simp [okAt, hlast])
                have dl : decide ((j : Int) < (cn : Int) - 1) = true := decide_eq_true (by omega)
                have dz : (fZ q != 48) = true := by simpa using hlast.2
                generalize fZ q = z at hsz dz hlast
                have HZ := Lib.hid hsz
                clear hf hP hqr hpr hqp hpb hsz hpl hlast
                go_wp2_with (first | (go_at_call 59; with_reducible refine HQ1.out.mono ?_; rintro e' w' ⟨rfl, rfl⟩) | (go_at_call 60; with_reducible refine HZ.out.mono ?_; rintro e' w' ⟨rfl, rfl⟩))
                go_ret
                exact ⟨by rw [e.out]; rfl, HB.out⟩
              · have HPl := Lib.hid hpl
                have HLast : Hid (j + 1 < cn → fZ q = 48) := fun h => Classical.byContradiction fun h2 => hlast ⟨h, h2⟩
                by_cases hl : j + 1 < cn
                · have dl : decide ((j : Int) < (cn : Int) - 1) = true := decide_eq_true (by omega)
                  have hz : fZ q = 48 := Classical.byContradiction fun h => hlast ⟨hl, h⟩
                  rw [hz] at hsz
                  have HZ := Lib.hid hsz
                  clear hf hP hqr hpr hqp hpb hsz hpl hlast hz
                  go_wp2_with (first | (go_at_call 59; with_reducible refine HQ1.out.mono ?_; rintro e' w' ⟨rfl, rfl⟩) | (go_at_call 60; with_reducible refine HZ.out.mono ?_; rintro e' w' ⟨rfl, rfl⟩))
                  generalize hwa : wr.alloc _ = wa
                  have hba : Below wr.heap.size wr wa := by rw [← hwa]; exact (Below.refl _ _).alloc (Nat.le_refl _) _
                  have hra : wa.heap[wr.heap.size]? = some (.cells #[Value.func (.func 39) #[] #[], Value.func (.func 53) #[] #[], Value.func (.func 58) #[] #[]] 72 (0, 0)) := by rw [← hwa]; exact heap_alloc_new _ _
                  have k0 : wa.cell? ⟨wr.heap.size, 0, none⟩ = some (Value.func (.func 39) #[] #[]) := cell_of_row _ _ _ _ _ _ hra
                  have k1 : wa.cell? ⟨wr.heap.size, 1, none⟩ = some (Value.func (.func 53) #[] #[]) := cell_of_row _ _ _ _ _ _ hra
                  have k2 : wa.cell? ⟨wr.heap.size, 2, none⟩ = some (Value.func (.func 58) #[] #[]) := cell_of_row _ _ _ _ _ _ hra
                  have HBa := Lib.hid (HB.out.trans (hba.mono HB.out.size))
                  have hqp := HF.out (o + j) q HWf.out
                  have hqr := ((((HP.out.below HB.out).el (o + j) (by omega) q HWf.out).1).below hba).rd hqp.1
                  have hpr := ((HRow.out.below HB.out).below hba).rd HPp.out.1
                  have HfSq := Lib.hid (session_any wa (gs (o + j)) q hqr hqp.2)
                  have HfSp := Lib.hid (session_any wa (gs o) p hpr HPp.out.2)
                  have HfNq := Lib.hid (number_any wa (gs (o + j)) q hqr hqp.2)
                  have HfNp := Lib.hid (number_any wa (gs o) p hpr HPp.out.2)
                  have HfCq := Lib.hid (count_any wa (gs (o + j)) q hqr hqp.2)
                  have HfCp := Lib.hid (count_any wa (gs o) p hpr HPp.out.2)
                  clear hwa hba hra hqp hqr hpr
                  go_loop [56] (fun i => ∃ t : Nat, i = .int .i64 (t : Int) ∧ t ≤ 3 ∧ Hid ((0 < t → fS q = fS p) ∧ (1 < t → fN q = fN p) ∧ (2 < t → fC q = fC p))) (fun i => 3 - (intOf i).toNat)
                  case atStart => exact ⟨0, rfl, Nat.zero_le _, ⟨fun h => absurd h (by omega), fun h => absurd h (by omega), fun h => absurd h (by omega)⟩⟩
                  case round =>
                    obtain ⟨t, rfl, ht, HT⟩ := hrel
                    rcases (show t = 0 ∨ t = 1 ∨ t = 2 ∨ t = 3 by omega) with rfl | rfl | rfl | rfl
                    · by_cases hE : fS q = fS p
                      · have HT' : Hid ((0 < 1 → fS q = fS p) ∧ (1 < 1 → fN q = fN p) ∧ (2 < 1 → fC q = fC p)) := ⟨fun _ => hE, fun h => absurd h (by omega), fun h => absurd h (by omega)⟩
                        have Hq := HfSq.out
                        rw [hE] at Hq
                        have HQ := Lib.hid Hq
                        have HPP := Lib.hid HfSp.out
                        clear Hq hE
                        generalize fS p = x at HQ HPP HT' ⊢
                        go_wp2_with fail
                        with_reducible refine HQ.out.mono ?_
                        rintro e' w' ⟨rfl, rfl⟩
                        go_wp2_with fail
                        with_reducible refine HPP.out.mono ?_
                        rintro e' w' ⟨rfl, rfl⟩
                        go_wp2_with fail
                        constructor
                        · exact ⟨1, rfl, by omega, HT'⟩
                        · show 3 - ((0 : Int) + 1).toNat < 3 - (0 : Int).toNat
                          omega
                      · have e := HBad.out (by rw [HWf.out]; simp only [okAt, hE]; simp)
                        have dx : (fS q != fS p) = true := by simpa using hE
                        have HQ := Lib.hid HfSq.out
                        have HPP := Lib.hid HfSp.out
                        generalize fS q = x at HQ dx hE
                        generalize fS p = y at HPP dx hE
                        clear hE
                        go_wp2_with fail
                        with_reducible refine HQ.out.mono ?_
                        rintro e' w' ⟨rfl, rfl⟩
                        go_wp2_with fail
                        with_reducible refine HPP.out.mono ?_
                        rintro e' w' ⟨rfl, rfl⟩
                        go_wp2_with fail
                        go_ret
                        exact ⟨by rw [e.out]; rfl, HBa.out⟩
                    · by_cases hE : fN q = fN p
                      · have HT' : Hid ((0 < 2 → fS q = fS p) ∧ (1 < 2 → fN q = fN p) ∧ (2 < 2 → fC q = fC p)) := ⟨fun _ => HT.out.1 (by omega), fun _ => hE, fun h => absurd h (by omega)⟩
                        have Hq := HfNq.out
                        rw [hE] at Hq
                        have HQ := Lib.hid Hq
                        have HPP := Lib.hid HfNp.out
                        clear Hq hE
                        generalize fN p = x at HQ HPP HT' ⊢
                        go_wp2_with fail
                        with_reducible refine HQ.out.mono ?_
                        rintro e' w' ⟨rfl, rfl⟩
                        go_wp2_with fail
                        with_reducible refine HPP.out.mono ?_
                        rintro e' w' ⟨rfl, rfl⟩
                        go_wp2_with fail
                        constructor
                        · exact ⟨2, rfl, by omega, HT'⟩
                        · show 3 - ((1 : Int) + 1).toNat < 3 - (1 : Int).toNat
                          omega
                      · have e := HBad.out (by rw [HWf.out]; simp only [okAt, hE]; simp)
                        have dx : (fN q != fN p) = true := by simpa using hE
                        have HQ := Lib.hid HfNq.out
                        have HPP := Lib.hid HfNp.out
                        generalize fN q = x at HQ dx hE
                        generalize fN p = y at HPP dx hE
                        clear hE
                        go_wp2_with fail
                        with_reducible refine HQ.out.mono ?_
                        rintro e' w' ⟨rfl, rfl⟩
                        go_wp2_with fail
                        with_reducible refine HPP.out.mono ?_
                        rintro e' w' ⟨rfl, rfl⟩
                        go_wp2_with fail
                        go_ret
                        exact ⟨by rw [e.out]; rfl, HBa.out⟩
                    · by_cases hE : fC q = fC p
                      · have HT' : Hid ((0 < 3 → fS q = fS p) ∧ (1 < 3 → fN q = fN p) ∧ (2 < 3 → fC q = fC p)) := ⟨fun _ => HT.out.1 (by omega), fun _ => HT.out.2.1 (by omega), fun _ => hE⟩
                        have Hq := HfCq.out
                        rw [hE] at Hq
                        have HQ := Lib.hid Hq
                        have HPP := Lib.hid HfCp.out
                        clear Hq hE
                        generalize fC p = x at HQ HPP HT' ⊢
                        go_wp2_with fail
                        with_reducible refine HQ.out.mono ?_
                        rintro e' w' ⟨rfl, rfl⟩
                        go_wp2_with fail
                        with_reducible refine HPP.out.mono ?_
                        rintro e' w' ⟨rfl, rfl⟩
                        go_wp2_with fail
                        constructor
                        · exact ⟨3, rfl, by omega, HT'⟩
                        · show 3 - ((2 : Int) + 1).toNat < 3 - (2 : Int).toNat
                          omega
                      · have e := HBad.out (by rw [HWf.out]; simp only [okAt, hE]; simp)
                        have dx : (fC q != fC p) = true := by simpa using hE
                        have HQ := Lib.hid HfCq.out
                        have HPP := Lib.hid HfCp.out
                        generalize fC q = x at HQ dx hE
                        generalize fC p = y at HPP dx hE
                        clear hE
                        go_wp2_with fail
                        with_reducible refine HQ.out.mono ?_
                        rintro e' w' ⟨rfl, rfl⟩
                        go_wp2_with fail
                        with_reducible refine HPP.out.mono ?_
                        rintro e' w' ⟨rfl, rfl⟩
                        go_wp2_with fail
                        go_ret
                        exact ⟨by rw [e.out]; rfl, HBa.out⟩
                    · go_wp2_with fail
                      constructor
                      · refine ⟨j + 1, by go_num, by omega, fun i hi => ?_, HBa.out⟩
                        rcases Nat.lt_succ_iff_lt_or_eq.1 hi with h | rfl
                        · exact HO.out i h
                        · rw [HWf.out]
                          have h1 := HT.out.1 (by omega)
                          have h2 := HT.out.2.1 (by omega)
                          have h3 := HT.out.2.2 (by omega)
                          simp only [okAt, HPl.out, h1, h2, h3, Bool.and_eq_true, decide_eq_true_eq, and_true, true_and]
                          exact HLast.out
                      · show cn - ((j : Int) + 1).toNat < cn - (j : Int).toNat
                        omega
                · have dl : decide ((j : Int) < (cn : Int) - 1) = false := decide_eq_false (by omega)
                  clear hf hP hqr hpr hqp hpb hsz hpl hlast
                  go_wp2_with (first | (go_at_call 59; with_reducible refine HQ1.out.mono ?_; rintro e' w' ⟨rfl, rfl⟩))
                  generalize hwa : wr.alloc _ = wa
                  have hba : Below wr.heap.size wr wa := by rw [← hwa]; exact (Below.refl _ _).alloc (Nat.le_refl _) _
                  have hra : wa.heap[wr.heap.size]? = some (.cells #[Value.func (.func 39) #[] #[], Value.func (.func 53) #[] #[], Value.func (.func 58) #[] #[]] 72 (0, 0)) := by rw [← hwa]; exact heap_alloc_new _ _
                  have k0 : wa.cell? ⟨wr.heap.size, 0, none⟩ = some (Value.func (.func 39) #[] #[]) := cell_of_row _ _ _ _ _ _ hra
                  have k1 : wa.cell? ⟨wr.heap.size, 1, none⟩ = some (Value.func (.func 53) #[] #[]) := cell_of_row _ _ _ _ _ _ hra
                  have k2 : wa.cell? ⟨wr.heap.size, 2, none⟩ = some (Value.func (.func 58) #[] #[]) := cell_of_row _ _ _ _ _ _ hra
                  have HBa := Lib.hid (HB.out.trans (hba.mono HB.out.size))
                  have hqp := HF.out (o + j) q HWf.out
                  have hqr := ((((HP.out.below HB.out).el (o + j) (by omega) q HWf.out).1).below hba).rd hqp.1
                  have hpr := ((HRow.out.below HB.out).below hba).rd HPp.out.1
                  have HfSq := Lib.hid (session_any wa (gs (o + j)) q hqr hqp.2)
                  have HfSp := Lib.hid (session_any wa (gs o) p hpr HPp.out.2)
                  have HfNq := Lib.hid (number_any wa (gs (o + j)) q hqr hqp.2)
                  have HfNp := Lib.hid (number_any wa (gs o) p hpr HPp.out.2)
                  have HfCq := Lib.hid (count_any wa (gs (o + j)) q hqr hqp.2)
                  have HfCp := Lib.hid (count_any wa (gs o) p hpr HPp.out.2)
                  clear hwa hba hra hqp hqr hpr
                  go_loop [56] (fun i => ∃ t : Nat, i = .int .i64 (t : Int) ∧ t ≤ 3 ∧ Hid ((0 < t → fS q = fS p) ∧ (1 < t → fN q = fN p) ∧ (2 < t → fC q = fC p))) (fun i => 3 - (intOf i).toNat)
                  case atStart => exact ⟨0, rfl, Nat.zero_le _, ⟨fun h => absurd h (by omega), fun h => absurd h (by omega), fun h => absurd h (by omega)⟩⟩
                  case round =>
                    obtain ⟨t, rfl, ht, HT⟩ := hrel
                    rcases (show t = 0 ∨ t = 1 ∨ t = 2 ∨ t = 3 by omega) with rfl | rfl | rfl | rfl
                    · by_cases hE : fS q = fS p
                      · have HT' : Hid ((0 < 1 → fS q = fS p) ∧ (1 < 1 → fN q = fN p) ∧ (2 < 1 → fC q = fC p)) := ⟨fun _ => hE, fun h => absurd h (by omega), fun h => absurd h (by omega)⟩
                        have Hq := HfSq.out
                        rw [hE] at Hq
                        have HQ := Lib.hid Hq
                        have HPP := Lib.hid HfSp.out
                        clear Hq hE
                        generalize fS p = x at HQ HPP HT' ⊢
                        go_wp2_with fail
                        with_reducible refine HQ.out.mono ?_
                        rintro e' w' ⟨rfl, rfl⟩
                        go_wp2_with fail
                        with_reducible refine HPP.out.mono ?_
                        rintro e' w' ⟨rfl, rfl⟩
                        go_wp2_with fail
                        constructor
                        · exact ⟨1, rfl, by omega, HT'⟩
                        · show 3 - ((0 : Int) + 1).toNat < 3 - (0 : Int).toNat
                          omega
                      · have e := HBad.out (by rw [HWf.out]; simp only [okAt, hE]; simp)
                        have dx : (fS q != fS p) = true := by simpa using hE
                        have HQ := Lib.hid HfSq.out
                        have HPP := Lib.hid HfSp.out
                        generalize fS q = x at HQ dx hE
                        generalize fS p = y at HPP dx hE
                        clear hE
                        go_wp2_with fail
                        with_reducible refine HQ.out.mono ?_
                        rintro e' w' ⟨rfl, rfl⟩
                        go_wp2_with fail
                        with_reducible refine HPP.out.mono ?_
                        rintro e' w' ⟨rfl, rfl⟩
                        go_wp2_with fail
                        go_ret
                        exact ⟨by rw [e.out]; rfl, HBa.out⟩
                    · by_cases hE : fN q = fN p
                      · have HT' : Hid ((0 < 2 → fS q = fS p) ∧ (1 < 2 → fN q = fN p) ∧ (2 < 2 → fC q = fC p)) := ⟨fun _ => HT.out.1 (by omega), fun _ => hE, fun h => absurd h (by omega)⟩
                        have Hq := HfNq.out
                        rw [hE] at Hq
                        have HQ := Lib.hid Hq
                        have HPP := Lib.hid HfNp.out
                        clear Hq hE
                        generalize fN p = x at HQ HPP HT' ⊢
                        go_wp2_with fail
                        with_reducible refine HQ.out.mono ?_
                        rintro e' w' ⟨rfl, rfl⟩
                        go_wp2_with fail
                        with_reducible refine HPP.out.mono ?_
                        rintro e' w' ⟨rfl, rfl⟩
                        go_wp2_with fail
                        constructor
                        · exact ⟨2, rfl, by omega, HT'⟩
                        · show 3 - ((1 : Int) + 1).toNat < 3 - (1 : Int).toNat
                          omega
                      · have e := HBad.out (by rw [HWf.out]; simp only [okAt, hE]; simp)
                        have dx : (fN q != fN p) = true := by simpa using hE
                        have HQ := Lib.hid HfNq.out
                        have HPP := Lib.hid HfNp.out
                        generalize fN q = x at HQ dx hE
                        generalize fN p = y at HPP dx hE
                        clear hE
                        go_wp2_with fail
                        with_reducible refine HQ.out.mono ?_
                        rintro e' w' ⟨rfl, rfl⟩
                        go_wp2_with fail
                        with_reducible refine HPP.out.mono ?_
                        rintro e' w' ⟨rfl, rfl⟩
                        go_wp2_with fail
                        go_ret
                        exact ⟨by rw [e.out]; rfl, HBa.out⟩
                    · by_cases hE : fC q = fC p
                      · have HT' : Hid ((0 < 3 → fS q = fS p) ∧ (1 < 3 → fN q = fN p) ∧ (2 < 3 → fC q = fC p)) := ⟨fun _ => HT.out.1 (by omega), fun _ => HT.out.2.1 (by omega), fun _ => hE⟩
                        have Hq := HfCq.out
                        rw [hE] at Hq
                        have HQ := Lib.hid Hq
                        have HPP := Lib.hid HfCp.out
                        clear Hq hE
                        generalize fC p = x at HQ HPP HT' ⊢
                        go_wp2_with fail
                        with_reducible refine HQ.out.mono ?_
                        rintro e' w' ⟨rfl, rfl⟩
                        go_wp2_with fail
                        with_reducible refine HPP.out.mono ?_
                        rintro e' w' ⟨rfl, rfl⟩
                        go_wp2_with fail
                        constructor
                        · exact ⟨3, rfl, by omega, HT'⟩
                        · show 3 - ((2 : Int) + 1).toNat < 3 - (2 : Int).toNat
                          omega
                      · have e := HBad.out (by rw [HWf.out]; simp only [okAt, hE]; simp)
                        have dx : (fC q != fC p) = true := by simpa using hE
                        have HQ := Lib.hid HfCq.out
                        have HPP := Lib.hid HfCp.out
                        generalize fC q = x at HQ dx hE
                        generalize fC p = y at HPP dx hE
                        clear hE
                        go_wp2_with fail
                        with_reducible refine HQ.out.mono ?_
                        rintro e' w' ⟨rfl, rfl⟩
                        go_wp2_with fail
                        with_reducible refine HPP.out.mono ?_
                        rintro e' w' ⟨rfl, rfl⟩
                        go_wp2_with fail
                        go_ret
                        exact ⟨by rw [e.out]; rfl, HBa.out⟩
                    · go_wp2_with fail
                      constructor
                      · refine ⟨j + 1, by go_num, by omega, fun i hi => ?_, HBa.out⟩
                        rcases Nat.lt_succ_iff_lt_or_eq.1 hi with h | rfl
                        · exact HO.out i h
                        · rw [HWf.out]
                          have h1 := HT.out.1 (by omega)
                          have h2 := HT.out.2.1 (by omega)
                          have h3 := HT.out.2.2 (by omega)
                          simp only [okAt, HPl.out, h1, h2, h3, Bool.and_eq_true, decide_eq_true_eq, and_true, true_and]
                          exact HLast.out
                      · show cn - ((j : Int) + 1).toNat < cn - (j : Int).toNat
                        omega
            · have e := HBad.out (by rw [hf]; simp [okAt, hpl])
              have dx : (fP q != (j : Int)) = true := by simpa using hpl
              generalize fP q = x at HQ1 hpb dx hpl
              clear hf hP hqr hpr hqp hpl
              go_wp2_with (go_at_call 59; with_reducible refine HQ1.out.mono ?_; rintro e' w' ⟨rfl, rfl⟩)
              go_ret
              exact ⟨by rw [e.out]; rfl, HB.out⟩
        · have dj : decide ((j : Int) < (cn : Int)) = false := decide_eq_false (by omega)
          have e : Hid (wholeF (fun i => F (o + i)) k = cn) := (wholeF_full hk HW.out (by rw [HCn.out]; omega) (fun i hi => by rw [HCn.out] at hi ⊢; exact HO.out i (by omega))).trans (by rw [HCn.out]; rfl)
          go_wp2_with fail
          go_ret
          exact ⟨by rw [e.out]; rfl, HB.out⟩
end Go.Proofs.Yticiaiiedagalaa.dk
