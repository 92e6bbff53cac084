/- For every number and all bytes UtfBack answers true: a character's bytes are read as it. -/
import Derived.Test.YtbajejhhmacflaaDoorUtfR
namespace Go.Proofs.YtbajejhhmacflaaDoor.utf
open Go.PlainAid Go.ChangeShapes Go.WideShapes Go.ChangeAt Go.RowKit

set_option maxHeartbeats 2000000 in
theorem back_great (r : Int) (p : Option Addr) (n c : Nat) (w : World) (hF : Forms w) (hn : n ≤ 140737488351232) (hbig : 300 < n) :
    Calls Tryd.prog 5 #[.int .i32 r, .slice p n c] w fun e w' => e = .returned (.bool true) ∧ Below w.heap.size w w' := by
  have H := Lib.hid (awake_any w hF)
  clear hF
  go_enter Tryd.func5, Tryd.ntmps5
  go_wp2_with (go_at_call 11; refine H.out.mono ?_; rintro e w1 ⟨rfl, hb1⟩)
  go_ret
  exact ⟨rfl, hb1⟩

set_option maxHeartbeats 4000000 in
theorem back_goodlo_nil (r : Int) (w : World) (hF : Forms w) (hr : IsRune r) (hh : r < 55296)  :
    Calls Tryd.prog 5 #[.int .i32 r, .slice none 0 0] w fun e w' => e = .returned (.bool true) ∧ Below w.heap.size w w' := by
  obtain ⟨i0, hi, hz0, hz1, hz2⟩ := info_byte
  have hI : Hid (IsRune r) := hr
  have hfix : fixed r = r := if_pos hr
  have HP : Hid (∀ W, Calls Tryd.prog 22 #[.slice none 0 0, .int .i32 r] W fun e w' => e = .returned (.slice (some ⟨W.heap.size, 0, none⟩) (enc r).length (enc r).length) ∧ W.alloc (.cells (encCells r) 5) = w') := fun W => by
    have := PutNil_any r W; rw [hfix] at this; exact this
  have hl := enc_len r
  have hx1 := nxl_enc hI.out []
  have hx2 := nxl_short hI.out
  have hx3 := chk_enc hI.out
  have hOe := enc_oct hI.out
  have hBp := fun W => Bs_put W r
  clear hfix
  obtain ⟨L, hL⟩ : ∃ L, L = (enc r).length := ⟨_, rfl⟩
  rw [← hL] at HP hl hx1 hx2 hBp
  have HF := Lib.hid hF
  have H := Lib.hid (awake_any w hF)
  have HL := Lib.hid hL
  have HX1 := Lib.hid hx1
  have HX2 := Lib.hid hx2
  have HX3 := Lib.hid hx3
  have HOe := Lib.hid hOe
  have HBp := Lib.hid hBp
  clear hL hx1 hx2 hx3 hOe hBp
  obtain ⟨hl1, hl2⟩ := hl
  clear hF
  obtain ⟨k0, k2⟩ : 0 ≤ r ∧ r ≤ 1114111 := ⟨hr.1, hr.2.2⟩
  clear hr
  have b1 : ((L : Int) == L) = true := by simp
  have hmx : (max (0 : Int) ((L : Int) - 1)).toNat = L - 1 := by omega
  have q1 : decide ((1 : Int) ≤ L) = true := decide_eq_true (by omega)
  have q2 : decide ((L : Int) ≤ 4) = true := decide_eq_true (by omega)
  go_enter Tryd.func5, Tryd.ntmps5
  go_wp2_with (go_at_call 11; refine H.out.mono ?_; rintro e w1 ⟨rfl, hB1⟩)
  have z1 := hB1.size
  refine (HP.out w1).mono ?_
  rintro e w2 ⟨rfl, rfl⟩
  have hB2 := hB1.alloc z1 (.cells (encCells r) 5)
  have ho := own_empty (w1.alloc (.cells (encCells r) 5)) (w1.heap.size + 1) (by simp)
  have hB3 := hB2.alloc (by simp; omega) (.cells #[] 5)
  have hb3 := (HBp.out w1).below ((Below.refl _ _).alloc (Nat.le_refl _) (.cells #[] 5))
  obtain ⟨-, hbn⟩ := Bs_news hb3
  have HBn := Lib.hid hbn
  clear hbn hb3
  simp only [World.size_alloc] at ho
  go_wp2_with (at_builtin; refine wpList_append_own _ rfl _ _ 22 rfl (w1.heap.size + 1) 5 i0 (.int .u8 0) 1 1 Tryd.underlying22 hi hz0 hz1 hz2 rfl (by decide) _ _ _ rfl ho ⟨w1.heap.size, 0, none⟩ L L (bcells (enc r)) rfl ?c1 ?c2 ?c3 ?c4 ?c5 ?c6 ?_)
  case c1 => rw [bcells_length, HL.out, Nat.mul_one]
  case c2 => exact HBn.out
  case c3 => exact bcells_one _
  case c4 => unfold maxLen; omega
  case c5 => omega
  case c6 => simp
  intro v1 w3 hown1 hgrow1 _hne
  have hB4 := hB3.grown hgrow1 (by simp; omega) (fun k hk => by cases hk; show _ ≤ w1.heap.size + 1; omega)
  have hU := (Below.refl (w1.heap.size + 1) _).grown hgrow1 (by simp) (fun k hk => by cases hk; show _ ≤ w1.heap.size + 1; omega)
  have hbb := ((HBp.out w1).below ((Below.refl _ _).alloc (Nat.le_refl _) (.cells #[] 5))).under hU (by omega)
  have zU := hU.size
  simp at zU
  rw [← bcells_append, List.nil_append] at hown1
  have hown1 : w3.ownsRow (w1.heap.size + 1) 5 1 v1 L (bcells (enc r)) := by simpa using hown1
  obtain ⟨g1, cap1, rfl, hcap1⟩ : ∃ g cap, v1 = .slice (some ⟨g, 0, none⟩) L cap ∧ L ≤ cap := by
    rcases hown1.2 with ⟨_, k0⟩ | ⟨g, cap, cur, hv, _, _, hc, _⟩
    · omega
    · exact ⟨g, cap, hv, hc⟩
  have HBB := Lib.hid hbb
  clear hbb hU hgrow1 HBn ho
  go_wp2_with fail
  have HV : Hid (Bs w3 (.slice (some ⟨g1, 0, none⟩) L cap1) (enc r ++ [])) := by
    show Bs w3 (.slice (some ⟨g1, 0, none⟩) L cap1) (enc r ++ [])
    rw [List.append_nil]
    exact Bs_own (B := w1.heap.size + 1) (by rw [← HL.out]; exact hown1)
  have HLen : Hid ((enc r ++ []).length ≤ maxLen) := by show _ ≤ maxLen; rw [List.append_nil, ← HL.out]; unfold maxLen; omega
  have HOc : Hid (Oct (enc r ++ [])) := by show Oct _; rw [List.append_nil]; exact HOe.out
  have N1 := Next_any (.slice (some ⟨g1, 0, none⟩) L cap1) (enc r ++ []) w3 HOc.out HLen.out HV.out (HF.out.below hB4 HF.out.size)
  rw [HX1.out] at N1
  have NN1 := Lib.hid N1
  clear N1
  go_wp2_with (go_at_call 12; refine NN1.out.mono ?_; rintro e w6 ⟨rfl, hb6⟩)
  have hB6 := hB4.trans (hb6.mono hB4.size)
  have hbb6 := HBB.out.below hb6
  have N2 := Next_any (.slice (some ⟨w1.heap.size, 0, none⟩) (L - 1) L) ((enc r).take (L - 1)) w6 (fun x hx => HOe.out x (List.mem_of_mem_take hx)) (by simp; unfold maxLen; omega)
    (Bs_take hbb6 (by rw [← HL.out]; omega)) (HF.out.below hB6 HF.out.size)
  rw [HX2.out] at N2
  refine N2.mono ?_
  rintro e w7 ⟨rfl, hb7⟩
  have hB7 := hB6.trans (hb7.mono hB6.size)
  have hbb7 := hbb6.below hb7
  have N3 := Check_any (.slice (some ⟨w1.heap.size, 0, none⟩) L L) (enc r) w7 HOe.out (by rw [← HL.out]; unfold maxLen; omega) hbb7 (HF.out.below hB7 HF.out.size)
  rw [HX3.out] at N3
  have NN3 := Lib.hid N3
  clear N2 N3 hbb6 hbb7
  go_wp2_with (go_at_call 16; refine NN3.out.mono ?_; rintro e w8 ⟨rfl, hb8⟩)
  go_ret
  exact ⟨rfl, hB7.trans (hb8.mono hB7.size)⟩

set_option maxHeartbeats 4000000 in
theorem back_goodhi_nil (r : Int) (w : World) (hF : Forms w) (hr : IsRune r) (hh : 57343 < r)  :
    Calls Tryd.prog 5 #[.int .i32 r, .slice none 0 0] w fun e w' => e = .returned (.bool true) ∧ Below w.heap.size w w' := by
  obtain ⟨i0, hi, hz0, hz1, hz2⟩ := info_byte
  have hI : Hid (IsRune r) := hr
  have hfix : fixed r = r := if_pos hr
  have HP : Hid (∀ W, Calls Tryd.prog 22 #[.slice none 0 0, .int .i32 r] W fun e w' => e = .returned (.slice (some ⟨W.heap.size, 0, none⟩) (enc r).length (enc r).length) ∧ W.alloc (.cells (encCells r) 5) = w') := fun W => by
    have := PutNil_any r W; rw [hfix] at this; exact this
  have hl := enc_len r
  have hx1 := nxl_enc hI.out []
  have hx2 := nxl_short hI.out
  have hx3 := chk_enc hI.out
  have hOe := enc_oct hI.out
  have hBp := fun W => Bs_put W r
  clear hfix
  obtain ⟨L, hL⟩ : ∃ L, L = (enc r).length := ⟨_, rfl⟩
  rw [← hL] at HP hl hx1 hx2 hBp
  have HF := Lib.hid hF
  have H := Lib.hid (awake_any w hF)
  have HL := Lib.hid hL
  have HX1 := Lib.hid hx1
  have HX2 := Lib.hid hx2
  have HX3 := Lib.hid hx3
  have HOe := Lib.hid hOe
  have HBp := Lib.hid hBp
  clear hL hx1 hx2 hx3 hOe hBp
  obtain ⟨hl1, hl2⟩ := hl
  clear hF
  obtain ⟨k0, k2⟩ : 0 ≤ r ∧ r ≤ 1114111 := ⟨hr.1, hr.2.2⟩
  have d0 : decide (r ≤ 57343) = false := decide_eq_false (by omega)
  clear hr
  have b1 : ((L : Int) == L) = true := by simp
  have hmx : (max (0 : Int) ((L : Int) - 1)).toNat = L - 1 := by omega
  have q1 : decide ((1 : Int) ≤ L) = true := decide_eq_true (by omega)
  have q2 : decide ((L : Int) ≤ 4) = true := decide_eq_true (by omega)
  go_enter Tryd.func5, Tryd.ntmps5
  go_wp2_with (go_at_call 11; refine H.out.mono ?_; rintro e w1 ⟨rfl, hB1⟩)
  have z1 := hB1.size
  refine (HP.out w1).mono ?_
  rintro e w2 ⟨rfl, rfl⟩
  have hB2 := hB1.alloc z1 (.cells (encCells r) 5)
  have ho := own_empty (w1.alloc (.cells (encCells r) 5)) (w1.heap.size + 1) (by simp)
  have hB3 := hB2.alloc (by simp; omega) (.cells #[] 5)
  have hb3 := (HBp.out w1).below ((Below.refl _ _).alloc (Nat.le_refl _) (.cells #[] 5))
  obtain ⟨-, hbn⟩ := Bs_news hb3
  have HBn := Lib.hid hbn
  clear hbn hb3
  simp only [World.size_alloc] at ho
  go_wp2_with (at_builtin; refine wpList_append_own _ rfl _ _ 22 rfl (w1.heap.size + 1) 5 i0 (.int .u8 0) 1 1 Tryd.underlying22 hi hz0 hz1 hz2 rfl (by decide) _ _ _ rfl ho ⟨w1.heap.size, 0, none⟩ L L (bcells (enc r)) rfl ?c1 ?c2 ?c3 ?c4 ?c5 ?c6 ?_)
  case c1 => rw [bcells_length, HL.out, Nat.mul_one]
  case c2 => exact HBn.out
  case c3 => exact bcells_one _
  case c4 => unfold maxLen; omega
  case c5 => omega
  case c6 => simp
  intro v1 w3 hown1 hgrow1 _hne
  have hB4 := hB3.grown hgrow1 (by simp; omega) (fun k hk => by cases hk; show _ ≤ w1.heap.size + 1; omega)
  have hU := (Below.refl (w1.heap.size + 1) _).grown hgrow1 (by simp) (fun k hk => by cases hk; show _ ≤ w1.heap.size + 1; omega)
  have hbb := ((HBp.out w1).below ((Below.refl _ _).alloc (Nat.le_refl _) (.cells #[] 5))).under hU (by omega)
  have zU := hU.size
  simp at zU
  rw [← bcells_append, List.nil_append] at hown1
  have hown1 : w3.ownsRow (w1.heap.size + 1) 5 1 v1 L (bcells (enc r)) := by simpa using hown1
  obtain ⟨g1, cap1, rfl, hcap1⟩ : ∃ g cap, v1 = .slice (some ⟨g, 0, none⟩) L cap ∧ L ≤ cap := by
    rcases hown1.2 with ⟨_, k0⟩ | ⟨g, cap, cur, hv, _, _, hc, _⟩
    · omega
    · exact ⟨g, cap, hv, hc⟩
  have HBB := Lib.hid hbb
  clear hbb hU hgrow1 HBn ho
  go_wp2_with fail
  have HV : Hid (Bs w3 (.slice (some ⟨g1, 0, none⟩) L cap1) (enc r ++ [])) := by
    show Bs w3 (.slice (some ⟨g1, 0, none⟩) L cap1) (enc r ++ [])
    rw [List.append_nil]
    exact Bs_own (B := w1.heap.size + 1) (by rw [← HL.out]; exact hown1)
  have HLen : Hid ((enc r ++ []).length ≤ maxLen) := by show _ ≤ maxLen; rw [List.append_nil, ← HL.out]; unfold maxLen; omega
  have HOc : Hid (Oct (enc r ++ [])) := by show Oct _; rw [List.append_nil]; exact HOe.out
  have N1 := Next_any (.slice (some ⟨g1, 0, none⟩) L cap1) (enc r ++ []) w3 HOc.out HLen.out HV.out (HF.out.below hB4 HF.out.size)
  rw [HX1.out] at N1
  have NN1 := Lib.hid N1
  clear N1
  go_wp2_with (go_at_call 12; refine NN1.out.mono ?_; rintro e w6 ⟨rfl, hb6⟩)
  have hB6 := hB4.trans (hb6.mono hB4.size)
  have hbb6 := HBB.out.below hb6
  have N2 := Next_any (.slice (some ⟨w1.heap.size, 0, none⟩) (L - 1) L) ((enc r).take (L - 1)) w6 (fun x hx => HOe.out x (List.mem_of_mem_take hx)) (by simp; unfold maxLen; omega)
    (Bs_take hbb6 (by rw [← HL.out]; omega)) (HF.out.below hB6 HF.out.size)
  rw [HX2.out] at N2
  refine N2.mono ?_
  rintro e w7 ⟨rfl, hb7⟩
  have hB7 := hB6.trans (hb7.mono hB6.size)
  have hbb7 := hbb6.below hb7
  have N3 := Check_any (.slice (some ⟨w1.heap.size, 0, none⟩) L L) (enc r) w7 HOe.out (by rw [← HL.out]; unfold maxLen; omega) hbb7 (HF.out.below hB7 HF.out.size)
  rw [HX3.out] at N3
  have NN3 := Lib.hid N3
  clear N2 N3 hbb6 hbb7
  go_wp2_with (go_at_call 16; refine NN3.out.mono ?_; rintro e w8 ⟨rfl, hb8⟩)
  go_ret
  exact ⟨rfl, hB7.trans (hb8.mono hB7.size)⟩

set_option maxHeartbeats 4000000 in
theorem back_goodlo_some (r : Int) (w : World) (hF : Forms w) (hr : IsRune r) (hh : r < 55296) (a : Addr) (n c : Nat) (more : List Int) (hO : Oct more) (hm : Bs w (.slice (some a) n c) more) (hn : n ≤ 300) :
    Calls Tryd.prog 5 #[.int .i32 r, .slice (some a) n c] w fun e w' => e = .returned (.bool true) ∧ Below w.heap.size w w' := by
  obtain ⟨i0, hi, hz0, hz1, hz2⟩ := info_byte
  have hI : Hid (IsRune r) := hr
  have hfix : fixed r = r := if_pos hr
  have HP : Hid (∀ W, Calls Tryd.prog 22 #[.slice none 0 0, .int .i32 r] W fun e w' => e = .returned (.slice (some ⟨W.heap.size, 0, none⟩) (enc r).length (enc r).length) ∧ W.alloc (.cells (encCells r) 5) = w') := fun W => by
    have := PutNil_any r W; rw [hfix] at this; exact this
  have hl := enc_len r
  have hx1 := nxl_enc hI.out more
  have hx2 := nxl_short hI.out
  have hx3 := chk_enc hI.out
  have hOe := enc_oct hI.out
  have hBp := fun W => Bs_put W r
  clear hfix
  obtain ⟨L, hL⟩ : ∃ L, L = (enc r).length := ⟨_, rfl⟩
  rw [← hL] at HP hl hx1 hx2 hBp
  have HF := Lib.hid hF
  have H := Lib.hid (awake_any w hF)
  have HL := Lib.hid hL
  have HX1 := Lib.hid hx1
  have HX2 := Lib.hid hx2
  have HX3 := Lib.hid hx3
  have HOe := Lib.hid hOe
  have HBp := Lib.hid hBp
  clear hL hx1 hx2 hx3 hOe hBp
  obtain ⟨hl1, hl2⟩ := hl
  have hmn := (Bs_news hm).1
  have HM := Lib.hid hm
  have HMn := Lib.hid hmn
  have HO := Lib.hid hO
  clear hm hmn hO
  clear hF
  obtain ⟨k0, k2⟩ : 0 ≤ r ∧ r ≤ 1114111 := ⟨hr.1, hr.2.2⟩
  clear hr
  have b1 : ((L : Int) == L) = true := by simp
  have hmx : (max (0 : Int) ((L : Int) - 1)).toNat = L - 1 := by omega
  have q1 : decide ((1 : Int) ≤ L) = true := decide_eq_true (by omega)
  have q2 : decide ((L : Int) ≤ 4) = true := decide_eq_true (by omega)
  go_enter Tryd.func5, Tryd.ntmps5
  go_wp2_with (go_at_call 11; refine H.out.mono ?_; rintro e w1 ⟨rfl, hB1⟩)
  have z1 := hB1.size
  refine (HP.out w1).mono ?_
  rintro e w2 ⟨rfl, rfl⟩
  have hB2 := hB1.alloc z1 (.cells (encCells r) 5)
  have ho := own_empty (w1.alloc (.cells (encCells r) 5)) (w1.heap.size + 1) (by simp)
  have hB3 := hB2.alloc (by simp; omega) (.cells #[] 5)
  have hb3 := (HBp.out w1).below ((Below.refl _ _).alloc (Nat.le_refl _) (.cells #[] 5))
  obtain ⟨-, hbn⟩ := Bs_news hb3
  have HBn := Lib.hid hbn
  clear hbn hb3
  simp only [World.size_alloc] at ho
  go_wp2_with (at_builtin; refine wpList_append_own _ rfl _ _ 22 rfl (w1.heap.size + 1) 5 i0 (.int .u8 0) 1 1 Tryd.underlying22 hi hz0 hz1 hz2 rfl (by decide) _ _ _ rfl ho ⟨w1.heap.size, 0, none⟩ L L (bcells (enc r)) rfl ?c1 ?c2 ?c3 ?c4 ?c5 ?c6 ?_)
  case c1 => rw [bcells_length, HL.out, Nat.mul_one]
  case c2 => exact HBn.out
  case c3 => exact bcells_one _
  case c4 => unfold maxLen; omega
  case c5 => omega
  case c6 => simp
  intro v1 w3 hown1 hgrow1 _hne
  have hB4 := hB3.grown hgrow1 (by simp; omega) (fun k hk => by cases hk; show _ ≤ w1.heap.size + 1; omega)
  have hU := (Below.refl (w1.heap.size + 1) _).grown hgrow1 (by simp) (fun k hk => by cases hk; show _ ≤ w1.heap.size + 1; omega)
  have hbb := ((HBp.out w1).below ((Below.refl _ _).alloc (Nat.le_refl _) (.cells #[] 5))).under hU (by omega)
  have zU := hU.size
  simp at zU
  rw [← bcells_append, List.nil_append] at hown1
  have hown1 : w3.ownsRow (w1.heap.size + 1) 5 1 v1 L (bcells (enc r)) := by simpa using hown1
  obtain ⟨g1, cap1, rfl, hcap1⟩ : ∃ g cap, v1 = .slice (some ⟨g, 0, none⟩) L cap ∧ L ≤ cap := by
    rcases hown1.2 with ⟨_, k0⟩ | ⟨g, cap, cur, hv, _, _, hc, _⟩
    · omega
    · exact ⟨g, cap, hv, hc⟩
  have HBB := Lib.hid hbb
  clear hbb hU hgrow1 HBn ho
  have hsrc := (HM.out.below ((((Below.refl _ _).trans hB4)))) 
  obtain ⟨-, hsn⟩ := Bs_news hsrc
  have HSn := Lib.hid hsn
  clear hsn hsrc
  go_wp2_with (at_builtin; go_loud (refine wpList_append_own _ rfl _ _ 22 rfl (w1.heap.size + 1) 5 i0 (.int .u8 0) 1 1 Tryd.underlying22 hi hz0 hz1 hz2 rfl (by decide) _ _ _ rfl hown1 a n c (bcells more) rfl ?d1 ?d2 ?d3 ?d4 ?d5 ?d6 ?_))
  case d1 => rw [bcells_length, HMn.out, Nat.mul_one]
  case d2 => exact HSn.out
  case d3 => exact bcells_one _
  case d4 => unfold maxLen; omega
  case d5 => omega
  case d6 => omega
  intro v2 w4 hown2 hgrow2 _hne2
  have hB5 := hB4.grown hgrow2 (by omega) (fun k hk => by have := (hown1.lt k hk).1; omega)
  have HBB4 := HBB.out.under ((Below.refl (w1.heap.size + 1) _).grown hgrow2 (by omega) (fun k hk => (hown1.lt k hk).1)) (by omega)
  rw [← bcells_append] at hown2
  have HV : Hid (Bs w4 v2 (enc r ++ more)) := Bs_own (B := w1.heap.size + 1) (by rw [List.length_append, ← HL.out, ← HMn.out]; exact hown2)
  have HLen : Hid ((enc r ++ more).length ≤ maxLen) := by show _ ≤ maxLen; rw [List.length_append, ← HL.out, ← HMn.out]; unfold maxLen; omega
  have HOc : Hid (Oct (enc r ++ more)) := fun x hx => (List.mem_append.1 hx).elim (HOe.out x) (HO.out x)
  have N1 := Next_any v2 (enc r ++ more) w4 HOc.out HLen.out HV.out (HF.out.below hB5 HF.out.size)
  rw [HX1.out] at N1
  have NN1 := Lib.hid N1
  clear N1
  go_wp2_with (go_at_call 12; refine NN1.out.mono ?_; rintro e w6 ⟨rfl, hb6⟩)
  have hB6 := hB5.trans (hb6.mono hB5.size)
  have hbb6 := HBB4.below hb6
  have N2 := Next_any (.slice (some ⟨w1.heap.size, 0, none⟩) (L - 1) L) ((enc r).take (L - 1)) w6 (fun x hx => HOe.out x (List.mem_of_mem_take hx)) (by simp; unfold maxLen; omega)
    (Bs_take hbb6 (by rw [← HL.out]; omega)) (HF.out.below hB6 HF.out.size)
  rw [HX2.out] at N2
  refine N2.mono ?_
  rintro e w7 ⟨rfl, hb7⟩
  have hB7 := hB6.trans (hb7.mono hB6.size)
  have hbb7 := hbb6.below hb7
  have N3 := Check_any (.slice (some ⟨w1.heap.size, 0, none⟩) L L) (enc r) w7 HOe.out (by rw [← HL.out]; unfold maxLen; omega) hbb7 (HF.out.below hB7 HF.out.size)
  rw [HX3.out] at N3
  have NN3 := Lib.hid N3
  clear N2 N3 hbb6 hbb7
  go_wp2_with (go_at_call 16; refine NN3.out.mono ?_; rintro e w8 ⟨rfl, hb8⟩)
  go_ret
  exact ⟨rfl, hB7.trans (hb8.mono hB7.size)⟩

set_option maxHeartbeats 4000000 in
theorem back_goodhi_some (r : Int) (w : World) (hF : Forms w) (hr : IsRune r) (hh : 57343 < r) (a : Addr) (n c : Nat) (more : List Int) (hO : Oct more) (hm : Bs w (.slice (some a) n c) more) (hn : n ≤ 300) :
    Calls Tryd.prog 5 #[.int .i32 r, .slice (some a) n c] w fun e w' => e = .returned (.bool true) ∧ Below w.heap.size w w' := by
  obtain ⟨i0, hi, hz0, hz1, hz2⟩ := info_byte
  have hI : Hid (IsRune r) := hr
  have hfix : fixed r = r := if_pos hr
  have HP : Hid (∀ W, Calls Tryd.prog 22 #[.slice none 0 0, .int .i32 r] W fun e w' => e = .returned (.slice (some ⟨W.heap.size, 0, none⟩) (enc r).length (enc r).length) ∧ W.alloc (.cells (encCells r) 5) = w') := fun W => by
    have := PutNil_any r W; rw [hfix] at this; exact this
  have hl := enc_len r
  have hx1 := nxl_enc hI.out more
  have hx2 := nxl_short hI.out
  have hx3 := chk_enc hI.out
  have hOe := enc_oct hI.out
  have hBp := fun W => Bs_put W r
  clear hfix
  obtain ⟨L, hL⟩ : ∃ L, L = (enc r).length := ⟨_, rfl⟩
  rw [← hL] at HP hl hx1 hx2 hBp
  have HF := Lib.hid hF
  have H := Lib.hid (awake_any w hF)
  have HL := Lib.hid hL
  have HX1 := Lib.hid hx1
  have HX2 := Lib.hid hx2
  have HX3 := Lib.hid hx3
  have HOe := Lib.hid hOe
  have HBp := Lib.hid hBp
  clear hL hx1 hx2 hx3 hOe hBp
  obtain ⟨hl1, hl2⟩ := hl
  have hmn := (Bs_news hm).1
  have HM := Lib.hid hm
  have HMn := Lib.hid hmn
  have HO := Lib.hid hO
  clear hm hmn hO
  clear hF
  obtain ⟨k0, k2⟩ : 0 ≤ r ∧ r ≤ 1114111 := ⟨hr.1, hr.2.2⟩
  have d0 : decide (r ≤ 57343) = false := decide_eq_false (by omega)
  clear hr
  have b1 : ((L : Int) == L) = true := by simp
  have hmx : (max (0 : Int) ((L : Int) - 1)).toNat = L - 1 := by omega
  have q1 : decide ((1 : Int) ≤ L) = true := decide_eq_true (by omega)
  have q2 : decide ((L : Int) ≤ 4) = true := decide_eq_true (by omega)
  go_enter Tryd.func5, Tryd.ntmps5
  go_wp2_with (go_at_call 11; refine H.out.mono ?_; rintro e w1 ⟨rfl, hB1⟩)
  have z1 := hB1.size
  refine (HP.out w1).mono ?_
  rintro e w2 ⟨rfl, rfl⟩
  have hB2 := hB1.alloc z1 (.cells (encCells r) 5)
  have ho := own_empty (w1.alloc (.cells (encCells r) 5)) (w1.heap.size + 1) (by simp)
  have hB3 := hB2.alloc (by simp; omega) (.cells #[] 5)
  have hb3 := (HBp.out w1).below ((Below.refl _ _).alloc (Nat.le_refl _) (.cells #[] 5))
  obtain ⟨-, hbn⟩ := Bs_news hb3
  have HBn := Lib.hid hbn
  clear hbn hb3
  simp only [World.size_alloc] at ho
  go_wp2_with (at_builtin; refine wpList_append_own _ rfl _ _ 22 rfl (w1.heap.size + 1) 5 i0 (.int .u8 0) 1 1 Tryd.underlying22 hi hz0 hz1 hz2 rfl (by decide) _ _ _ rfl ho ⟨w1.heap.size, 0, none⟩ L L (bcells (enc r)) rfl ?c1 ?c2 ?c3 ?c4 ?c5 ?c6 ?_)
  case c1 => rw [bcells_length, HL.out, Nat.mul_one]
  case c2 => exact HBn.out
  case c3 => exact bcells_one _
  case c4 => unfold maxLen; omega
  case c5 => omega
  case c6 => simp
  intro v1 w3 hown1 hgrow1 _hne
  have hB4 := hB3.grown hgrow1 (by simp; omega) (fun k hk => by cases hk; show _ ≤ w1.heap.size + 1; omega)
  have hU := (Below.refl (w1.heap.size + 1) _).grown hgrow1 (by simp) (fun k hk => by cases hk; show _ ≤ w1.heap.size + 1; omega)
  have hbb := ((HBp.out w1).below ((Below.refl _ _).alloc (Nat.le_refl _) (.cells #[] 5))).under hU (by omega)
  have zU := hU.size
  simp at zU
  rw [← bcells_append, List.nil_append] at hown1
  have hown1 : w3.ownsRow (w1.heap.size + 1) 5 1 v1 L (bcells (enc r)) := by simpa using hown1
  obtain ⟨g1, cap1, rfl, hcap1⟩ : ∃ g cap, v1 = .slice (some ⟨g, 0, none⟩) L cap ∧ L ≤ cap := by
    rcases hown1.2 with ⟨_, k0⟩ | ⟨g, cap, cur, hv, _, _, hc, _⟩
    · omega
    · exact ⟨g, cap, hv, hc⟩
  have HBB := Lib.hid hbb
  clear hbb hU hgrow1 HBn ho
  have hsrc := (HM.out.below ((((Below.refl _ _).trans hB4)))) 
  obtain ⟨-, hsn⟩ := Bs_news hsrc
  have HSn := Lib.hid hsn
  clear hsn hsrc
  go_wp2_with (at_builtin; go_loud (refine wpList_append_own _ rfl _ _ 22 rfl (w1.heap.size + 1) 5 i0 (.int .u8 0) 1 1 Tryd.underlying22 hi hz0 hz1 hz2 rfl (by decide) _ _ _ rfl hown1 a n c (bcells more) rfl ?d1 ?d2 ?d3 ?d4 ?d5 ?d6 ?_))
  case d1 => rw [bcells_length, HMn.out, Nat.mul_one]
  case d2 => exact HSn.out
  case d3 => exact bcells_one _
  case d4 => unfold maxLen; omega
  case d5 => omega
  case d6 => omega
  intro v2 w4 hown2 hgrow2 _hne2
  have hB5 := hB4.grown hgrow2 (by omega) (fun k hk => by have := (hown1.lt k hk).1; omega)
  have HBB4 := HBB.out.under ((Below.refl (w1.heap.size + 1) _).grown hgrow2 (by omega) (fun k hk => (hown1.lt k hk).1)) (by omega)
  rw [← bcells_append] at hown2
  have HV : Hid (Bs w4 v2 (enc r ++ more)) := Bs_own (B := w1.heap.size + 1) (by rw [List.length_append, ← HL.out, ← HMn.out]; exact hown2)
  have HLen : Hid ((enc r ++ more).length ≤ maxLen) := by show _ ≤ maxLen; rw [List.length_append, ← HL.out, ← HMn.out]; unfold maxLen; omega
  have HOc : Hid (Oct (enc r ++ more)) := fun x hx => (List.mem_append.1 hx).elim (HOe.out x) (HO.out x)
  have N1 := Next_any v2 (enc r ++ more) w4 HOc.out HLen.out HV.out (HF.out.below hB5 HF.out.size)
  rw [HX1.out] at N1
  have NN1 := Lib.hid N1
  clear N1
  go_wp2_with (go_at_call 12; refine NN1.out.mono ?_; rintro e w6 ⟨rfl, hb6⟩)
  have hB6 := hB5.trans (hb6.mono hB5.size)
  have hbb6 := HBB4.below hb6
  have N2 := Next_any (.slice (some ⟨w1.heap.size, 0, none⟩) (L - 1) L) ((enc r).take (L - 1)) w6 (fun x hx => HOe.out x (List.mem_of_mem_take hx)) (by simp; unfold maxLen; omega)
    (Bs_take hbb6 (by rw [← HL.out]; omega)) (HF.out.below hB6 HF.out.size)
  rw [HX2.out] at N2
  refine N2.mono ?_
  rintro e w7 ⟨rfl, hb7⟩
  have hB7 := hB6.trans (hb7.mono hB6.size)
  have hbb7 := hbb6.below hb7
  have N3 := Check_any (.slice (some ⟨w1.heap.size, 0, none⟩) L L) (enc r) w7 HOe.out (by rw [← HL.out]; unfold maxLen; omega) hbb7 (HF.out.below hB7 HF.out.size)
  rw [HX3.out] at N3
  have NN3 := Lib.hid N3
  clear N2 N3 hbb6 hbb7
  go_wp2_with (go_at_call 16; refine NN3.out.mono ?_; rintro e w8 ⟨rfl, hb8⟩)
  go_ret
  exact ⟨rfl, hB7.trans (hb8.mono hB7.size)⟩

set_option maxHeartbeats 4000000 in
theorem back_neg_nil (r : Int) (w : World) (hF : Forms w) (hr : r < 0)  :
    Calls Tryd.prog 5 #[.int .i32 r, .slice none 0 0] w fun e w' => e = .returned (.bool true) ∧ Below w.heap.size w w' := by
  obtain ⟨i0, hi, hz0, hz1, hz2⟩ := info_byte
  have hI : Hid (IsRune 65533) := (show IsRune 65533 by unfold IsRune; omega)
  have hfix : fixed r = 65533 := if_neg (by omega)
  have HP : Hid (∀ W, Calls Tryd.prog 22 #[.slice none 0 0, .int .i32 r] W fun e w' => e = .returned (.slice (some ⟨W.heap.size, 0, none⟩) (enc 65533).length (enc 65533).length) ∧ W.alloc (.cells (encCells 65533) 5) = w') := fun W => by
    have := PutNil_any r W; rw [hfix] at this; exact this
  have hl := enc_len 65533
  have hx1 := nxl_enc hI.out []
  have hx2 := nxl_short hI.out
  have hx3 := chk_enc hI.out
  have hOe := enc_oct hI.out
  have hBp := fun W => Bs_put W 65533
  clear hfix
  obtain ⟨L, hL⟩ : ∃ L, L = (enc 65533).length := ⟨_, rfl⟩
  rw [← hL] at HP hl hx1 hx2 hBp
  have HF := Lib.hid hF
  have H := Lib.hid (awake_any w hF)
  have HL := Lib.hid hL
  have HX1 := Lib.hid hx1
  have HX2 := Lib.hid hx2
  have HX3 := Lib.hid hx3
  have HOe := Lib.hid hOe
  have HBp := Lib.hid hBp
  clear hL hx1 hx2 hx3 hOe hBp
  obtain ⟨hl1, hl2⟩ := hl
  clear hF
  have b1 : ((L : Int) == L) = true := by simp
  have hmx : (max (0 : Int) ((L : Int) - 1)).toNat = L - 1 := by omega
  have q1 : decide ((1 : Int) ≤ L) = true := decide_eq_true (by omega)
  have q2 : decide ((L : Int) ≤ 4) = true := decide_eq_true (by omega)
  go_enter Tryd.func5, Tryd.ntmps5
  go_wp2_with (go_at_call 11; refine H.out.mono ?_; rintro e w1 ⟨rfl, hB1⟩)
  have z1 := hB1.size
  refine (HP.out w1).mono ?_
  rintro e w2 ⟨rfl, rfl⟩
  have hB2 := hB1.alloc z1 (.cells (encCells 65533) 5)
  have ho := own_empty (w1.alloc (.cells (encCells 65533) 5)) (w1.heap.size + 1) (by simp)
  have hB3 := hB2.alloc (by simp; omega) (.cells #[] 5)
  have hb3 := (HBp.out w1).below ((Below.refl _ _).alloc (Nat.le_refl _) (.cells #[] 5))
  obtain ⟨-, hbn⟩ := Bs_news hb3
  have HBn := Lib.hid hbn
  clear hbn hb3
  simp only [World.size_alloc] at ho
  go_wp2_with (at_builtin; refine wpList_append_own _ rfl _ _ 22 rfl (w1.heap.size + 1) 5 i0 (.int .u8 0) 1 1 Tryd.underlying22 hi hz0 hz1 hz2 rfl (by decide) _ _ _ rfl ho ⟨w1.heap.size, 0, none⟩ L L (bcells (enc 65533)) rfl ?c1 ?c2 ?c3 ?c4 ?c5 ?c6 ?_)
  case c1 => rw [bcells_length, HL.out, Nat.mul_one]
  case c2 => exact HBn.out
  case c3 => exact bcells_one _
  case c4 => unfold maxLen; omega
  case c5 => omega
  case c6 => simp
  intro v1 w3 hown1 hgrow1 _hne
  have hB4 := hB3.grown hgrow1 (by simp; omega) (fun k hk => by cases hk; show _ ≤ w1.heap.size + 1; omega)
  have hU := (Below.refl (w1.heap.size + 1) _).grown hgrow1 (by simp) (fun k hk => by cases hk; show _ ≤ w1.heap.size + 1; omega)
  have hbb := ((HBp.out w1).below ((Below.refl _ _).alloc (Nat.le_refl _) (.cells #[] 5))).under hU (by omega)
  have zU := hU.size
  simp at zU
  rw [← bcells_append, List.nil_append] at hown1
  have hown1 : w3.ownsRow (w1.heap.size + 1) 5 1 v1 L (bcells (enc 65533)) := by simpa using hown1
  obtain ⟨g1, cap1, rfl, hcap1⟩ : ∃ g cap, v1 = .slice (some ⟨g, 0, none⟩) L cap ∧ L ≤ cap := by
    rcases hown1.2 with ⟨_, k0⟩ | ⟨g, cap, cur, hv, _, _, hc, _⟩
    · omega
    · exact ⟨g, cap, hv, hc⟩
  have HBB := Lib.hid hbb
  clear hbb hU hgrow1 HBn ho
  go_wp2_with fail
  have HV : Hid (Bs w3 (.slice (some ⟨g1, 0, none⟩) L cap1) (enc 65533 ++ [])) := by
    show Bs w3 (.slice (some ⟨g1, 0, none⟩) L cap1) (enc 65533 ++ [])
    rw [List.append_nil]
    exact Bs_own (B := w1.heap.size + 1) (by rw [← HL.out]; exact hown1)
  have HLen : Hid ((enc 65533 ++ []).length ≤ maxLen) := by show _ ≤ maxLen; rw [List.append_nil, ← HL.out]; unfold maxLen; omega
  have HOc : Hid (Oct (enc 65533 ++ [])) := by show Oct _; rw [List.append_nil]; exact HOe.out
  have N1 := Next_any (.slice (some ⟨g1, 0, none⟩) L cap1) (enc 65533 ++ []) w3 HOc.out HLen.out HV.out (HF.out.below hB4 HF.out.size)
  rw [HX1.out] at N1
  have NN1 := Lib.hid N1
  clear N1
  go_wp2_with (go_at_call 12; refine NN1.out.mono ?_; rintro e w6 ⟨rfl, hb6⟩)
  have hB6 := hB4.trans (hb6.mono hB4.size)
  have hbb6 := HBB.out.below hb6
  have N2 := Next_any (.slice (some ⟨w1.heap.size, 0, none⟩) (L - 1) L) ((enc 65533).take (L - 1)) w6 (fun x hx => HOe.out x (List.mem_of_mem_take hx)) (by simp; unfold maxLen; omega)
    (Bs_take hbb6 (by rw [← HL.out]; omega)) (HF.out.below hB6 HF.out.size)
  rw [HX2.out] at N2
  refine N2.mono ?_
  rintro e w7 ⟨rfl, hb7⟩
  have hB7 := hB6.trans (hb7.mono hB6.size)
  have hbb7 := hbb6.below hb7
  have N3 := Check_any (.slice (some ⟨w1.heap.size, 0, none⟩) L L) (enc 65533) w7 HOe.out (by rw [← HL.out]; unfold maxLen; omega) hbb7 (HF.out.below hB7 HF.out.size)
  rw [HX3.out] at N3
  have NN3 := Lib.hid N3
  clear N2 N3 hbb6 hbb7
  go_wp2_with (go_at_call 16; refine NN3.out.mono ?_; rintro e w8 ⟨rfl, hb8⟩)
  go_ret
  exact ⟨rfl, hB7.trans (hb8.mono hB7.size)⟩

set_option maxHeartbeats 4000000 in
theorem back_neg_some (r : Int) (w : World) (hF : Forms w) (hr : r < 0) (a : Addr) (n c : Nat) (more : List Int) (hO : Oct more) (hm : Bs w (.slice (some a) n c) more) (hn : n ≤ 300) :
    Calls Tryd.prog 5 #[.int .i32 r, .slice (some a) n c] w fun e w' => e = .returned (.bool true) ∧ Below w.heap.size w w' := by
  obtain ⟨i0, hi, hz0, hz1, hz2⟩ := info_byte
  have hI : Hid (IsRune 65533) := (show IsRune 65533 by unfold IsRune; omega)
  have hfix : fixed r = 65533 := if_neg (by omega)
  have HP : Hid (∀ W, Calls Tryd.prog 22 #[.slice none 0 0, .int .i32 r] W fun e w' => e = .returned (.slice (some ⟨W.heap.size, 0, none⟩) (enc 65533).length (enc 65533).length) ∧ W.alloc (.cells (encCells 65533) 5) = w') := fun W => by
    have := PutNil_any r W; rw [hfix] at this; exact this
  have hl := enc_len 65533
  have hx1 := nxl_enc hI.out more
  have hx2 := nxl_short hI.out
  have hx3 := chk_enc hI.out
  have hOe := enc_oct hI.out
  have hBp := fun W => Bs_put W 65533
  clear hfix
  obtain ⟨L, hL⟩ : ∃ L, L = (enc 65533).length := ⟨_, rfl⟩
  rw [← hL] at HP hl hx1 hx2 hBp
  have HF := Lib.hid hF
  have H := Lib.hid (awake_any w hF)
  have HL := Lib.hid hL
  have HX1 := Lib.hid hx1
  have HX2 := Lib.hid hx2
  have HX3 := Lib.hid hx3
  have HOe := Lib.hid hOe
  have HBp := Lib.hid hBp
  clear hL hx1 hx2 hx3 hOe hBp
  obtain ⟨hl1, hl2⟩ := hl
  have hmn := (Bs_news hm).1
  have HM := Lib.hid hm
  have HMn := Lib.hid hmn
  have HO := Lib.hid hO
  clear hm hmn hO
  clear hF
  have b1 : ((L : Int) == L) = true := by simp
  have hmx : (max (0 : Int) ((L : Int) - 1)).toNat = L - 1 := by omega
  have q1 : decide ((1 : Int) ≤ L) = true := decide_eq_true (by omega)
  have q2 : decide ((L : Int) ≤ 4) = true := decide_eq_true (by omega)
  go_enter Tryd.func5, Tryd.ntmps5
  go_wp2_with (go_at_call 11; refine H.out.mono ?_; rintro e w1 ⟨rfl, hB1⟩)
  have z1 := hB1.size
  refine (HP.out w1).mono ?_
  rintro e w2 ⟨rfl, rfl⟩
  have hB2 := hB1.alloc z1 (.cells (encCells 65533) 5)
  have ho := own_empty (w1.alloc (.cells (encCells 65533) 5)) (w1.heap.size + 1) (by simp)
  have hB3 := hB2.alloc (by simp; omega) (.cells #[] 5)
  have hb3 := (HBp.out w1).below ((Below.refl _ _).alloc (Nat.le_refl _) (.cells #[] 5))
  obtain ⟨-, hbn⟩ := Bs_news hb3
  have HBn := Lib.hid hbn
  clear hbn hb3
  simp only [World.size_alloc] at ho
  go_wp2_with (at_builtin; refine wpList_append_own _ rfl _ _ 22 rfl (w1.heap.size + 1) 5 i0 (.int .u8 0) 1 1 Tryd.underlying22 hi hz0 hz1 hz2 rfl (by decide) _ _ _ rfl ho ⟨w1.heap.size, 0, none⟩ L L (bcells (enc 65533)) rfl ?c1 ?c2 ?c3 ?c4 ?c5 ?c6 ?_)
  case c1 => rw [bcells_length, HL.out, Nat.mul_one]
  case c2 => exact HBn.out
  case c3 => exact bcells_one _
  case c4 => unfold maxLen; omega
  case c5 => omega
  case c6 => simp
  intro v1 w3 hown1 hgrow1 _hne
  have hB4 := hB3.grown hgrow1 (by simp; omega) (fun k hk => by cases hk; show _ ≤ w1.heap.size + 1; omega)
  have hU := (Below.refl (w1.heap.size + 1) _).grown hgrow1 (by simp) (fun k hk => by cases hk; show _ ≤ w1.heap.size + 1; omega)
  have hbb := ((HBp.out w1).below ((Below.refl _ _).alloc (Nat.le_refl _) (.cells #[] 5))).under hU (by omega)
  have zU := hU.size
  simp at zU
  rw [← bcells_append, List.nil_append] at hown1
  have hown1 : w3.ownsRow (w1.heap.size + 1) 5 1 v1 L (bcells (enc 65533)) := by simpa using hown1
  obtain ⟨g1, cap1, rfl, hcap1⟩ : ∃ g cap, v1 = .slice (some ⟨g, 0, none⟩) L cap ∧ L ≤ cap := by
    rcases hown1.2 with ⟨_, k0⟩ | ⟨g, cap, cur, hv, _, _, hc, _⟩
    · omega
    · exact ⟨g, cap, hv, hc⟩
  have HBB := Lib.hid hbb
  clear hbb hU hgrow1 HBn ho
  have hsrc := (HM.out.below ((((Below.refl _ _).trans hB4)))) 
  obtain ⟨-, hsn⟩ := Bs_news hsrc
  have HSn := Lib.hid hsn
  clear hsn hsrc
  go_wp2_with (at_builtin; go_loud (refine wpList_append_own _ rfl _ _ 22 rfl (w1.heap.size + 1) 5 i0 (.int .u8 0) 1 1 Tryd.underlying22 hi hz0 hz1 hz2 rfl (by decide) _ _ _ rfl hown1 a n c (bcells more) rfl ?d1 ?d2 ?d3 ?d4 ?d5 ?d6 ?_))
  case d1 => rw [bcells_length, HMn.out, Nat.mul_one]
  case d2 => exact HSn.out
  case d3 => exact bcells_one _
  case d4 => unfold maxLen; omega
  case d5 => omega
  case d6 => omega
  intro v2 w4 hown2 hgrow2 _hne2
  have hB5 := hB4.grown hgrow2 (by omega) (fun k hk => by have := (hown1.lt k hk).1; omega)
  have HBB4 := HBB.out.under ((Below.refl (w1.heap.size + 1) _).grown hgrow2 (by omega) (fun k hk => (hown1.lt k hk).1)) (by omega)
  rw [← bcells_append] at hown2
  have HV : Hid (Bs w4 v2 (enc 65533 ++ more)) := Bs_own (B := w1.heap.size + 1) (by rw [List.length_append, ← HL.out, ← HMn.out]; exact hown2)
  have HLen : Hid ((enc 65533 ++ more).length ≤ maxLen) := by show _ ≤ maxLen; rw [List.length_append, ← HL.out, ← HMn.out]; unfold maxLen; omega
  have HOc : Hid (Oct (enc 65533 ++ more)) := fun x hx => (List.mem_append.1 hx).elim (HOe.out x) (HO.out x)
  have N1 := Next_any v2 (enc 65533 ++ more) w4 HOc.out HLen.out HV.out (HF.out.below hB5 HF.out.size)
  rw [HX1.out] at N1
  have NN1 := Lib.hid N1
  clear N1
  go_wp2_with (go_at_call 12; refine NN1.out.mono ?_; rintro e w6 ⟨rfl, hb6⟩)
  have hB6 := hB5.trans (hb6.mono hB5.size)
  have hbb6 := HBB4.below hb6
  have N2 := Next_any (.slice (some ⟨w1.heap.size, 0, none⟩) (L - 1) L) ((enc 65533).take (L - 1)) w6 (fun x hx => HOe.out x (List.mem_of_mem_take hx)) (by simp; unfold maxLen; omega)
    (Bs_take hbb6 (by rw [← HL.out]; omega)) (HF.out.below hB6 HF.out.size)
  rw [HX2.out] at N2
  refine N2.mono ?_
  rintro e w7 ⟨rfl, hb7⟩
  have hB7 := hB6.trans (hb7.mono hB6.size)
  have hbb7 := hbb6.below hb7
  have N3 := Check_any (.slice (some ⟨w1.heap.size, 0, none⟩) L L) (enc 65533) w7 HOe.out (by rw [← HL.out]; unfold maxLen; omega) hbb7 (HF.out.below hB7 HF.out.size)
  rw [HX3.out] at N3
  have NN3 := Lib.hid N3
  clear N2 N3 hbb6 hbb7
  go_wp2_with (go_at_call 16; refine NN3.out.mono ?_; rintro e w8 ⟨rfl, hb8⟩)
  go_ret
  exact ⟨rfl, hB7.trans (hb8.mono hB7.size)⟩

set_option maxHeartbeats 4000000 in
theorem back_half_nil (r : Int) (w : World) (hF : Forms w) (hr0 : 55296 ≤ r) (hr1 : r ≤ 57343)  :
    Calls Tryd.prog 5 #[.int .i32 r, .slice none 0 0] w fun e w' => e = .returned (.bool true) ∧ Below w.heap.size w w' := by
  obtain ⟨i0, hi, hz0, hz1, hz2⟩ := info_byte
  have hI : Hid (IsRune 65533) := (show IsRune 65533 by unfold IsRune; omega)
  have hfix : fixed r = 65533 := if_neg (by omega)
  have HP : Hid (∀ W, Calls Tryd.prog 22 #[.slice none 0 0, .int .i32 r] W fun e w' => e = .returned (.slice (some ⟨W.heap.size, 0, none⟩) (enc 65533).length (enc 65533).length) ∧ W.alloc (.cells (encCells 65533) 5) = w') := fun W => by
    have := PutNil_any r W; rw [hfix] at this; exact this
  have hl := enc_len 65533
  have hx1 := nxl_enc hI.out []
  have hx2 := nxl_short hI.out
  have hx3 := chk_enc hI.out
  have hOe := enc_oct hI.out
  have hBp := fun W => Bs_put W 65533
  clear hfix
  obtain ⟨L, hL⟩ : ∃ L, L = (enc 65533).length := ⟨_, rfl⟩
  rw [← hL] at HP hl hx1 hx2 hBp
  have HF := Lib.hid hF
  have H := Lib.hid (awake_any w hF)
  have HL := Lib.hid hL
  have HX1 := Lib.hid hx1
  have HX2 := Lib.hid hx2
  have HX3 := Lib.hid hx3
  have HOe := Lib.hid hOe
  have HBp := Lib.hid hBp
  clear hL hx1 hx2 hx3 hOe hBp
  obtain ⟨hl1, hl2⟩ := hl
  clear hF
  have d1 : decide (55296 ≤ r) = true := decide_eq_true hr0
  have d2 : decide (r ≤ 57343) = true := decide_eq_true hr1
  have b1 : ((L : Int) == L) = true := by simp
  have hmx : (max (0 : Int) ((L : Int) - 1)).toNat = L - 1 := by omega
  have q1 : decide ((1 : Int) ≤ L) = true := decide_eq_true (by omega)
  have q2 : decide ((L : Int) ≤ 4) = true := decide_eq_true (by omega)
  go_enter Tryd.func5, Tryd.ntmps5
  go_wp2_with (go_at_call 11; refine H.out.mono ?_; rintro e w1 ⟨rfl, hB1⟩)
  have z1 := hB1.size
  refine (HP.out w1).mono ?_
  rintro e w2 ⟨rfl, rfl⟩
  have hB2 := hB1.alloc z1 (.cells (encCells 65533) 5)
  have ho := own_empty (w1.alloc (.cells (encCells 65533) 5)) (w1.heap.size + 1) (by simp)
  have hB3 := hB2.alloc (by simp; omega) (.cells #[] 5)
  have hb3 := (HBp.out w1).below ((Below.refl _ _).alloc (Nat.le_refl _) (.cells #[] 5))
  obtain ⟨-, hbn⟩ := Bs_news hb3
  have HBn := Lib.hid hbn
  clear hbn hb3
  simp only [World.size_alloc] at ho
  go_wp2_with (at_builtin; refine wpList_append_own _ rfl _ _ 22 rfl (w1.heap.size + 1) 5 i0 (.int .u8 0) 1 1 Tryd.underlying22 hi hz0 hz1 hz2 rfl (by decide) _ _ _ rfl ho ⟨w1.heap.size, 0, none⟩ L L (bcells (enc 65533)) rfl ?c1 ?c2 ?c3 ?c4 ?c5 ?c6 ?_)
  case c1 => rw [bcells_length, HL.out, Nat.mul_one]
  case c2 => exact HBn.out
  case c3 => exact bcells_one _
  case c4 => unfold maxLen; omega
  case c5 => omega
  case c6 => simp
  intro v1 w3 hown1 hgrow1 _hne
  have hB4 := hB3.grown hgrow1 (by simp; omega) (fun k hk => by cases hk; show _ ≤ w1.heap.size + 1; omega)
  have hU := (Below.refl (w1.heap.size + 1) _).grown hgrow1 (by simp) (fun k hk => by cases hk; show _ ≤ w1.heap.size + 1; omega)
  have hbb := ((HBp.out w1).below ((Below.refl _ _).alloc (Nat.le_refl _) (.cells #[] 5))).under hU (by omega)
  have zU := hU.size
  simp at zU
  rw [← bcells_append, List.nil_append] at hown1
  have hown1 : w3.ownsRow (w1.heap.size + 1) 5 1 v1 L (bcells (enc 65533)) := by simpa using hown1
  obtain ⟨g1, cap1, rfl, hcap1⟩ : ∃ g cap, v1 = .slice (some ⟨g, 0, none⟩) L cap ∧ L ≤ cap := by
    rcases hown1.2 with ⟨_, k0⟩ | ⟨g, cap, cur, hv, _, _, hc, _⟩
    · omega
    · exact ⟨g, cap, hv, hc⟩
  have HBB := Lib.hid hbb
  clear hbb hU hgrow1 HBn ho
  go_wp2_with fail
  have HV : Hid (Bs w3 (.slice (some ⟨g1, 0, none⟩) L cap1) (enc 65533 ++ [])) := by
    show Bs w3 (.slice (some ⟨g1, 0, none⟩) L cap1) (enc 65533 ++ [])
    rw [List.append_nil]
    exact Bs_own (B := w1.heap.size + 1) (by rw [← HL.out]; exact hown1)
  have HLen : Hid ((enc 65533 ++ []).length ≤ maxLen) := by show _ ≤ maxLen; rw [List.append_nil, ← HL.out]; unfold maxLen; omega
  have HOc : Hid (Oct (enc 65533 ++ [])) := by show Oct _; rw [List.append_nil]; exact HOe.out
  have N1 := Next_any (.slice (some ⟨g1, 0, none⟩) L cap1) (enc 65533 ++ []) w3 HOc.out HLen.out HV.out (HF.out.below hB4 HF.out.size)
  rw [HX1.out] at N1
  have NN1 := Lib.hid N1
  clear N1
  go_wp2_with (go_at_call 12; refine NN1.out.mono ?_; rintro e w6 ⟨rfl, hb6⟩)
  have hB6 := hB4.trans (hb6.mono hB4.size)
  have hbb6 := HBB.out.below hb6
  have N2 := Next_any (.slice (some ⟨w1.heap.size, 0, none⟩) (L - 1) L) ((enc 65533).take (L - 1)) w6 (fun x hx => HOe.out x (List.mem_of_mem_take hx)) (by simp; unfold maxLen; omega)
    (Bs_take hbb6 (by rw [← HL.out]; omega)) (HF.out.below hB6 HF.out.size)
  rw [HX2.out] at N2
  refine N2.mono ?_
  rintro e w7 ⟨rfl, hb7⟩
  have hB7 := hB6.trans (hb7.mono hB6.size)
  have hbb7 := hbb6.below hb7
  have N3 := Check_any (.slice (some ⟨w1.heap.size, 0, none⟩) L L) (enc 65533) w7 HOe.out (by rw [← HL.out]; unfold maxLen; omega) hbb7 (HF.out.below hB7 HF.out.size)
  rw [HX3.out] at N3
  have NN3 := Lib.hid N3
  clear N2 N3 hbb6 hbb7
  go_wp2_with (go_at_call 16; refine NN3.out.mono ?_; rintro e w8 ⟨rfl, hb8⟩)
  go_ret
  exact ⟨rfl, hB7.trans (hb8.mono hB7.size)⟩

set_option maxHeartbeats 4000000 in
theorem back_half_some (r : Int) (w : World) (hF : Forms w) (hr0 : 55296 ≤ r) (hr1 : r ≤ 57343) (a : Addr) (n c : Nat) (more : List Int) (hO : Oct more) (hm : Bs w (.slice (some a) n c) more) (hn : n ≤ 300) :
    Calls Tryd.prog 5 #[.int .i32 r, .slice (some a) n c] w fun e w' => e = .returned (.bool true) ∧ Below w.heap.size w w' := by
  obtain ⟨i0, hi, hz0, hz1, hz2⟩ := info_byte
  have hI : Hid (IsRune 65533) := (show IsRune 65533 by unfold IsRune; omega)
  have hfix : fixed r = 65533 := if_neg (by omega)
  have HP : Hid (∀ W, Calls Tryd.prog 22 #[.slice none 0 0, .int .i32 r] W fun e w' => e = .returned (.slice (some ⟨W.heap.size, 0, none⟩) (enc 65533).length (enc 65533).length) ∧ W.alloc (.cells (encCells 65533) 5) = w') := fun W => by
    have := PutNil_any r W; rw [hfix] at this; exact this
  have hl := enc_len 65533
  have hx1 := nxl_enc hI.out more
  have hx2 := nxl_short hI.out
  have hx3 := chk_enc hI.out
  have hOe := enc_oct hI.out
  have hBp := fun W => Bs_put W 65533
  clear hfix
  obtain ⟨L, hL⟩ : ∃ L, L = (enc 65533).length := ⟨_, rfl⟩
  rw [← hL] at HP hl hx1 hx2 hBp
  have HF := Lib.hid hF
  have H := Lib.hid (awake_any w hF)
  have HL := Lib.hid hL
  have HX1 := Lib.hid hx1
  have HX2 := Lib.hid hx2
  have HX3 := Lib.hid hx3
  have HOe := Lib.hid hOe
  have HBp := Lib.hid hBp
  clear hL hx1 hx2 hx3 hOe hBp
  obtain ⟨hl1, hl2⟩ := hl
  have hmn := (Bs_news hm).1
  have HM := Lib.hid hm
  have HMn := Lib.hid hmn
  have HO := Lib.hid hO
  clear hm hmn hO
  clear hF
  have d1 : decide (55296 ≤ r) = true := decide_eq_true hr0
  have d2 : decide (r ≤ 57343) = true := decide_eq_true hr1
  have b1 : ((L : Int) == L) = true := by simp
  have hmx : (max (0 : Int) ((L : Int) - 1)).toNat = L - 1 := by omega
  have q1 : decide ((1 : Int) ≤ L) = true := decide_eq_true (by omega)
  have q2 : decide ((L : Int) ≤ 4) = true := decide_eq_true (by omega)
  go_enter Tryd.func5, Tryd.ntmps5
  go_wp2_with (go_at_call 11; refine H.out.mono ?_; rintro e w1 ⟨rfl, hB1⟩)
  have z1 := hB1.size
  refine (HP.out w1).mono ?_
  rintro e w2 ⟨rfl, rfl⟩
  have hB2 := hB1.alloc z1 (.cells (encCells 65533) 5)
  have ho := own_empty (w1.alloc (.cells (encCells 65533) 5)) (w1.heap.size + 1) (by simp)
  have hB3 := hB2.alloc (by simp; omega) (.cells #[] 5)
  have hb3 := (HBp.out w1).below ((Below.refl _ _).alloc (Nat.le_refl _) (.cells #[] 5))
  obtain ⟨-, hbn⟩ := Bs_news hb3
  have HBn := Lib.hid hbn
  clear hbn hb3
  simp only [World.size_alloc] at ho
  go_wp2_with (at_builtin; refine wpList_append_own _ rfl _ _ 22 rfl (w1.heap.size + 1) 5 i0 (.int .u8 0) 1 1 Tryd.underlying22 hi hz0 hz1 hz2 rfl (by decide) _ _ _ rfl ho ⟨w1.heap.size, 0, none⟩ L L (bcells (enc 65533)) rfl ?c1 ?c2 ?c3 ?c4 ?c5 ?c6 ?_)
  case c1 => rw [bcells_length, HL.out, Nat.mul_one]
  case c2 => exact HBn.out
  case c3 => exact bcells_one _
  case c4 => unfold maxLen; omega
  case c5 => omega
  case c6 => simp
  intro v1 w3 hown1 hgrow1 _hne
  have hB4 := hB3.grown hgrow1 (by simp; omega) (fun k hk => by cases hk; show _ ≤ w1.heap.size + 1; omega)
  have hU := (Below.refl (w1.heap.size + 1) _).grown hgrow1 (by simp) (fun k hk => by cases hk; show _ ≤ w1.heap.size + 1; omega)
  have hbb := ((HBp.out w1).below ((Below.refl _ _).alloc (Nat.le_refl _) (.cells #[] 5))).under hU (by omega)
  have zU := hU.size
  simp at zU
  rw [← bcells_append, List.nil_append] at hown1
  have hown1 : w3.ownsRow (w1.heap.size + 1) 5 1 v1 L (bcells (enc 65533)) := by simpa using hown1
  obtain ⟨g1, cap1, rfl, hcap1⟩ : ∃ g cap, v1 = .slice (some ⟨g, 0, none⟩) L cap ∧ L ≤ cap := by
    rcases hown1.2 with ⟨_, k0⟩ | ⟨g, cap, cur, hv, _, _, hc, _⟩
    · omega
    · exact ⟨g, cap, hv, hc⟩
  have HBB := Lib.hid hbb
  clear hbb hU hgrow1 HBn ho
  have hsrc := (HM.out.below ((((Below.refl _ _).trans hB4)))) 
  obtain ⟨-, hsn⟩ := Bs_news hsrc
  have HSn := Lib.hid hsn
  clear hsn hsrc
  go_wp2_with (at_builtin; go_loud (refine wpList_append_own _ rfl _ _ 22 rfl (w1.heap.size + 1) 5 i0 (.int .u8 0) 1 1 Tryd.underlying22 hi hz0 hz1 hz2 rfl (by decide) _ _ _ rfl hown1 a n c (bcells more) rfl ?d1 ?d2 ?d3 ?d4 ?d5 ?d6 ?_))
  case d1 => rw [bcells_length, HMn.out, Nat.mul_one]
  case d2 => exact HSn.out
  case d3 => exact bcells_one _
  case d4 => unfold maxLen; omega
  case d5 => omega
  case d6 => omega
  intro v2 w4 hown2 hgrow2 _hne2
  have hB5 := hB4.grown hgrow2 (by omega) (fun k hk => by have := (hown1.lt k hk).1; omega)
  have HBB4 := HBB.out.under ((Below.refl (w1.heap.size + 1) _).grown hgrow2 (by omega) (fun k hk => (hown1.lt k hk).1)) (by omega)
  rw [← bcells_append] at hown2
  have HV : Hid (Bs w4 v2 (enc 65533 ++ more)) := Bs_own (B := w1.heap.size + 1) (by rw [List.length_append, ← HL.out, ← HMn.out]; exact hown2)
  have HLen : Hid ((enc 65533 ++ more).length ≤ maxLen) := by show _ ≤ maxLen; rw [List.length_append, ← HL.out, ← HMn.out]; unfold maxLen; omega
  have HOc : Hid (Oct (enc 65533 ++ more)) := fun x hx => (List.mem_append.1 hx).elim (HOe.out x) (HO.out x)
  have N1 := Next_any v2 (enc 65533 ++ more) w4 HOc.out HLen.out HV.out (HF.out.below hB5 HF.out.size)
  rw [HX1.out] at N1
  have NN1 := Lib.hid N1
  clear N1
  go_wp2_with (go_at_call 12; refine NN1.out.mono ?_; rintro e w6 ⟨rfl, hb6⟩)
  have hB6 := hB5.trans (hb6.mono hB5.size)
  have hbb6 := HBB4.below hb6
  have N2 := Next_any (.slice (some ⟨w1.heap.size, 0, none⟩) (L - 1) L) ((enc 65533).take (L - 1)) w6 (fun x hx => HOe.out x (List.mem_of_mem_take hx)) (by simp; unfold maxLen; omega)
    (Bs_take hbb6 (by rw [← HL.out]; omega)) (HF.out.below hB6 HF.out.size)
  rw [HX2.out] at N2
  refine N2.mono ?_
  rintro e w7 ⟨rfl, hb7⟩
  have hB7 := hB6.trans (hb7.mono hB6.size)
  have hbb7 := hbb6.below hb7
  have N3 := Check_any (.slice (some ⟨w1.heap.size, 0, none⟩) L L) (enc 65533) w7 HOe.out (by rw [← HL.out]; unfold maxLen; omega) hbb7 (HF.out.below hB7 HF.out.size)
  rw [HX3.out] at N3
  have NN3 := Lib.hid N3
  clear N2 N3 hbb6 hbb7
  go_wp2_with (go_at_call 16; refine NN3.out.mono ?_; rintro e w8 ⟨rfl, hb8⟩)
  go_ret
  exact ⟨rfl, hB7.trans (hb8.mono hB7.size)⟩

set_option maxHeartbeats 4000000 in
theorem back_high_nil (r : Int) (w : World) (hF : Forms w) (hr : 1114111 < r)  :
    Calls Tryd.prog 5 #[.int .i32 r, .slice none 0 0] w fun e w' => e = .returned (.bool true) ∧ Below w.heap.size w w' := by
  obtain ⟨i0, hi, hz0, hz1, hz2⟩ := info_byte
  have hI : Hid (IsRune 65533) := (show IsRune 65533 by unfold IsRune; omega)
  have hfix : fixed r = 65533 := if_neg (by omega)
  have HP : Hid (∀ W, Calls Tryd.prog 22 #[.slice none 0 0, .int .i32 r] W fun e w' => e = .returned (.slice (some ⟨W.heap.size, 0, none⟩) (enc 65533).length (enc 65533).length) ∧ W.alloc (.cells (encCells 65533) 5) = w') := fun W => by
    have := PutNil_any r W; rw [hfix] at this; exact this
  have hl := enc_len 65533
  have hx1 := nxl_enc hI.out []
  have hx2 := nxl_short hI.out
  have hx3 := chk_enc hI.out
  have hOe := enc_oct hI.out
  have hBp := fun W => Bs_put W 65533
  clear hfix
  obtain ⟨L, hL⟩ : ∃ L, L = (enc 65533).length := ⟨_, rfl⟩
  rw [← hL] at HP hl hx1 hx2 hBp
  have HF := Lib.hid hF
  have H := Lib.hid (awake_any w hF)
  have HL := Lib.hid hL
  have HX1 := Lib.hid hx1
  have HX2 := Lib.hid hx2
  have HX3 := Lib.hid hx3
  have HOe := Lib.hid hOe
  have HBp := Lib.hid hBp
  clear hL hx1 hx2 hx3 hOe hBp
  obtain ⟨hl1, hl2⟩ := hl
  clear hF
  have b1 : ((L : Int) == L) = true := by simp
  have hmx : (max (0 : Int) ((L : Int) - 1)).toNat = L - 1 := by omega
  have q1 : decide ((1 : Int) ≤ L) = true := decide_eq_true (by omega)
  have q2 : decide ((L : Int) ≤ 4) = true := decide_eq_true (by omega)
  go_enter Tryd.func5, Tryd.ntmps5
  go_wp2_with (go_at_call 11; refine H.out.mono ?_; rintro e w1 ⟨rfl, hB1⟩)
  have z1 := hB1.size
  refine (HP.out w1).mono ?_
  rintro e w2 ⟨rfl, rfl⟩
  have hB2 := hB1.alloc z1 (.cells (encCells 65533) 5)
  have ho := own_empty (w1.alloc (.cells (encCells 65533) 5)) (w1.heap.size + 1) (by simp)
  have hB3 := hB2.alloc (by simp; omega) (.cells #[] 5)
  have hb3 := (HBp.out w1).below ((Below.refl _ _).alloc (Nat.le_refl _) (.cells #[] 5))
  obtain ⟨-, hbn⟩ := Bs_news hb3
  have HBn := Lib.hid hbn
  clear hbn hb3
  simp only [World.size_alloc] at ho
  go_wp2_with (at_builtin; refine wpList_append_own _ rfl _ _ 22 rfl (w1.heap.size + 1) 5 i0 (.int .u8 0) 1 1 Tryd.underlying22 hi hz0 hz1 hz2 rfl (by decide) _ _ _ rfl ho ⟨w1.heap.size, 0, none⟩ L L (bcells (enc 65533)) rfl ?c1 ?c2 ?c3 ?c4 ?c5 ?c6 ?_)
  case c1 => rw [bcells_length, HL.out, Nat.mul_one]
  case c2 => exact HBn.out
  case c3 => exact bcells_one _
  case c4 => unfold maxLen; omega
  case c5 => omega
  case c6 => simp
  intro v1 w3 hown1 hgrow1 _hne
  have hB4 := hB3.grown hgrow1 (by simp; omega) (fun k hk => by cases hk; show _ ≤ w1.heap.size + 1; omega)
  have hU := (Below.refl (w1.heap.size + 1) _).grown hgrow1 (by simp) (fun k hk => by cases hk; show _ ≤ w1.heap.size + 1; omega)
  have hbb := ((HBp.out w1).below ((Below.refl _ _).alloc (Nat.le_refl _) (.cells #[] 5))).under hU (by omega)
  have zU := hU.size
  simp at zU
  rw [← bcells_append, List.nil_append] at hown1
  have hown1 : w3.ownsRow (w1.heap.size + 1) 5 1 v1 L (bcells (enc 65533)) := by simpa using hown1
  obtain ⟨g1, cap1, rfl, hcap1⟩ : ∃ g cap, v1 = .slice (some ⟨g, 0, none⟩) L cap ∧ L ≤ cap := by
    rcases hown1.2 with ⟨_, k0⟩ | ⟨g, cap, cur, hv, _, _, hc, _⟩
    · omega
    · exact ⟨g, cap, hv, hc⟩
  have HBB := Lib.hid hbb
  clear hbb hU hgrow1 HBn ho
  go_wp2_with fail
  have HV : Hid (Bs w3 (.slice (some ⟨g1, 0, none⟩) L cap1) (enc 65533 ++ [])) := by
    show Bs w3 (.slice (some ⟨g1, 0, none⟩) L cap1) (enc 65533 ++ [])
    rw [List.append_nil]
    exact Bs_own (B := w1.heap.size + 1) (by rw [← HL.out]; exact hown1)
  have HLen : Hid ((enc 65533 ++ []).length ≤ maxLen) := by show _ ≤ maxLen; rw [List.append_nil, ← HL.out]; unfold maxLen; omega
  have HOc : Hid (Oct (enc 65533 ++ [])) := by show Oct _; rw [List.append_nil]; exact HOe.out
  have N1 := Next_any (.slice (some ⟨g1, 0, none⟩) L cap1) (enc 65533 ++ []) w3 HOc.out HLen.out HV.out (HF.out.below hB4 HF.out.size)
  rw [HX1.out] at N1
  have NN1 := Lib.hid N1
  clear N1
  go_wp2_with (go_at_call 12; refine NN1.out.mono ?_; rintro e w6 ⟨rfl, hb6⟩)
  have hB6 := hB4.trans (hb6.mono hB4.size)
  have hbb6 := HBB.out.below hb6
  have N2 := Next_any (.slice (some ⟨w1.heap.size, 0, none⟩) (L - 1) L) ((enc 65533).take (L - 1)) w6 (fun x hx => HOe.out x (List.mem_of_mem_take hx)) (by simp; unfold maxLen; omega)
    (Bs_take hbb6 (by rw [← HL.out]; omega)) (HF.out.below hB6 HF.out.size)
  rw [HX2.out] at N2
  refine N2.mono ?_
  rintro e w7 ⟨rfl, hb7⟩
  have hB7 := hB6.trans (hb7.mono hB6.size)
  have hbb7 := hbb6.below hb7
  have N3 := Check_any (.slice (some ⟨w1.heap.size, 0, none⟩) L L) (enc 65533) w7 HOe.out (by rw [← HL.out]; unfold maxLen; omega) hbb7 (HF.out.below hB7 HF.out.size)
  rw [HX3.out] at N3
  have NN3 := Lib.hid N3
  clear N2 N3 hbb6 hbb7
  go_wp2_with (go_at_call 16; refine NN3.out.mono ?_; rintro e w8 ⟨rfl, hb8⟩)
  go_ret
  exact ⟨rfl, hB7.trans (hb8.mono hB7.size)⟩

set_option maxHeartbeats 4000000 in
theorem back_high_some (r : Int) (w : World) (hF : Forms w) (hr : 1114111 < r) (a : Addr) (n c : Nat) (more : List Int) (hO : Oct more) (hm : Bs w (.slice (some a) n c) more) (hn : n ≤ 300) :
    Calls Tryd.prog 5 #[.int .i32 r, .slice (some a) n c] w fun e w' => e = .returned (.bool true) ∧ Below w.heap.size w w' := by
  obtain ⟨i0, hi, hz0, hz1, hz2⟩ := info_byte
  have hI : Hid (IsRune 65533) := (show IsRune 65533 by unfold IsRune; omega)
  have hfix : fixed r = 65533 := if_neg (by omega)
  have HP : Hid (∀ W, Calls Tryd.prog 22 #[.slice none 0 0, .int .i32 r] W fun e w' => e = .returned (.slice (some ⟨W.heap.size, 0, none⟩) (enc 65533).length (enc 65533).length) ∧ W.alloc (.cells (encCells 65533) 5) = w') := fun W => by
    have := PutNil_any r W; rw [hfix] at this; exact this
  have hl := enc_len 65533
  have hx1 := nxl_enc hI.out more
  have hx2 := nxl_short hI.out
  have hx3 := chk_enc hI.out
  have hOe := enc_oct hI.out
  have hBp := fun W => Bs_put W 65533
  clear hfix
  obtain ⟨L, hL⟩ : ∃ L, L = (enc 65533).length := ⟨_, rfl⟩
  rw [← hL] at HP hl hx1 hx2 hBp
  have HF := Lib.hid hF
  have H := Lib.hid (awake_any w hF)
  have HL := Lib.hid hL
  have HX1 := Lib.hid hx1
  have HX2 := Lib.hid hx2
  have HX3 := Lib.hid hx3
  have HOe := Lib.hid hOe
  have HBp := Lib.hid hBp
  clear hL hx1 hx2 hx3 hOe hBp
  obtain ⟨hl1, hl2⟩ := hl
  have hmn := (Bs_news hm).1
  have HM := Lib.hid hm
  have HMn := Lib.hid hmn
  have HO := Lib.hid hO
  clear hm hmn hO
  clear hF
  have b1 : ((L : Int) == L) = true := by simp
  have hmx : (max (0 : Int) ((L : Int) - 1)).toNat = L - 1 := by omega
  have q1 : decide ((1 : Int) ≤ L) = true := decide_eq_true (by omega)
  have q2 : decide ((L : Int) ≤ 4) = true := decide_eq_true (by omega)
  go_enter Tryd.func5, Tryd.ntmps5
  go_wp2_with (go_at_call 11; refine H.out.mono ?_; rintro e w1 ⟨rfl, hB1⟩)
  have z1 := hB1.size
  refine (HP.out w1).mono ?_
  rintro e w2 ⟨rfl, rfl⟩
  have hB2 := hB1.alloc z1 (.cells (encCells 65533) 5)
  have ho := own_empty (w1.alloc (.cells (encCells 65533) 5)) (w1.heap.size + 1) (by simp)
  have hB3 := hB2.alloc (by simp; omega) (.cells #[] 5)
  have hb3 := (HBp.out w1).below ((Below.refl _ _).alloc (Nat.le_refl _) (.cells #[] 5))
  obtain ⟨-, hbn⟩ := Bs_news hb3
  have HBn := Lib.hid hbn
  clear hbn hb3
  simp only [World.size_alloc] at ho
  go_wp2_with (at_builtin; refine wpList_append_own _ rfl _ _ 22 rfl (w1.heap.size + 1) 5 i0 (.int .u8 0) 1 1 Tryd.underlying22 hi hz0 hz1 hz2 rfl (by decide) _ _ _ rfl ho ⟨w1.heap.size, 0, none⟩ L L (bcells (enc 65533)) rfl ?c1 ?c2 ?c3 ?c4 ?c5 ?c6 ?_)
  case c1 => rw [bcells_length, HL.out, Nat.mul_one]
  case c2 => exact HBn.out
  case c3 => exact bcells_one _
  case c4 => unfold maxLen; omega
  case c5 => omega
  case c6 => simp
  intro v1 w3 hown1 hgrow1 _hne
  have hB4 := hB3.grown hgrow1 (by simp; omega) (fun k hk => by cases hk; show _ ≤ w1.heap.size + 1; omega)
  have hU := (Below.refl (w1.heap.size + 1) _).grown hgrow1 (by simp) (fun k hk => by cases hk; show _ ≤ w1.heap.size + 1; omega)
  have hbb := ((HBp.out w1).below ((Below.refl _ _).alloc (Nat.le_refl _) (.cells #[] 5))).under hU (by omega)
  have zU := hU.size
  simp at zU
  rw [← bcells_append, List.nil_append] at hown1
  have hown1 : w3.ownsRow (w1.heap.size + 1) 5 1 v1 L (bcells (enc 65533)) := by simpa using hown1
  obtain ⟨g1, cap1, rfl, hcap1⟩ : ∃ g cap, v1 = .slice (some ⟨g, 0, none⟩) L cap ∧ L ≤ cap := by
    rcases hown1.2 with ⟨_, k0⟩ | ⟨g, cap, cur, hv, _, _, hc, _⟩
    · omega
    · exact ⟨g, cap, hv, hc⟩
  have HBB := Lib.hid hbb
  clear hbb hU hgrow1 HBn ho
  have hsrc := (HM.out.below ((((Below.refl _ _).trans hB4)))) 
  obtain ⟨-, hsn⟩ := Bs_news hsrc
  have HSn := Lib.hid hsn
  clear hsn hsrc
  go_wp2_with (at_builtin; go_loud (refine wpList_append_own _ rfl _ _ 22 rfl (w1.heap.size + 1) 5 i0 (.int .u8 0) 1 1 Tryd.underlying22 hi hz0 hz1 hz2 rfl (by decide) _ _ _ rfl hown1 a n c (bcells more) rfl ?d1 ?d2 ?d3 ?d4 ?d5 ?d6 ?_))
  case d1 => rw [bcells_length, HMn.out, Nat.mul_one]
  case d2 => exact HSn.out
  case d3 => exact bcells_one _
  case d4 => unfold maxLen; omega
  case d5 => omega
  case d6 => omega
  intro v2 w4 hown2 hgrow2 _hne2
  have hB5 := hB4.grown hgrow2 (by omega) (fun k hk => by have := (hown1.lt k hk).1; omega)
  have HBB4 := HBB.out.under ((Below.refl (w1.heap.size + 1) _).grown hgrow2 (by omega) (fun k hk => (hown1.lt k hk).1)) (by omega)
  rw [← bcells_append] at hown2
  have HV : Hid (Bs w4 v2 (enc 65533 ++ more)) := Bs_own (B := w1.heap.size + 1) (by rw [List.length_append, ← HL.out, ← HMn.out]; exact hown2)
  have HLen : Hid ((enc 65533 ++ more).length ≤ maxLen) := by show _ ≤ maxLen; rw [List.length_append, ← HL.out, ← HMn.out]; unfold maxLen; omega
  have HOc : Hid (Oct (enc 65533 ++ more)) := fun x hx => (List.mem_append.1 hx).elim (HOe.out x) (HO.out x)
  have N1 := Next_any v2 (enc 65533 ++ more) w4 HOc.out HLen.out HV.out (HF.out.below hB5 HF.out.size)
  rw [HX1.out] at N1
  have NN1 := Lib.hid N1
  clear N1
  go_wp2_with (go_at_call 12; refine NN1.out.mono ?_; rintro e w6 ⟨rfl, hb6⟩)
  have hB6 := hB5.trans (hb6.mono hB5.size)
  have hbb6 := HBB4.below hb6
  have N2 := Next_any (.slice (some ⟨w1.heap.size, 0, none⟩) (L - 1) L) ((enc 65533).take (L - 1)) w6 (fun x hx => HOe.out x (List.mem_of_mem_take hx)) (by simp; unfold maxLen; omega)
    (Bs_take hbb6 (by rw [← HL.out]; omega)) (HF.out.below hB6 HF.out.size)
  rw [HX2.out] at N2
  refine N2.mono ?_
  rintro e w7 ⟨rfl, hb7⟩
  have hB7 := hB6.trans (hb7.mono hB6.size)
  have hbb7 := hbb6.below hb7
  have N3 := Check_any (.slice (some ⟨w1.heap.size, 0, none⟩) L L) (enc 65533) w7 HOe.out (by rw [← HL.out]; unfold maxLen; omega) hbb7 (HF.out.below hB7 HF.out.size)
  rw [HX3.out] at N3
  have NN3 := Lib.hid N3
  clear N2 N3 hbb6 hbb7
  go_wp2_with (go_at_call 16; refine NN3.out.mono ?_; rintro e w8 ⟨rfl, hb8⟩)
  go_ret
  exact ⟨rfl, hB7.trans (hb8.mono hB7.size)⟩
end Go.Proofs.YtbajejhhmacflaaDoor.utf
