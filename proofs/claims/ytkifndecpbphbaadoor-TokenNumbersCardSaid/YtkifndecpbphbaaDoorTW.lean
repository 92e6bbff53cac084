/- Texts that agree on their first bytes: texts in signs, signs; the first token of a text with white behind it, and of its own bytes alone. -/
import Derived.Test.YtkifndecpbphbaaDoorTV
namespace Go.Proofs.YtkifndecpbphbaaDoor.dk
open Go.PlainAid Go.ChangeShapes Go.WideShapes Go.ChangeAt Go.RowKit

theorem hxk_ag {a b : List Int} (h : Ag 5 a b) : ∀ k, k ≤ 4 → utf.hxk b k = utf.hxk a k
  | 0, _ => rfl
  | k + 1, hk => by
    have e : utf.gl b (k + 1) = utf.gl a (k + 1) := h.at (by omega)
    unfold utf.hxk
    rw [hxk_ag h k (by omega), e]
theorem dig_ag {a b : List Int} (h : Ag 5 a b) : utf.dig b = utf.dig a := by
  have e : utf.gl b 0 = utf.gl a 0 := h.at (by omega)
  unfold utf.dig
  rw [if_neg (c := b.length < 5) (by have := h.2.1; omega), if_neg (c := a.length < 5) (by have := h.1; omega), e, hxk_ag h 4 (Nat.le_refl _)]
theorem escn_ag {a b : List Int} (h0 : (utf.escn a).2 ≠ 0) (h : Ag (utf.escn a).2.toNat a b) : utf.escn b = utf.escn a := by
  unfold utf.escn at h0 h
  by_cases c1 : (utf.dig a).2 = false ∨ (56320 ≤ (utf.dig a).1 ∧ (utf.dig a).1 ≤ 57343)
  · rw [if_pos c1] at h0; exact absurd rfl h0
  rw [if_neg c1] at h0 h
  by_cases c2 : (utf.dig a).1 < 55296 ∨ 57343 < (utf.dig a).1
  · rw [if_pos c2] at h
    have e := dig_ag h
    unfold utf.escn
    rw [e, if_neg c1, if_neg c1, if_pos c2, if_pos c2]
  rw [if_neg c2] at h0 h
  by_cases c3 : a.length < 6 ∨ utf.gl a 5 ≠ 92
  · rw [if_pos c3] at h0; exact absurd rfl h0
  rw [if_neg c3] at h0 h
  by_cases c4 : (utf.dig (a.drop 6)).2 = false ∨ (utf.dig (a.drop 6)).1 < 56320 ∨ 57343 < (utf.dig (a.drop 6)).1
  · rw [if_pos c4] at h0; exact absurd rfl h0
  rw [if_neg c4] at h
  have h11 : Ag 11 a b := h
  have e := dig_ag (h11.less (by omega))
  have e6 := dig_ag (h11.drop (p := 6) (q := 5))
  have e5 : utf.gl b 5 = utf.gl a 5 := h11.at (by omega)
  have c3b : ¬ (b.length < 6 ∨ utf.gl a 5 ≠ 92) := by have := h11.2.1; omega
  unfold utf.escn
  rw [e, e6, e5, if_neg c1, if_neg c1, if_neg c2, if_neg c2, if_neg c3, if_neg c3b]
theorem esc_ag {a b : List Int} (h0 : (utf.esc a).2 ≠ 0) (h : Ag (utf.esc a).2.toNat a b) : utf.esc b = utf.esc a := by
  have hr := esc_range a
  have e : utf.gl b 0 = utf.gl a 0 := h.at (by omega)
  have ha : a.length ≠ 0 := by have := h.1; omega
  have hb : b.length ≠ 0 := by have := h.2.1; omega
  by_cases hx : ¬ utf.gl a 0 = 34 ∧ ¬ utf.gl a 0 = 47 ∧ ¬ utf.gl a 0 = 92 ∧ ¬ utf.gl a 0 = 98 ∧ ¬ utf.gl a 0 = 102 ∧ ¬ utf.gl a 0 = 110 ∧ ¬ utf.gl a 0 = 114 ∧ ¬ utf.gl a 0 = 116
  · have h1 := utf.esc_other ha hx
    rw [h1] at h0 h
    rw [h1, utf.esc_other hb (by rw [e]; exact hx)]
    exact escn_ag h0 h
  · unfold utf.esc
    rw [e, if_neg ha, if_neg hb]
    repeat' split
    all_goals first | rfl | exact absurd ⟨by omega, by omega, by omega, by omega, by omega, by omega, by omega, by omega⟩ hx
theorem inText_ag {a b : List Int} (hO : utf.Oct a) (sg : Int) (h0 : (inTextL a sg).2 ≠ 0) (h : Ag (inTextL a sg).2 a b) : inTextL b sg = inTextL a sg := by
  have e0 : b.getD 0 0 = a.getD 0 0 := h.at (by omega)
  unfold inTextL at h0 h
  by_cases c1 : a.getD 0 0 < 32
  · rw [if_pos c1] at h0; exact absurd rfl h0
  rw [if_neg c1] at h0 h
  by_cases c2 : a.getD 0 0 ≠ 92
  · rw [if_pos c2] at h0 h
    have hz : (utf.nxl a).2 ≠ 0 := fun e => h0 (by show (utf.nxl a).2.toNat = 0; omega)
    have e := nxl_ag hO hz h
    have ht : a.take (utf.nxl a).2.toNat = b.take (utf.nxl a).2.toNat := h.2.2
    unfold inTextL
    rw [e0, e, if_neg c1, if_neg c1, if_pos c2, if_pos c2, ht]
  rw [if_neg c2] at h0 h
  by_cases c3 : a.length = 1
  · rw [if_pos c3] at h0; exact absurd rfl h0
  rw [if_neg c3] at h0 h
  have he2 : ∀ x : Nat, Ag (2 + x) a b → b.getD 1 0 = a.getD 1 0 ∧ ¬ b.length = 1 := fun x hx => ⟨hx.at (by omega), by have := hx.2.1; omega⟩
  by_cases c4 : a.getD 1 0 = sg
  · rw [if_pos c4] at h
    obtain ⟨e1, hb⟩ := he2 0 h
    unfold inTextL
    rw [e0, e1, if_neg c1, if_neg c1, if_neg c2, if_neg c2, if_neg c3, if_neg hb, if_pos c4, if_pos c4]
  rw [if_neg c4] at h0 h
  by_cases c5 : a.getD 1 0 = 39 ∨ a.getD 1 0 = 34
  · rw [if_pos c5] at h0; exact absurd rfl h0
  rw [if_neg c5] at h0 h
  by_cases c6 : (utf.esc ((a.drop 1).take 11)).2 = 0
  · rw [if_pos c6] at h0; exact absurd rfl h0
  rw [if_neg c6] at h
  have hr := esc_range ((a.drop 1).take 11)
  have h' : Ag (1 + (utf.esc ((a.drop 1).take 11)).2.toNat) a b := h
  obtain ⟨e1, hb⟩ := he2 ((utf.esc ((a.drop 1).take 11)).2.toNat - 1) (by rw [show 2 + ((utf.esc ((a.drop 1).take 11)).2.toNat - 1) = 1 + (utf.esc ((a.drop 1).take 11)).2.toNat by omega]; exact h')
  have e := esc_ag c6 (h'.drop.cut (q := 11) (by omega))
  unfold inTextL
  rw [e0, e1, e, if_neg c1, if_neg c1, if_neg c2, if_neg c2, if_neg c3, if_neg hb]
theorem text_ag : ∀ (N : Nat) {a b : List Int}, a.length ≤ N → utf.Oct a → ∀ (sg : Int) (q : List Int × Nat), textT a sg = some q → Ag q.2 a b → textT b sg = some q := by
  intro N
  induction N with
  | zero =>
    intro a b hN _ sg q h _
    have ha : a = [] := List.length_eq_zero_iff.1 (Nat.le_zero.1 hN)
    subst ha
    cases h
  | succ N ih =>
    intro a b hN hO sg q h hA
    by_cases ha : a = []
    · subst ha; cases h
    have hp := oct_pos ha
    rw [textT_step ha] at h
    have hq1 : 1 ≤ q.2 := by
      split at h
      · injection h with h; subst h; exact Nat.le_refl _
      · split at h
        · cases h
        · rename_i hz
          obtain ⟨q2, _, rfl⟩ := Option.map_eq_some_iff.1 h
          show 1 ≤ (inTextL a sg).2 + q2.2
          omega
    have hb : b ≠ [] := fun e => by have := hA.2.1; rw [e] at this; simp at this; omega
    have e0 : b.getD 0 0 = a.getD 0 0 := hA.at (by omega)
    rw [textT_step hb, e0]
    split at h
    · rename_i hs; rw [if_pos hs]; exact h
    · rename_i hs
      split at h
      · cases h
      · rename_i hz
        obtain ⟨q2, hq2, rfl⟩ := Option.map_eq_some_iff.1 h
        have hA' : Ag ((inTextL a sg).2 + q2.2) a b := hA
        have e := inText_ag hO sg hz (hA'.less (Nat.le_add_right _ _))
        rw [if_neg hs, e, if_neg hz, ih (by rw [List.length_drop]; omega) (hO.drop _) sg q2 hq2 hA'.drop]
        rfl

/-! signs -/
def dblL (l : List Int) : Bool := decide (1 < l.length) && (!decide (l.getD 0 0 = 32)) && (!decide (l.getD 1 0 = 32)) && Lib.contains dbls.data.toList ((l.take 2).map fun n => UInt8.ofNat n.toNat)
def sglL (l : List Int) : Bool := decide (0 ≤ Lib.indexByte sgls.data.toList (l.getD 0 0).toNat.toUInt8)
theorem isDbl_L {l : List Int} (h : utf.Oct l) : isDbl (strOf l) = dblL l := by
  unfold isDbl dblL
  rw [unstr_strOf l h, strOf_size, cut_strOf, unstr_strOf l h, strOf_data]
theorem isSgl_L {l : List Int} (h : utf.Oct l) : isSgl (strOf l) = sglL l := by
  unfold isSgl sglL
  rw [unstr_strOf l h]
theorem signL_eq {l : List Int} (h : utf.Oct l) : signL l = if dblL l = true then ⟨⟨4, l.take 2, false, ⟨#[]⟩, 0⟩, 2, 0⟩ else if sglL l = true then ⟨⟨4, l.take 1, false, ⟨#[]⟩, 0⟩, 1, 0⟩ else Fs.bad 2 := by
  unfold signL
  rw [isDbl_L h, isSgl_L h]
theorem dbl_ten : ∀ n : Fin 256, Lib.contains dbls.data.toList [UInt8.ofNat n.val, 10] = false := by decide +kernel
theorem dblL_ag {a b : List Int} (h : Ag 2 a b) : dblL b = dblL a := by
  unfold dblL
  rw [h.at (show 0 < 2 by decide), h.at (show 1 < 2 by decide), h.2.2, show decide (1 < b.length) = true from decide_eq_true (by have := h.2.1; omega), show decide (1 < a.length) = true from decide_eq_true (by have := h.1; omega)]
theorem sglL_ag {a b : List Int} (h : Ag 1 a b) : sglL b = sglL a := by
  unfold sglL
  rw [h.at (show 0 < 1 by decide)]
theorem dblL_short {l : List Int} (h : l.length ≤ 1) : dblL l = false := by
  unfold dblL
  rw [show decide (1 < l.length) = false from decide_eq_false (by omega)]
  rfl
theorem dblL_ten {l m : List Int} (hO : utf.Oct l) (h : l.length = 1) : dblL (l ++ 10 :: m) = false := by
  obtain ⟨x, rfl⟩ : ∃ x, l = [x] := by
    match l, h with
    | [x], _ => exact ⟨x, rfl⟩
  have hx := hO x (by simp)
  have e := dbl_ten ⟨x.toNat, by omega⟩
  unfold dblL
  show (_ && Lib.contains dbls.data.toList [UInt8.ofNat x.toNat, 10]) = false
  rw [e, Bool.and_false]

/-! the first token -/
theorem oct_app {l m : List Int} (h1 : utf.Oct l) (h2 : utf.Oct m) : utf.Oct (l ++ m) := fun x hx => (List.mem_append.1 hx).elim (h1 x) (h2 x)
theorem oct_cons {c : Int} {m : List Int} (h1 : 0 ≤ c ∧ c ≤ 255) (h2 : utf.Oct m) : utf.Oct (c :: m) := fun x hx => by
  rcases List.mem_cons.1 hx with rfl | hx
  · exact h1
  · exact h2 x hx
/-- White behind a text says nothing of its first token. -/
theorem first_app {l m : List Int} (hO : utf.Oct l) (hm : utf.Oct m) (hn : l ≠ []) (he : (firstFs l).e = 0) : firstFs (l ++ 10 :: m) = firstFs l := by
  have hp := oct_pos hn
  have hOt : utf.Oct (l ++ 10 :: m) := oct_app hO (oct_cons (by decide) hm)
  have hnt : l ++ 10 :: m ≠ [] := fun e => by have := congrArg List.length e; rw [List.length_append] at this; simp at this
  have e0 : (l ++ 10 :: m).getD 0 0 = l.getD 0 0 := app_at hp
  unfold firstFs at he ⊢
  rw [if_neg hn] at he
  rw [if_neg hnt, if_neg hn, e0]
  have hnum : (isDig (l.getD 0 0) = true ∨ (l.getD 0 0 = 45 ∧ 1 < (l ++ 10 :: m).length ∧ isDig ((l ++ 10 :: m).getD 1 0) = true)) ↔ (isDig (l.getD 0 0) = true ∨ (l.getD 0 0 = 45 ∧ 1 < l.length ∧ isDig (l.getD 1 0) = true)) := by
    by_cases h1 : 1 < l.length
    · rw [app_at h1]
      exact ⟨fun h => h.imp id fun h => ⟨h.1, h1, h.2.2⟩, fun h => h.imp id fun h => ⟨h.1, by rw [List.length_append]; omega, h.2.2⟩⟩
    · have h1' : l.length = 1 := by omega
      have e1 : (l ++ 10 :: m).getD 1 0 = 10 := by rw [← h1']; exact app_end l 10 m
      rw [e1]
      exact ⟨fun h => h.imp id fun h => absurd h.2.2 (by decide), fun h => h.imp id fun h => absurd h.2.1 h1⟩
  split
  · rename_i hb
    rw [if_pos hb] at he
    unfold nameFs at he ⊢
    cases hN : nameL l with
    | none => rw [hN] at he; cases he
    | some n =>
      have hle := nameL_le hO hN
      have hs := name_stop l.length (Nat.le_refl _) hO n hN
      have hst : Stop (l ++ 10 :: m) n := by
        refine .inr ⟨by rw [List.length_append, List.length_cons]; omega, ?_⟩
        rcases hs with hs | ⟨h1, h2, h3⟩
        · rw [hs, app_end]
          exact ⟨by decide, by decide⟩
        · rw [app_at h1]
          exact ⟨h2, h3⟩
      rw [name_ag l.length (Nat.le_refl _) hO hOt n hN (Ag.app _ hle) hst]
      dsimp only
      rw [List.take_append_of_le_length hle]
  · rename_i hb
    rw [if_neg hb] at he
    by_cases hd : isDig (l.getD 0 0) = true ∨ (l.getD 0 0 = 45 ∧ 1 < l.length ∧ isDig (l.getD 1 0) = true)
    · rw [if_pos (hnum.2 hd), if_pos hd]
      unfold numberFs
      rw [numL_app, List.take_append_of_le_length (numL_le l)]
    · rw [if_neg (fun h => hd (hnum.1 h)), if_neg hd]
      rw [if_neg hd] at he
      split
      · rename_i hq
        rw [if_pos hq] at he
        unfold textFs at he ⊢
        rw [textL_T] at he
        rw [textL_T, textL_T, e0, List.drop_append_of_le_length hp]
        cases hT : textT (l.drop 1) (l.getD 0 0) with
        | none => rw [hT] at he; cases he
        | some q =>
          have hle := (textF_le _ (hO.drop 1) _ _ hT).2
          rw [text_ag (l.drop 1).length (Nat.le_refl _) (hO.drop 1) _ q hT (Ag.app _ hle)]
      · rename_i hq
        rw [if_neg hq, signL_eq hO] at he
        rw [signL_eq hOt, signL_eq hO, sglL_ag (Ag.app (10 :: m) hp)]
        by_cases h2 : 2 ≤ l.length
        · rw [dblL_ag (Ag.app (10 :: m) h2), List.take_append_of_le_length h2, List.take_append_of_le_length hp]
        · rw [dblL_ten hO (by omega), dblL_short (l := l) (by omega), List.take_append_of_le_length hp]
          rfl
theorem numL_two {l : List Int} (h1 : 1 < l.length) (h0 : inNum l 0 = true) (hi : inNum l 1 = true) : 2 ≤ numL l := by
  unfold numL
  rw [numF_go (by omega) h0 (by omega), numF_go h1 hi (by omega)]
  exact (numF_le _ l 2 (by omega)).1
/-- A token by itself is it again. -/
theorem first_take {l : List Int} (hO : utf.Oct l) (hn : l ≠ []) (he : (firstFs l).e = 0) : firstFs (l.take (firstFs l).n) = firstFs l := by
  have hp := oct_pos hn
  have hok := first_ok hO
  have hn1 := (hok.2.1 he hn).2
  have hle := hok.1
  have hOt : utf.Oct (l.take (firstFs l).n) := oct_take hO _
  have hlen : (l.take (firstFs l).n).length = (firstFs l).n := by rw [List.length_take]; omega
  have hAg : Ag (firstFs l).n l (l.take (firstFs l).n) := Ag.take hle
  have hnt : l.take (firstFs l).n ≠ [] := fun e => by rw [e] at hlen; simp at hlen; omega
  have e0 : (l.take (firstFs l).n).getD 0 0 = l.getD 0 0 := hAg.at (by omega)
  obtain ⟨F, hF⟩ : ∃ F, F = firstFs l := ⟨_, rfl⟩
  rw [← hF] at he hn1 hle hOt hlen hAg hnt e0 ⊢
  have hF' := hF
  unfold firstFs at hF
  rw [if_neg hn] at hF
  unfold firstFs
  rw [if_neg hnt, e0]
  by_cases hb : bgn (l.getD 0 0) = true
  · rw [if_pos hb] at hF ⊢
    unfold nameFs at hF ⊢
    cases hN : nameL l with
    | none => rw [hN] at hF; rw [hF] at he; cases he
    | some n =>
      rw [hN] at hF
      have hFn : F.n = n := by rw [hF]
      rw [hFn] at hAg hOt hlen ⊢
      rw [name_ag l.length (Nat.le_refl _) hO hOt n hN hAg (.inl hlen.symm), hF]
      dsimp only
      rw [List.take_take, Nat.min_self]
  rw [if_neg hb] at hF ⊢
  by_cases hd : isDig (l.getD 0 0) = true ∨ (l.getD 0 0 = 45 ∧ 1 < l.length ∧ isDig (l.getD 1 0) = true)
  · rw [if_pos hd] at hF
    unfold numberFs at hF
    by_cases hq : (parseQ (strOf (l.take (numL l)))).er = 0
    · rw [if_pos hq] at hF
      have hFn : F.n = numL l := by rw [hF]
      rw [hFn] at hAg hlen ⊢
      have hd2 : isDig (l.getD 0 0) = true ∨ (l.getD 0 0 = 45 ∧ 1 < (l.take (numL l)).length ∧ isDig ((l.take (numL l)).getD 1 0) = true) := by
        refine hd.imp id fun ⟨h1, h2, h3⟩ => ?_
        have := numL_two h2 (inNum_minus h1) (inNum_dig h3)
        exact ⟨h1, by omega, by rw [hAg.at (by omega)]; exact h3⟩
      rw [if_pos hd2]
      unfold numberFs
      rw [numL_take, List.take_take, Nat.min_self, if_pos hq, hF]
    · rw [if_neg hq] at hF
      rw [hF] at he
      exact absurd he hq
  rw [if_neg hd] at hF
  have hd2 : ¬ (isDig (l.getD 0 0) = true ∨ (l.getD 0 0 = 45 ∧ 1 < (l.take F.n).length ∧ isDig ((l.take F.n).getD 1 0) = true)) := by
    rintro (h | ⟨h1, h2, h3⟩)
    · exact hd (.inl h)
    · rw [hAg.at (by omega)] at h3
      exact hd (.inr ⟨h1, by omega, h3⟩)
  rw [if_neg hd2]
  by_cases hq : l.getD 0 0 = 39 ∨ l.getD 0 0 = 34
  · rw [if_pos hq] at hF ⊢
    unfold textFs at hF ⊢
    rw [textL_T] at hF
    rw [textL_T, e0]
    cases hT : textT (l.drop 1) (l.getD 0 0) with
    | none => rw [hT] at hF; rw [hF] at he; cases he
    | some q =>
      rw [hT] at hF
      have hFn : F.n = 1 + q.2 := by rw [hF]; show q.2 + 1 = _; omega
      have hA1 : Ag q.2 (l.drop 1) ((l.take F.n).drop 1) := by rw [hFn] at hAg ⊢; exact hAg.drop
      rw [text_ag (l.drop 1).length (Nat.le_refl _) (hO.drop 1) _ q hT hA1, hF]
  · rw [if_neg hq] at hF ⊢
    rw [signL_eq hO] at hF
    rw [signL_eq hOt]
    by_cases h2 : dblL l = true
    · rw [if_pos h2] at hF
      have hFn : F.n = 2 := by rw [hF]
      rw [hFn] at hAg ⊢
      rw [dblL_ag hAg, if_pos h2, List.take_take, Nat.min_self, hF]
    · rw [if_neg h2] at hF
      by_cases h1 : sglL l = true
      · rw [if_pos h1] at hF
        have hFn : F.n = 1 := by rw [hF]
        rw [hFn] at hAg hlen ⊢
        rw [dblL_short (by omega), sglL_ag hAg, if_neg (by decide), if_pos h1, List.take_take, Nat.min_self, hF]
      · rw [if_neg h1] at hF
        rw [hF] at he
        cases he
end Go.Proofs.YtkifndecpbphbaaDoor.dk
