/- A text of characters in signs is a Text of it; what is a name is a Name. -/
import Derived.Test.YtkifndecpbphbaaDoorTY
namespace Go.Proofs.YtkifndecpbphbaaDoor.dk
open Go.PlainAid Go.ChangeShapes Go.WideShapes Go.ChangeAt Go.RowKit

theorem tqs_app (a b : List Int) : tqs (a ++ b) = tqs a ++ tqs b := by unfold tqs; rw [List.map_append, List.flatten_append]
theorem tqs_plain : ∀ {l : List Int}, (∀ x ∈ l, 32 ≤ x ∧ x ≠ 39 ∧ x ≠ 92) → tqs l = l
  | [], _ => rfl
  | x :: l, h => by
    have hx := h x (by simp)
    have e : tqb x = [x] := by unfold tqb; rw [if_neg (by omega), if_neg (by omega)]
    show tqb x ++ tqs l = x :: l
    rw [e, tqs_plain fun y hy => h y (by simp [hy])]
    rfl
theorem enc_high {r : Int} (hr : utf.IsRune r) (h : 128 ≤ r) : ∀ x ∈ utf.enc r, 128 ≤ x := by
  intro x hx
  unfold utf.IsRune at hr
  unfold utf.enc at hx
  rw [if_neg (by omega)] at hx
  split at hx
  · simp at hx; omega
  split at hx
  · simp at hx; omega
  split at hx
  · simp at hx; omega
  · omega
theorem enc_plain39 {r : Int} (hr : utf.IsRune r) (h0 : 32 ≤ r) (h1 : r ≠ 39) (h2 : r ≠ 92) : ∀ x ∈ utf.enc r, 32 ≤ x ∧ x ≠ 39 ∧ x ≠ 92 := by
  intro x hx
  by_cases h : r < 128
  · rw [utf.enc_small h] at hx
    simp at hx
    omega
  · have := enc_high hr (by omega) x hx
    omega
theorem esc_first {t : List Int} (h : (utf.esc t).2 ≠ 0) : t.getD 0 0 ≠ 39 ∧ (t.getD 0 0 = 34 → (utf.esc t).1 = 34) := by
  have ht : t.length ≠ 0 := fun e => by
    unfold utf.esc at h
    rw [if_pos e] at h
    exact h rfl
  refine ⟨fun e => ?_, fun e => ?_⟩
  · have e' : utf.gl t 0 = 39 := e
    rw [utf.esc_other ht (by omega)] at h
    unfold utf.escn at h
    have hd : (utf.dig t).2 = false := by
      unfold utf.dig
      rw [e']
      split
      · rfl
      · rfl
    rw [if_pos (.inl hd)] at h
    exact h rfl
  · rw [utf.esc_lit ht (.inl ⟨e, rfl⟩)]
theorem fixed_rune {r : Int} (h : utf.IsRune r) : utf.fixed r = r := by
  unfold utf.fixed
  exact if_pos h
/-- A character's text in signs is read as it. -/
theorem quote_one {r : Int} (hr : utf.IsRune r) (R : List Int) : tqs (utf.enc r) ++ R ≠ [] ∧ (tqs (utf.enc r) ++ R).getD 0 0 ≠ 39 ∧ inTextL (tqs (utf.enc r) ++ R) 39 = (utf.enc r, (tqs (utf.enc r)).length) := by
  have hel := utf.enc_len r
  by_cases h39 : r = 39
  · subst h39
    have e : tqs (utf.enc 39) = [92, 39] := rfl
    rw [e]
    refine ⟨by simp, by show (92 : Int) ≠ 39; decide, ?_⟩
    unfold inTextL
    rw [if_neg (by show ¬ (92 : Int) < 32; decide), if_neg (by show ¬ (92 : Int) ≠ 92; decide), if_neg (by simp), if_pos (by show (39 : Int) = 39; rfl)]
    rfl
  by_cases hp : 32 ≤ r ∧ r ≠ 92
  · have hpl := enc_plain39 hr hp.1 h39 hp.2
    rw [tqs_plain hpl]
    have hhd : (utf.enc r ++ R).getD 0 0 ∈ utf.enc r := by
      rw [List.getD_eq_getElem?_getD, List.getElem?_append_left (by omega), List.getElem?_eq_getElem (by omega)]
      exact List.getElem_mem _
    have hh := hpl _ hhd
    refine ⟨fun e => by have h3 := congrArg List.length e; rw [List.length_append] at h3; have h4 : (utf.enc r).length + R.length = 0 := h3; omega, hh.2.1, ?_⟩
    unfold inTextL
    rw [if_neg (show ¬ (utf.enc r ++ R).getD 0 0 < 32 by have := hh.1; omega), if_pos hh.2.2, utf.nxl_enc hr]
    show ((utf.enc r ++ R).take (((utf.enc r).length : Nat) : Int).toNat, (((utf.enc r).length : Nat) : Int).toNat) = _
    rw [Int.toNat_natCast, List.take_left]
  · have hs : r < 128 := by omega
    have h0 := hr.1
    have he := utf.enc_small hs
    have hO : utf.Oct [r] := fun x hx => by simp at hx; omega
    have hnx : utf.nxl [r] = (r, ((1 : Nat) : Int)) := by
      have := utf.nxl_enc hr []
      rw [he] at this
      exact this
    obtain ⟨_, _, _, _, hc⟩ := utf.quote_step hO hnx (by decide)
    rcases hc with ⟨k1, k2, k3, _⟩ | ⟨_, t, t1, t5, hq, _, hesc⟩
    · exact absurd ⟨k1, k3⟩ hp
    have hq' : utf.qb r = 92 :: t := by
      have e : utf.qs [r] = utf.qb r ++ [] := rfl
      rw [e, List.append_nil] at hq
      rw [hq]
      show 92 :: (t ++ []) = _
      rw [List.append_nil]
    have hesc' : utf.esc t = (r, (t.length : Int)) := by
      have e : t ++ utf.qs ([r].drop 1) = t := List.append_nil t
      rw [e] at hesc
      exact hesc
    have hqt : tqs (utf.enc r) = 92 :: t := by
      rw [he]
      show tqb r ++ [] = _
      rw [List.append_nil, ← hq']
      unfold tqb
      by_cases h92 : r = 92
      · subst h92; rfl
      · rw [if_neg (by omega), if_pos (by omega)]
    have hne : (utf.esc t).2 ≠ 0 := by rw [hesc']; show (t.length : Int) ≠ 0; omega
    obtain ⟨f1, f2⟩ := esc_first hne
    have f3 : t.getD 0 0 ≠ 34 := fun e => by have := f2 e; rw [hesc'] at this; have : r = 34 := this; omega
    have e1 : (92 :: t ++ R).getD 1 0 = t.getD 0 0 := by
      show (t ++ R).getD 0 0 = _
      exact app_at (by omega)
    have eesc : utf.esc (((92 :: t ++ R).drop 1).take 11) = (r, (t.length : Int)) := by
      rw [← hesc']
      refine esc_ag hne ?_
      rw [hesc']
      show Ag ((t.length : Int)).toNat t ((t ++ R).take 11)
      rw [Int.toNat_natCast]
      refine ⟨Nat.le_refl _, by rw [List.length_take, List.length_append]; omega, ?_⟩
      rw [List.take_take, Nat.min_eq_left (by omega), List.take_left, List.take_length]
    rw [hqt]
    refine ⟨by simp, by show (92 : Int) ≠ 39; decide, ?_⟩
    unfold inTextL
    rw [if_neg (by show ¬ (92 : Int) < 32; decide), if_neg (by show ¬ (92 : Int) ≠ 92; decide), if_neg (by rw [List.length_append, List.length_cons]; omega), e1, if_neg f1, if_neg (by rintro (h | h); exact f1 h; exact f3 h), eesc]
    dsimp only
    rw [if_neg (show ¬ ((t.length : Int) = 0) by omega), fixed_rune hr, Int.toNat_natCast]
    show (_, 1 + t.length) = (_, t.length + 1)
    rw [Nat.add_comm]
theorem textT_quote : ∀ (N : Nat) {l : List Int} {F : Nat} (i : Int), l.length ≤ N → l.length ≤ F → utf.Oct l → 0 ≤ i → utf.chkF F l i = -1 → textT (tqs l ++ [39]) 39 = some (l, (tqs l).length + 1) := by
  intro N
  induction N with
  | zero =>
    intro l F i hN _ _ _ _
    have hl : l = [] := List.length_eq_zero_iff.1 (Nat.le_zero.1 hN)
    subst hl
    rfl
  | succ N ih =>
    intro l F i hN hF hO hi hg
    by_cases hn : l = []
    · subst hn; rfl
    obtain ⟨hz, hg2⟩ := utf.good_step hO i hi hF hg hn
    have hlen := utf.nxl_len hO
    obtain ⟨m, hm⟩ : ∃ m : Nat, (utf.nxl l).2 = (m : Int) := ⟨(utf.nxl l).2.toNat, by omega⟩
    have hnx : utf.nxl l = ((utf.nxl l).1, (m : Int)) := by rw [← hm]
    obtain ⟨hr, ht, h1, hml, _⟩ := utf.quote_step hO hnx (by omega)
    generalize (utf.nxl l).1 = r at hr ht
    rw [hm, Int.toNat_natCast] at hg2
    have hrest := ih (i + (m : Int)) (by rw [List.length_drop]; omega) (by rw [List.length_drop]; omega) (hO.drop m) (by omega) hg2
    have e : tqs l ++ [39] = tqs (utf.enc r) ++ (tqs (l.drop m) ++ [39]) := by
      conv => lhs; rw [← List.take_append_drop m l, tqs_app, ht, List.append_assoc]
    have el : (tqs l).length = (tqs (utf.enc r)).length + (tqs (l.drop m)).length := by
      conv => lhs; rw [← List.take_append_drop m l, tqs_app, ht, List.length_append]
    obtain ⟨q1, q2, q3⟩ := quote_one hr (tqs (l.drop m) ++ [39])
    have hpos : (tqs (utf.enc r)).length ≠ 0 := by
      intro e0
      have e1 : tqs (utf.enc r) = [] := List.length_eq_zero_iff.1 e0
      have hel := utf.enc_len r
      cases hE : utf.enc r with
      | nil => rw [hE] at hel; simp at hel
      | cons c t =>
        rw [hE] at e1
        have e2 : tqb c ++ tqs t = [] := e1
        have h4 := (tqb_len c).1
        have h3 := congrArg List.length e2
        rw [List.length_append] at h3
        have h5 : (tqb c).length + (tqs t).length = 0 := h3
        omega
    rw [e, textT_step q1, if_neg q2, q3]
    dsimp only
    rw [if_neg hpos, List.drop_left, hrest, el]
    show some (utf.enc r ++ l.drop m, (tqs (utf.enc r)).length + ((tqs (l.drop m)).length + 1)) = _
    rw [← ht, List.take_append_drop]
    rfl
theorem tqs_len : ∀ l : List Int, (tqs l).length ≤ 6 * l.length
  | [] => Nat.le_refl _
  | c :: t => by
    show (tqb c ++ tqs t).length ≤ _
    have h1 := (tqb_len c).2
    have h2 := tqs_len t
    rw [List.length_append, List.length_cons]
    omega
/-- One token that is the whole text. -/
theorem all_one {l : List Int} (hO : utf.Oct l) (hn : l ≠ []) (hw : isWh (l.getD 0 0) = false) {t : Tk} (hF : firstFs l = ⟨t, l.length, 0⟩) (hq : t.kind ≠ 0) : allT l 0 = ([(t, 0, l.length)], 0) := by
  have hp := oct_pos hn
  have h0 : toF l 0 = 0 := toF_stop fun _ => hw
  have hc : Chain l 0 [(t, toF l 0, toF l 0 + l.length)] := by
    refine .cons 0 (Nat.zero_le _) t l.length [] hp (by rw [h0]; omega) (by rw [h0]; exact hF) hq (.nil _ (by rw [h0]; omega) ?_)
    rw [h0, Nat.zero_add]
    exact toF_stop fun hh => absurd hh (by omega)
  have e := hc.all hO
  rw [h0, Nat.zero_add] at e
  exact e
theorem quote_all {l : List Int} (hO : utf.Oct l) (hs : l.length ≤ 500) (hg : utf.chk l = -1) : allL (quoteL l) = ([(⟨2, l, false, ⟨#[]⟩, 0⟩, 0, (quoteL l).length)], 0) := by
  have ht := textT_quote l.length 0 (Nat.le_refl _) (Nat.le_refl _) hO (Int.le_refl _) hg
  have hl := tqs_len l
  have hlen : (quoteL l).length = (tqs l).length + 2 := by unfold quoteL; rw [List.length_cons, List.length_append]; rfl
  have hOq : utf.Oct (quoteL l) := oct_cons (by decide) (oct_app (tqs_oct hO) (fun x hx => by simp at hx; omega))
  rw [allL_small (by omega)]
  refine all_one hOq (by unfold quoteL; simp) rfl ?_ (by show (2 : Int) ≠ 0; decide)
  unfold firstFs
  have hT : textL (quoteL l) = some (l, (tqs l).length + 1) := by
    rw [textL_T]
    exact ht
  rw [if_neg (by unfold quoteL; simp), if_neg (by show ¬ bgn 39 = true; decide), if_neg (by show ¬ (isDig 39 = true ∨ ((39 : Int) = 45 ∧ _ ∧ _)); rintro (h | ⟨h, _⟩); exact absurd h (by decide); exact absurd h (by decide)), if_pos (.inl rfl)]
  unfold textFs
  rw [hT, hlen]
theorem name_all {l : List Int} (hO : utf.Oct l) (hs : l.length ≤ 500) (h : isNameL l = true) : allL l = ([(⟨1, l, false, ⟨#[]⟩, 0⟩, 0, l.length)], 0) := by
  have hn : l ≠ [] := fun e => by rw [e] at h; cases h
  rw [isNameL_eq hn, Bool.and_eq_true] at h
  obtain ⟨hb, hl⟩ := h
  have hN : nameL l = some l.length := of_decide_eq_true hl
  rw [allL_small (by omega)]
  refine all_one hO hn ?_ ?_ (by show (1 : Int) ≠ 0; decide)
  · have hc : ∀ c : Int, bgn c = true → isWh c = false := fun c hc => by
      cases hw : isWh c with
      | false => rfl
      | true =>
        unfold isWh at hw
        have : c = 32 ∨ c = 9 ∨ c = 10 ∨ c = 13 := by simpa [or_assoc] using hw
        rcases this with rfl | rfl | rfl | rfl <;> exact absurd hc (by decide)
    exact hc _ hb
  · unfold firstFs
    rw [if_neg hn, if_pos hb]
    unfold nameFs
    rw [hN]
    dsimp only
    rw [List.take_length]
end Go.Proofs.YtkifndecpbphbaaDoor.dk
