/- Texts that agree on their first bytes begin with one token. -/
import Derived.Test.YtkifndecpbphbaaDoorTJe
namespace Go.Proofs.YtkifndecpbphbaaDoor.dk
open Go.PlainAid Go.ChangeShapes Go.WideShapes Go.ChangeAt Go.RowKit

/-- Two texts agree on their first p bytes. -/
def Ag (p : Nat) (a b : List Int) : Prop := p ≤ a.length ∧ p ≤ b.length ∧ a.take p = b.take p
theorem Ag.at {p i : Nat} {a b : List Int} (h : Ag p a b) (hi : i < p) : b.getD i 0 = a.getD i 0 := by
  have e : (b.take p)[i]? = (a.take p)[i]? := by rw [h.2.2]
  rw [List.getElem?_take, List.getElem?_take, if_pos hi, if_pos hi] at e
  rw [List.getD_eq_getElem?_getD, List.getD_eq_getElem?_getD, e]
theorem Ag.less {p q : Nat} {a b : List Int} (h : Ag p a b) (hq : q ≤ p) : Ag q a b := by
  refine ⟨Nat.le_trans hq h.1, Nat.le_trans hq h.2.1, ?_⟩
  have e := congrArg (List.take q) h.2.2
  rwa [List.take_take, List.take_take, Nat.min_eq_left hq] at e
theorem Ag.drop {p q : Nat} {a b : List Int} (h : Ag (p + q) a b) : Ag q (a.drop p) (b.drop p) := by
  refine ⟨by rw [List.length_drop]; have := h.1; omega, by rw [List.length_drop]; have := h.2.1; omega, ?_⟩
  rw [List.take_drop, List.take_drop, h.2.2]
theorem Ag.cut {p q : Nat} {a b : List Int} (h : Ag p a b) (hq : p ≤ q) : Ag p (a.take q) (b.take q) := by
  refine ⟨by rw [List.length_take]; have := h.1; omega, by rw [List.length_take]; have := h.2.1; omega, ?_⟩
  rw [List.take_take, List.take_take, Nat.min_eq_left hq, h.2.2]
theorem Ag.app {p : Nat} {a : List Int} (t : List Int) (h : p ≤ a.length) : Ag p a (a ++ t) :=
  ⟨h, by rw [List.length_append]; omega, by rw [List.take_append_of_le_length h]⟩
theorem Ag.take {p : Nat} {a : List Int} (h : p ≤ a.length) : Ag p a (a.take p) :=
  ⟨h, by rw [List.length_take]; omega, by rw [List.take_take, Nat.min_self]⟩
theorem oct_take {l : List Int} (h : utf.Oct l) (n : Nat) : utf.Oct (l.take n) := fun x hx => h x (List.mem_of_mem_take hx)

theorem nxl_ag {a b : List Int} (ha : utf.Oct a) (h0 : (utf.nxl a).2 ≠ 0) (h : Ag (utf.nxl a).2.toNat a b) : utf.nxl b = utf.nxl a := by
  have hc : utf.Ch a.length (utf.gl a 0) (utf.gl a 1) (utf.gl a 2) (utf.gl a 3) (utf.nxl a).1 (utf.nxl a).2 := by
    rcases utf.nxl_is ha with k | ⟨k, _⟩
    · exact k
    · rw [k] at h0; exact absurd rfl h0
  have hl := utf.ch_len hc
  have h1 := h.2.1
  have g : ∀ i : Nat, (i : Int) < (utf.nxl a).2 → utf.gl b i = utf.gl a i := fun i hi => h.at (by omega)
  have hg := ha.gl 0
  have c : utf.Ch b.length (utf.gl b 0) (utf.gl b 1) (utf.gl b 2) (utf.gl b 3) (utf.nxl a).1 (utf.nxl a).2 := by
    rcases hc with ⟨e, _, r⟩ | ⟨e, _, r⟩ | ⟨e, _, r⟩ | ⟨e, _, r⟩
    · refine .inl ⟨e, by omega, ?_⟩
      rw [g 0 (by omega)]
      exact r
    · refine .inr (.inl ⟨e, by omega, ?_⟩)
      rw [g 0 (by omega), g 1 (by omega)]
      exact r
    · refine .inr (.inr (.inl ⟨e, by omega, ?_⟩))
      rw [g 0 (by omega), g 1 (by omega), g 2 (by omega)]
      exact r
    · refine .inr (.inr (.inr ⟨e, by omega, ?_⟩))
      rw [g 0 (by omega), g 1 (by omega), g 2 (by omega), g 3 (by omega)]
      exact r
  have hb0 : utf.gl b 0 = utf.gl a 0 := g 0 (by omega)
  exact utf.nx_ch (by rw [hb0]; exact hg.1) (by rw [hb0]; exact hg.2) c

/-! names -/
/-- A name ends at a place. -/
def Stop (b : List Int) (n : Nat) : Prop := n = b.length ∨ (n < b.length ∧ b.getD n 0 < 128 ∧ nch (b.getD n 0) = false)
theorem Stop.drop {b : List Int} {p q : Nat} (h : Stop b (p + q)) : Stop (b.drop p) q := by
  rcases h with h | ⟨h, h1, h2⟩
  · exact .inl (by rw [List.length_drop]; omega)
  · exact .inr ⟨by rw [List.length_drop]; omega, by rw [getD_drop]; exact h1, by rw [getD_drop]; exact h2⟩
theorem Stop.lift {b : List Int} {p q : Nat} (hp : p ≤ b.length) (h : Stop (b.drop p) q) : Stop b (p + q) := by
  rcases h with h | ⟨h, h1, h2⟩
  · exact .inl (by rw [List.length_drop] at h; omega)
  · rw [getD_drop] at h1 h2
    exact .inr ⟨by rw [List.length_drop] at h; omega, h1, h2⟩
theorem name_stop : ∀ (N : Nat) {a : List Int}, a.length ≤ N → utf.Oct a → ∀ n, nameL a = some n → Stop a n := by
  intro N
  induction N with
  | zero =>
    intro a hN _ n h
    have : a = [] := List.length_eq_zero_iff.1 (Nat.le_zero.1 hN)
    subst this
    injection h with h
    exact .inl h.symm
  | succ N ih =>
    intro a hN hO n h
    by_cases hn : a = []
    · subst hn
      injection h with h
      exact .inl h.symm
    have hp := oct_pos hn
    have hlen := utf.nxl_len hO
    rw [nameL_step hO hn] at h
    split at h
    · rename_i hlow
      split at h
      · obtain ⟨m, hm, rfl⟩ := Option.map_eq_some_iff.1 h
        have := ih (by rw [List.length_drop]; omega) (hO.drop 1) m hm
        have := this.lift hp
        rwa [Nat.add_comm] at this
      · rename_i hc
        injection h with h
        subst h
        exact .inr ⟨hp, hlow, by simpa using hc⟩
    · split at h
      · cases h
      · obtain ⟨m, hm, rfl⟩ := Option.map_eq_some_iff.1 h
        have := ih (by rw [List.length_drop]; omega) (hO.drop _) m hm
        have := this.lift (p := (utf.nxl a).2.toNat) (by omega)
        rwa [Nat.add_comm] at this
theorem name_ag : ∀ (N : Nat) {a b : List Int}, a.length ≤ N → utf.Oct a → utf.Oct b → ∀ n, nameL a = some n → Ag n a b → Stop b n → nameL b = some n := by
  intro N
  induction N with
  | zero =>
    intro a b hN hO hOb n h hA hS
    have ha : a = [] := List.length_eq_zero_iff.1 (Nat.le_zero.1 hN)
    subst ha
    injection h with h
    subst h
    by_cases hb : b = []
    · subst hb; rfl
    rcases hS with hS | ⟨_, h1, h2⟩
    · exact absurd (List.length_eq_zero_iff.1 hS.symm) hb
    · rw [nameL_step hOb hb, if_pos h1, if_neg (by rw [h2]; decide)]
  | succ N ih =>
    intro a b hN hO hOb n h hA hS
    by_cases hn0 : n = 0
    · subst hn0
      by_cases hb : b = []
      · subst hb; rfl
      rcases hS with hS | ⟨_, h1, h2⟩
      · exact absurd (List.length_eq_zero_iff.1 hS.symm) hb
      · rw [nameL_step hOb hb, if_pos h1, if_neg (by rw [h2]; decide)]
    have ha : a ≠ [] := fun e => by have := hA.1; rw [e] at this; exact hn0 (Nat.le_zero.1 this)
    have hb : b ≠ [] := fun e => by have := hA.2.1; rw [e] at this; exact hn0 (Nat.le_zero.1 this)
    have hp := oct_pos ha
    have hlen := utf.nxl_len hO
    have hhd := hA.at (i := 0) (by omega)
    rw [nameL_step hO ha] at h
    rw [nameL_step hOb hb, hhd]
    split at h
    · rename_i hlow
      split at h
      · rename_i hc
        obtain ⟨m, hm, rfl⟩ := Option.map_eq_some_iff.1 h
        rw [if_pos hlow, if_pos hc]
        have hA' : Ag (1 + m) a b := by rw [Nat.add_comm]; exact hA
        have hS' : Stop b (1 + m) := by rw [Nat.add_comm]; exact hS
        rw [ih (by rw [List.length_drop]; omega) (hO.drop 1) (hOb.drop 1) m hm hA'.drop hS'.drop]
        rfl
      · injection h with h
        exact absurd h.symm hn0
    · rename_i hhi
      split at h
      · cases h
      · rename_i hz
        obtain ⟨m, hm, rfl⟩ := Option.map_eq_some_iff.1 h
        have hA' : Ag ((utf.nxl a).2.toNat + m) a b := by rw [Nat.add_comm]; exact hA
        have hS' : Stop b ((utf.nxl a).2.toNat + m) := by rw [Nat.add_comm]; exact hS
        have e := nxl_ag hO hz (hA'.less (Nat.le_add_right _ _))
        rw [if_neg hhi, e, if_neg hz]
        rw [ih (by rw [List.length_drop]; omega) (hO.drop _) (hOb.drop _) m hm hA'.drop hS'.drop]
        rfl

/-! numbers -/
theorem numF_spec : ∀ (f : Nat) {l : List Int} {k : Nat}, l.length - k ≤ f → (∀ j, k ≤ j → j < numF f l k → inNum l j = true) ∧ (numF f l k < l.length → inNum l (numF f l k) = false) := by
  intro f
  induction f with
  | zero =>
    intro l k hf
    exact ⟨fun j h1 h2 => absurd h2 (by show ¬ j < k; omega), fun h => absurd h (by show ¬ k < l.length; omega)⟩
  | succ f ih =>
    intro l k hf
    have e : numF (f + 1) l k = if k < l.length ∧ inNum l k = true then numF f l (k + 1) else k := rfl
    rw [e]
    split
    · rename_i hc
      have := ih (l := l) (k := k + 1) (by omega)
      refine ⟨fun j h1 h2 => ?_, this.2⟩
      by_cases hj : j = k
      · subst hj; exact hc.2
      · exact this.1 j (by omega) h2
    · rename_i hc
      refine ⟨fun j h1 h2 => absurd h2 (by omega), fun h => ?_⟩
      cases hi : inNum l k with
      | true => exact absurd ⟨h, hi⟩ hc
      | false => rfl
theorem numL_uniq {l : List Int} {n : Nat} (hn : n ≤ l.length) (h1 : ∀ k, k < n → inNum l k = true) (h2 : n < l.length → inNum l n = false) : numL l = n := by
  have hs := numF_spec l.length (l := l) (k := 0) (by omega)
  have hle := (numF_le l.length l 0 (Nat.zero_le _)).2
  unfold numL
  rcases Nat.lt_trichotomy (numF l.length l 0) n with h | h | h
  · have e := h1 _ h
    rw [hs.2 (by omega)] at e
    cases e
  · exact h
  · have e := hs.1 n (Nat.zero_le _) h
    rw [h2 (by omega)] at e
    cases e
theorem numL_at {l : List Int} {k : Nat} (h : k < numL l) : inNum l k = true := (numF_spec l.length (l := l) (k := 0) (by omega)).1 k (Nat.zero_le _) h
theorem numL_end {l : List Int} (h : numL l < l.length) : inNum l (numL l) = false := (numF_spec l.length (l := l) (k := 0) (by omega)).2 h
theorem numL_le (l : List Int) : numL l ≤ l.length := (numF_le l.length l 0 (Nat.zero_le _)).2
theorem app_at {l t : List Int} {k : Nat} (h : k < l.length) : (l ++ t).getD k 0 = l.getD k 0 := by
  rw [List.getD_eq_getElem?_getD, List.getD_eq_getElem?_getD, List.getElem?_append_left h]
theorem app_end (l : List Int) (c : Int) (t : List Int) : (l ++ c :: t).getD l.length 0 = c := by
  rw [List.getD_eq_getElem?_getD, List.getElem?_append_right (Nat.le_refl _), Nat.sub_self]
  rfl
theorem inNum_app {l m : List Int} {k : Nat} (h : k < l.length) : inNum (l ++ 10 :: m) k = inNum l k := by
  unfold inNum
  rw [app_at h]
  by_cases c46 : l.getD k 0 = 46
  · rw [if_pos c46, if_pos c46]
    by_cases hk : k + 1 = l.length
    · rw [show decide (k + 1 = l.length) = true from decide_eq_true hk, Bool.true_or, hk, app_end]
      simp
    · rw [app_at (show k + 1 < l.length by omega), show decide (k + 1 = l.length) = false from decide_eq_false hk, show decide (k + 1 = (l ++ 10 :: m).length) = false from decide_eq_false (by rw [List.length_append, List.length_cons]; omega)]
  · rw [if_neg c46, if_neg c46]
    by_cases h0 : k = 0
    · subst h0; rfl
    · rw [app_at (show k - 1 < l.length by omega)]
theorem numL_app (l m : List Int) : numL (l ++ 10 :: m) = numL l := by
  have hle := numL_le l
  refine numL_uniq (by rw [List.length_append]; omega) (fun k hk => ?_) (fun _ => ?_)
  · rw [inNum_app (by omega)]
    exact numL_at hk
  · by_cases he : numL l < l.length
    · rw [inNum_app he]
      exact numL_end he
    · have e : numL l = l.length := by omega
      rw [e]
      unfold inNum
      rw [app_end]
      rfl
theorem numL_take (l : List Int) : numL (l.take (numL l)) = numL l := by
  have hle := numL_le l
  have hl : (l.take (numL l)).length = numL l := by rw [List.length_take]; omega
  have hat : ∀ {i}, i < numL l → (l.take (numL l)).getD i 0 = l.getD i 0 := fun {i} hi => (Ag.take hle).at hi
  refine numL_uniq (by omega) (fun k hk => ?_) (fun h => absurd h (by omega))
  have h := numL_at hk
  unfold inNum at h ⊢
  rw [hat hk, hl]
  split
  · rename_i c46
    rw [if_pos c46] at h
    by_cases hk1 : k + 1 = numL l
    · rw [show decide (k + 1 = numL l) = true from decide_eq_true hk1]
      rfl
    · rw [hat (show k + 1 < numL l by omega)]
      rw [show decide (k + 1 = l.length) = false from decide_eq_false (by omega), Bool.false_or] at h
      rw [h, Bool.or_true]
  · rename_i c46
    rw [if_neg c46] at h
    split
    · rename_i c43
      rw [if_pos c43] at h
      by_cases h0 : k = 0
      · subst h0; rfl
      · rw [hat (show k - 1 < numL l by omega)]
        exact h
    · rename_i c43
      rw [if_neg c43] at h
      exact h
end Go.Proofs.YtkifndecpbphbaaDoor.dk
