/- The contract of Count. -/
import Derived.Test.YtkifndecpbphbaaDoorUJb
import Derived.Test.YtkifndecpbphbaaDoorUJa
namespace Go.Proofs.YtkifndecpbphbaaDoor.utf
open Go.PlainAid Go.ChangeShapes Go.WideShapes Go.ChangeAt Go.RowKit

/-- 'Count': so many characters; a byte that begins none counts one. -/
def cntF : Nat → List Int → Int
  | 0, _ => 0
  | f + 1, l => if l = [] then 0 else 1 + cntF f (l.drop (rk l).2.toNat)
def cnt (l : List Int) : Int := cntF l.length l
theorem cntF_nil (f : Nat) : cntF f [] = 0 := by cases f <;> simp [cntF]
theorem cntF_fuel : ∀ (f g : Nat) {l : List Int} (_ : Oct l), l.length ≤ f → l.length ≤ g → cntF f l = cntF g l := by
  intro f
  induction f with
  | zero => intro g l _ hl _; rw [List.length_eq_zero_iff.1 (Nat.le_zero.1 hl), cntF_nil, cntF_nil]
  | succ f ih =>
    intro g l h hl hg
    by_cases hn : l = []
    · rw [hn, cntF_nil, cntF_nil]
    cases g with
    | zero => exact absurd (List.length_eq_zero_iff.1 (Nat.le_zero.1 hg)) hn
    | succ g =>
      have hm := rk_len h hn
      unfold cntF
      rw [if_neg hn, if_neg hn, ih g (h.drop _) (by simp; omega) (by simp; omega)]
theorem cnt_nil : cnt [] = 0 := rfl
theorem cnt_step {l : List Int} (h : Oct l) (hn : l ≠ []) : cnt l = 1 + cnt (l.drop (rk l).2.toNat) := by
  have hm := rk_len h hn
  have hl : 0 < l.length := List.length_pos_iff.2 hn
  unfold cnt
  obtain ⟨f, hf⟩ : ∃ f, l.length = f + 1 := ⟨l.length - 1, by omega⟩
  rw [hf]
  conv => lhs; unfold cntF
  rw [if_neg hn, cntF_fuel f _ (h.drop _) (by simp; omega) (Nat.le_refl _)]
theorem cnt_range : ∀ (n : Nat) {l : List Int}, l.length ≤ n → Oct l → 0 ≤ cnt l ∧ cnt l ≤ l.length := by
  intro n
  induction n with
  | zero => intro l hl _; rw [List.length_eq_zero_iff.1 (Nat.le_zero.1 hl)]; exact ⟨by decide, by decide⟩
  | succ n ih =>
    intro l hl h
    by_cases hn : l = []
    · rw [hn]; exact ⟨by decide, by decide⟩
    have hm := rk_len h hn
    have := ih (l := l.drop (rk l).2.toNat) (by simp; omega) (h.drop _)
    have hd : ((l.drop (rk l).2.toNat).length : Int) = l.length - (rk l).2 := by simp; omega
    rw [cnt_step h hn]
    omega

end Go.Proofs.YtkifndecpbphbaaDoor.utf
/- Plain facts: good texts one behind the other. -/
namespace Go.Proofs.YtkifndecpbphbaaDoor.utf
open Go.RowKit

theorem ch_append {l : List Int} {r m : Int} (h : Ch l.length (gl l 0) (gl l 1) (gl l 2) (gl l 3) r m) (t : List Int) :
    Ch (l ++ t).length (gl (l ++ t) 0) (gl (l ++ t) 1) (gl (l ++ t) 2) (gl (l ++ t) 3) r m := by
  have hl := ch_len h
  have e : ∀ i : Nat, (i : Int) < l.length → gl (l ++ t) i = gl l i := fun i hi => gl_append_left l t i (by omega)
  have hn : ((l ++ t).length : Int) = l.length + t.length := by simp
  rw [hn, e 0 (by simp; omega)]
  rcases h with ⟨hm, h⟩ | ⟨hm, h⟩ | ⟨hm, h⟩ | ⟨hm, h⟩
  · exact .inl ⟨hm, by omega, h.2⟩
  · refine .inr (.inl ⟨hm, by omega, ?_⟩)
    rw [e 1 (by omega)]
    exact h.2
  · refine .inr (.inr (.inl ⟨hm, by omega, ?_⟩))
    rw [e 1 (by omega), e 2 (by omega)]
    exact h.2
  · refine .inr (.inr (.inr ⟨hm, by omega, ?_⟩))
    rw [e 1 (by omega), e 2 (by omega), e 3 (by omega)]
    exact h.2
theorem oct_append {a b : List Int} (ha : Oct a) (hb : Oct b) : Oct (a ++ b) := fun x hx => (List.mem_append.1 hx).elim (ha x) (hb x)
/-- What a text begins with, whatever follows. -/
theorem nxl_append {l : List Int} (h : Oct l) (hz : (nxl l).2 ≠ 0) (t : List Int) (ht : Oct t) : nxl (l ++ t) = nxl l := by
  rcases nxl_is h with hc | ⟨he, _⟩
  · have k := oct_append h ht
    exact (nx_ch (k.gl 0).1 (k.gl 0).2 (ch_append hc t))
  · rw [he] at hz; exact absurd rfl hz

theorem chk_append : ∀ (n : Nat) {a b : List Int} (f : Nat) (i : Int), a.length ≤ n → Oct a → Oct b → 0 ≤ i → (a ++ b).length ≤ f → chkF f a i = -1 → chkF f (a ++ b) i = chkF f b (i + a.length) := by
  intro n
  induction n with
  | zero =>
    intro a b f i ha _ _ _ _ _
    obtain rfl := List.length_eq_zero_iff.1 (Nat.le_zero.1 ha)
    simp
  | succ n ih =>
    intro a b f i ha hA hB hi hf hg
    by_cases hn : a = []
    · subst hn; simp
    have hla : a.length ≤ f := by rw [List.length_append] at hf; omega
    obtain ⟨hz, hg'⟩ := good_step hA i hi hla hg hn
    have hl := nxl_len hA
    have e := nxl_append hA hz b hB
    rw [chkF_step (oct_append hA hB) i (by simp [hn]) (by rw [e]; exact hz) hf, e]
    have hd : (a ++ b).drop (nxl a).2.toNat = a.drop (nxl a).2.toNat ++ b := by
      rw [List.drop_append_of_le_length (by omega)]
    rw [hd, ih f (i + (nxl a).2) (by simp; omega) (hA.drop _) hB (by omega) (by rw [← hd]; simp at hf ⊢; omega) hg']
    congr 1
    simp
    omega
theorem chk_shift : ∀ (f : Nat) {l : List Int} (_ : Oct l) (i : Int), l.length ≤ f → chkF f l i = if chkF f l 0 = -1 then -1 else chkF f l 0 + i := by
  intro f
  induction f with
  | zero => intro l _ i _; simp [chkF]
  | succ f ih =>
    intro l h i hl
    by_cases hn : l = []
    · rw [hn, chkF_nil, chkF_nil]; rfl
    by_cases hz : (nxl l).2 = 0
    · rw [chkF_bad i hn hz hl, chkF_bad 0 hn hz hl]; simp
    · have hm := nxl_len h
      rw [chkF_step h i hn hz hl, chkF_step h 0 hn hz hl]
      have e := fun j => chkF_fuel (f + 1) f (h.drop (nxl l).2.toNat) j (by simp; omega) (by simp; omega)
      rw [e, e]
      have h1 := ih (h.drop (nxl l).2.toNat) (i + (nxl l).2) (by simp; omega)
      have h2 := ih (h.drop (nxl l).2.toNat) (0 + (nxl l).2) (by simp; omega)
      have hr := chkF_range f (h.drop (nxl l).2.toNat) 0 (by decide) (by simp; omega)
      rw [h1, h2]
      by_cases hc : chkF f (l.drop (nxl l).2.toNat) 0 = -1
      · rw [if_pos hc, if_pos hc, if_pos rfl]
      · rw [if_neg hc, if_neg hc, if_neg (by omega)]; omega
theorem good_join {a b : List Int} (ha : Oct a) (hb : Oct b) (ga : chk a = -1) (gb : chk b = -1) : chk (a ++ b) = -1 := by
  unfold chk at ga gb ⊢
  have e1 : chkF (a ++ b).length a 0 = -1 := by rw [chkF_fuel _ a.length ha 0 (by simp) (Nat.le_refl _)]; exact ga
  rw [chk_append _ _ 0 (Nat.le_refl _) ha hb (by decide) (Nat.le_refl _) e1, chk_shift _ hb _ (by simp), chkF_fuel _ b.length hb 0 (by simp) (Nat.le_refl _), gb]
  rfl
theorem bad_join {a b : List Int} (ha : Oct a) (hb : Oct b) (ga : chk a = -1) (x : Int) (h0 : 128 ≤ x) (h1 : x ≤ 191) : chk (a ++ (x :: b)) = a.length := by
  have hxb : Oct (x :: b) := fun y hy => by
    rcases List.mem_cons.1 hy with rfl | h
    · omega
    · exact hb y h
  unfold chk at ga ⊢
  have e1 : chkF (a ++ (x :: b)).length a 0 = -1 := by rw [chkF_fuel _ a.length ha 0 (by simp) (Nat.le_refl _)]; exact ga
  rw [chk_append _ _ 0 (Nat.le_refl _) ha hxb (by decide) (Nat.le_refl _) e1]
  have hz : (nxl (x :: b)).2 = 0 := by
    rcases nxl_is hxb with h | ⟨h, _⟩
    · have : gl (x :: b) 0 = x := rfl
      rw [this] at h
      unfold Ch at h; omega
    · rw [h]
  rw [chkF_bad _ (by simp) hz (by simp)]
  omega
theorem cnt_join : ∀ (n : Nat) {a b : List Int} (i : Int), a.length ≤ n → Oct a → Oct b → 0 ≤ i → chkF a.length a i = -1 → cnt (a ++ b) = cnt a + cnt b := by
  intro n
  induction n with
  | zero =>
    intro a b i ha _ _ _ _
    obtain rfl := List.length_eq_zero_iff.1 (Nat.le_zero.1 ha)
    simp [cnt_nil]
  | succ n ih =>
    intro a b i ha hA hB hi hg
    by_cases hn : a = []
    · subst hn; simp [cnt_nil]
    obtain ⟨hz, hg'⟩ := good_step hA i hi (Nat.le_refl _) hg hn
    have hl := nxl_len hA
    have e := nxl_append hA hz b hB
    have r1 : rk a = nxl a := if_neg hz
    have r2 : rk (a ++ b) = nxl a := by
      have : (nxl (a ++ b)).2 ≠ 0 := by rw [e]; exact hz
      rw [← e]; exact if_neg this
    have hd : (a ++ b).drop (nxl a).2.toNat = a.drop (nxl a).2.toNat ++ b := by
      rw [List.drop_append_of_le_length (by omega)]
    rw [cnt_step (oct_append hA hB) (by simp [hn]), cnt_step hA hn, r1, r2, hd,
      ih (a := a.drop (nxl a).2.toNat) (b := b) (i + (nxl a).2) (by simp; omega) (hA.drop _) hB (by omega) (by rw [chkF_fuel _ a.length (hA.drop _) _ (Nat.le_refl _) (by simp)]; exact hg')]
    omega
end Go.Proofs.YtkifndecpbphbaaDoor.utf
