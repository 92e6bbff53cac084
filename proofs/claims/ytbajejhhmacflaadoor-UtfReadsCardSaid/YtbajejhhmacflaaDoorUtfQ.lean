/- Plain facts: the bytes of a character, read again. -/
import Derived.Test.YtbajejhhmacflaaDoorUtfL
namespace Go.Proofs.YtbajejhhmacflaaDoor.utf
open Go.RowKit

/-- A character's number. -/
def IsRune (r : Int) : Prop := 0 ≤ r ∧ (r < 55296 ∨ 57343 < r) ∧ r ≤ 1114111

theorem gl_append_left (a b : List Int) (i : Nat) (h : i < a.length) : gl (a ++ b) i = gl a i := by
  unfold gl; simp [List.getD_eq_getElem?_getD, List.getElem?_append_left h]

theorem enc_len (r : Int) : 1 ≤ (enc r).length ∧ (enc r).length ≤ 4 := by
  unfold enc; repeat' split
  all_goals simp
theorem enc_oct {r : Int} (h : IsRune r) : Oct (enc r) := by
  obtain ⟨h0, h1, h2⟩ := h
  intro x hx
  unfold enc at hx
  split at hx
  · simp at hx; omega
  split at hx
  · simp at hx; omega
  split at hx
  · simp at hx; omega
  split at hx
  · simp at hx; omega
  · omega
/-- The bytes of a character, whatever follows. -/
theorem enc_ch {r : Int} (h : IsRune r) (n : Int) (more : List Int) (hn : n = (enc r ++ more).length) :
    Ch n (gl (enc r ++ more) 0) (gl (enc r ++ more) 1) (gl (enc r ++ more) 2) (gl (enc r ++ more) 3) r (enc r).length := by
  obtain ⟨h0, h1, h2⟩ := h
  subst hn
  unfold enc
  by_cases c1 : r < 128
  · rw [if_pos c1]
    exact .inl ⟨rfl, by simp; omega, c1, rfl⟩
  rw [if_neg c1]
  by_cases c2 : r < 2048
  · rw [if_pos c2]
    refine .inr (.inl ⟨rfl, by simp; omega, ?_⟩)
    simp only [gl, List.cons_append, List.nil_append, List.getD_cons_zero, List.getD_cons_succ]
    omega
  rw [if_neg c2]
  by_cases c3 : r < 65536
  · rw [if_pos c3]
    refine .inr (.inr (.inl ⟨rfl, by simp; omega, ?_⟩))
    simp only [gl, List.cons_append, List.nil_append, List.getD_cons_zero, List.getD_cons_succ]
    omega
  rw [if_neg c3, if_pos (by omega)]
  refine .inr (.inr (.inr ⟨rfl, by simp; omega, ?_⟩))
  simp only [gl, List.cons_append, List.nil_append, List.getD_cons_zero, List.getD_cons_succ]
  omega
theorem enc_first {r : Int} (h : IsRune r) (more : List Int) : 0 ≤ gl (enc r ++ more) 0 ∧ gl (enc r ++ more) 0 ≤ 255 := by
  have hl := enc_len r
  rw [gl_append_left _ _ _ (by omega)]
  exact (enc_oct h).gl 0
theorem nxl_enc {r : Int} (h : IsRune r) (more : List Int) : nxl (enc r ++ more) = (r, ((enc r).length : Int)) := by
  have h0 := enc_first h more
  exact nx_ch h0.1 h0.2 (enc_ch h _ more rfl)
/-- Without the last byte they begin none. -/
theorem nxl_short {r : Int} (h : IsRune r) : nxl ((enc r).take ((enc r).length - 1)) = (0, 0) := by
  have hl := enc_len r
  by_cases h1 : (enc r).length = 1
  · rw [h1]; exact nxl_nil
  have hc := enc_ch h _ [] rfl
  rw [List.append_nil] at hc
  have hO : Oct ((enc r).take ((enc r).length - 1)) := fun x hx => enc_oct h x (List.mem_of_mem_take hx)
  rcases nxl_is hO with k | ⟨k, _⟩
  · exfalso
    have e0 : gl ((enc r).take ((enc r).length - 1)) 0 = gl (enc r) 0 := by
      unfold gl; rw [List.getD_eq_getElem?_getD, List.getElem?_take, if_pos (by omega), ← List.getD_eq_getElem?_getD]
    rw [e0] at k
    have hlen : (((enc r).take ((enc r).length - 1)).length : Int) = (enc r).length - 1 := by simp; omega
    rw [hlen] at k
    unfold Ch at hc k
    omega
  · exact k
theorem chk_enc {r : Int} (h : IsRune r) : chk (enc r) = -1 := by
  have hl := enc_len r
  have hn : enc r ≠ [] := fun e => by rw [e] at hl; simp at hl
  have e := nxl_enc h []
  rw [List.append_nil] at e
  unfold chk
  rw [chkF_step (enc_oct h) 0 hn (by rw [e]; simp; omega) (Nat.le_refl _), e]
  simp only [Int.toNat_natCast, List.drop_length]
  exact chkF_nil _ _
end Go.Proofs.YtbajejhhmacflaaDoor.utf
