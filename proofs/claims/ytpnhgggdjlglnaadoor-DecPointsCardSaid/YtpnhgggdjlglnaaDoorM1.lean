/- What split tells of a text that is made of pieces. -/
import Derived.Test.YtpnhgggdjlglnaaDoorL1
namespace Go.Proofs.YtpnhgggdjlglnaaDoor.dk
open Go.PlainAid Go.ChangeShapes Go.WideShapes Go.ChangeAt Go.RowKit

theorem hit_at (A B sg : List Int) (c : Int) : hit (A ++ c :: B) sg A.length = sg.contains c := by
  unfold hit
  rw [show decide (A.length < (A ++ c :: B).length) = true from decide_eq_true (by simp), List.getD_eq_getElem?_getD, List.getElem?_append_right (Nat.le_refl _), Nat.sub_self]
  simp
theorem hit_end (A sg : List Int) : hit A sg A.length = false := by
  unfold hit
  rw [show decide (A.length < A.length) = false from decide_eq_false (by omega), Bool.false_and]
/-- A text does not go on with one of these signs. -/
def NoHd (sg B : List Int) : Prop := ∀ c t, B = c :: t → sg.contains c = false
theorem hit_no (A B sg : List Int) (h : NoHd sg B) : hit (A ++ B) sg A.length = false := by
  cases B with
  | nil => rw [List.append_nil]; exact hit_end A sg
  | cons c t => rw [hit_at]; exact h c t rfl
theorem dn_run : ∀ (X Y : List Int), Digs X → (∀ c t, Y = c :: t → isDig c = false) → dn (X ++ Y) = X.length
  | [], [], _, _ => rfl
  | [], c :: Y, _, h => by
    show (if isDig c then dn Y + 1 else 0) = 0
    rw [h c Y rfl]
    rfl
  | c :: X, Y, hX, h => by
    show (if isDig c then dn (X ++ Y) + 1 else 0) = X.length + 1
    rw [if_pos (hX c (List.mem_cons_self ..)), dn_run X Y hX.tail h]
theorem drop_app (A B : List Int) : (A ++ B).drop A.length = B := by rw [List.drop_append_of_le_length (Nat.le_refl _), List.drop_length, List.nil_append]
theorem take_app (A B : List Int) : (A ++ B).take A.length = A := by rw [List.take_append_of_le_length (Nat.le_refl _), List.take_length]
/-- The sign ahead. -/
def sgT (neg : Bool) : List Int := if neg then [45] else []
/-- A part behind the point. -/
def ptT (P : List Int) : List Int := if P = [] then [] else 46 :: P
/-- An exponent: its letter, its sign, its digits. -/
inductive ExT : List Int → Int → Prop where
  | none : ExT [] 0
  | plain (c : Int) (X : List Int) (hc : c = 101 ∨ c = 69) (hX : Digs X) (h0 : X ≠ []) : ExT (c :: X) (dexp X)
  | plus (c : Int) (X : List Int) (hc : c = 101 ∨ c = 69) (hX : Digs X) (h0 : X ≠ []) : ExT (c :: 43 :: X) (dexp X)
  | minus (c : Int) (X : List Int) (hc : c = 101 ∨ c = 69) (hX : Digs X) (h0 : X ≠ []) : ExT (c :: 45 :: X) (- dexp X)
theorem ExT.hd {E : List Int} {x : Int} (h : ExT E x) : ∀ c t, E = c :: t → c = 101 ∨ c = 69 := by
  intro c t e
  cases h with
  | none => cases e
  | plain d X hc => injection e with e1; rw [← e1]; exact hc
  | plus d X hc => injection e with e1; rw [← e1]; exact hc
  | minus d X hc => injection e with e1; rw [← e1]; exact hc
theorem not_dig {c : Int} (h : c = 101 ∨ c = 69 ∨ c = 46) : isDig c = false := by rcases h with rfl | rfl | rfl <;> decide
theorem dig_not {c : Int} (h : isDig c = true) : c ≠ 45 ∧ c ≠ 43 ∧ c ≠ 46 ∧ c ≠ 101 ∧ c ≠ 69 := by
  have := dig_range h
  omega
/-- The exponent's part of split, at a place k4 that l goes on from with E. -/
theorem split_tail (s : ByteArray) (A E : List Int) (x : Int) (hE : ExT E x) (hl : unstr s = A ++ E) (n : Bool) (wh pt : ByteArray) :
    (if hit (unstr s) [101, 69] A.length then
      if dn ((unstr s).drop (nk (unstr s) [43, 45] (nk (unstr s) [101, 69] A.length))) = 0 then none else
      if nk (unstr s) [43, 45] (nk (unstr s) [101, 69] A.length) + dn ((unstr s).drop (nk (unstr s) [43, 45] (nk (unstr s) [101, 69] A.length))) = (unstr s).length then some (n, wh, pt, if nc (unstr s) [43, 45] (nk (unstr s) [101, 69] A.length) = 45 then - dexp (((unstr s).drop (nk (unstr s) [43, 45] (nk (unstr s) [101, 69] A.length))).take (dn ((unstr s).drop (nk (unstr s) [43, 45] (nk (unstr s) [101, 69] A.length))))) else dexp (((unstr s).drop (nk (unstr s) [43, 45] (nk (unstr s) [101, 69] A.length))).take (dn ((unstr s).drop (nk (unstr s) [43, 45] (nk (unstr s) [101, 69] A.length)))))) else none
    else if nk (unstr s) [101, 69] A.length = (unstr s).length then some (n, wh, pt, 0) else none) = some (n, wh, pt, x) := by
  rw [hl]
  have hnd : ∀ X : List Int, dn X = dn (X ++ []) := fun X => by rw [List.append_nil]
  have en : ∀ c, c = 101 ∨ c = 69 → ([101, 69] : List Int).contains c = true := fun c hc => by rcases hc with rfl | rfl <;> decide
  have sgn : ∀ c, isDig c = true → ([43, 45] : List Int).contains c = false := fun c hc => by
    have := dig_not hc
    simp only [List.contains_cons, List.contains_nil, Bool.or_false, Bool.or_eq_false_iff, beq_eq_false_iff_ne]
    exact ⟨this.2.1, this.1⟩
  cases hE with
  | none =>
    have k : nk A [101, 69] A.length = A.length := by
      unfold nk
      rw [hit_end, if_neg (by decide)]
    rw [List.append_nil, hit_end, k, if_neg (by decide), if_pos rfl]
  | plain c X hc hX h0 =>
    have k1 : hit (A ++ c :: X) [101, 69] A.length = true := by rw [hit_at]; exact en c hc
    have k5 : nk (A ++ c :: X) [101, 69] A.length = (A ++ [c]).length := by unfold nk; rw [k1, if_pos rfl]; simp
    have e1 : A ++ c :: X = (A ++ [c]) ++ X := by simp
    have k6h : hit (A ++ c :: X) [43, 45] (A ++ [c]).length = false := by
      rw [e1]
      exact hit_no _ _ _ (fun d t e => sgn d (hX d (by rw [e]; exact List.mem_cons_self ..)))
    have k6 : nk (A ++ c :: X) [43, 45] (A ++ [c]).length = (A ++ [c]).length := by unfold nk; rw [k6h, if_neg (by decide)]
    have kc : nc (A ++ c :: X) [43, 45] (A ++ [c]).length = 0 := by unfold nc; rw [k6h, if_neg (by decide)]
    have kd : (A ++ c :: X).drop (A ++ [c]).length = X := by rw [e1]; exact drop_app _ _
    have kn : dn X = X.length := by rw [hnd]; exact dn_run X [] hX (fun _ _ e => by cases e)
    rw [if_pos k1, k5, k6, kc, kd, kn, if_neg (fun e => h0 (List.eq_nil_of_length_eq_zero e)), if_pos (by simp; omega), if_neg (by decide), List.take_length]
  | plus c X hc hX h0 =>
    have k1 : hit (A ++ c :: 43 :: X) [101, 69] A.length = true := by rw [hit_at]; exact en c hc
    have k5 : nk (A ++ c :: 43 :: X) [101, 69] A.length = (A ++ [c]).length := by unfold nk; rw [k1, if_pos rfl]; simp
    have e1 : A ++ c :: 43 :: X = (A ++ [c]) ++ 43 :: X := by simp
    have e2 : A ++ c :: 43 :: X = (A ++ [c] ++ [43]) ++ X := by simp
    have k6h : hit (A ++ c :: 43 :: X) [43, 45] (A ++ [c]).length = true := by rw [e1, hit_at]; decide
    have k6 : nk (A ++ c :: 43 :: X) [43, 45] (A ++ [c]).length = (A ++ [c] ++ [43]).length := by unfold nk; rw [k6h, if_pos rfl]; simp
    have kc : nc (A ++ c :: 43 :: X) [43, 45] (A ++ [c]).length = 43 := by
      unfold nc
      rw [k6h, if_pos rfl, e1, List.getD_eq_getElem?_getD, List.getElem?_append_right (Nat.le_refl _), Nat.sub_self]
      rfl
    have kd : (A ++ c :: 43 :: X).drop (A ++ [c] ++ [43]).length = X := by rw [e2]; exact drop_app _ _
    have kn : dn X = X.length := by rw [hnd]; exact dn_run X [] hX (fun _ _ e => by cases e)
    rw [if_pos k1, k5, k6, kc, kd, kn, if_neg (fun e => h0 (List.eq_nil_of_length_eq_zero e)), if_pos (by simp; omega), if_neg (by decide), List.take_length]
  | minus c X hc hX h0 =>
    have k1 : hit (A ++ c :: 45 :: X) [101, 69] A.length = true := by rw [hit_at]; exact en c hc
    have k5 : nk (A ++ c :: 45 :: X) [101, 69] A.length = (A ++ [c]).length := by unfold nk; rw [k1, if_pos rfl]; simp
    have e1 : A ++ c :: 45 :: X = (A ++ [c]) ++ 45 :: X := by simp
    have e2 : A ++ c :: 45 :: X = (A ++ [c] ++ [45]) ++ X := by simp
    have k6h : hit (A ++ c :: 45 :: X) [43, 45] (A ++ [c]).length = true := by rw [e1, hit_at]; decide
    have k6 : nk (A ++ c :: 45 :: X) [43, 45] (A ++ [c]).length = (A ++ [c] ++ [45]).length := by unfold nk; rw [k6h, if_pos rfl]; simp
    have kc : nc (A ++ c :: 45 :: X) [43, 45] (A ++ [c]).length = 45 := by
      unfold nc
      rw [k6h, if_pos rfl, e1, List.getD_eq_getElem?_getD, List.getElem?_append_right (Nat.le_refl _), Nat.sub_self]
      rfl
    have kd : (A ++ c :: 45 :: X).drop (A ++ [c] ++ [45]).length = X := by rw [e2]; exact drop_app _ _
    have kn : dn X = X.length := by rw [hnd]; exact dn_run X [] hX (fun _ _ e => by cases e)
    rw [if_pos k1, k5, k6, kc, kd, kn, if_neg (fun e => h0 (List.eq_nil_of_length_eq_zero e)), if_pos (by simp; omega), if_pos rfl, List.take_length]
/-- What split tells of a text of pieces. -/
theorem split_pieces (s : ByteArray) (neg : Bool) (W P E : List Int) (x : Int) (hW : Digs W) (hW0 : W ≠ []) (hWz : W.length = 1 ∨ W.getD 0 0 ≠ 48) (hP : Digs P) (hE : ExT E x)
    (hl : unstr s = sgT neg ++ W ++ ptT P ++ E) : ∃ wh pt, splitOf s = some (neg, wh, pt, x) ∧ unstr wh = W ∧ unstr pt = P := by
  have hEh := hE.hd
  obtain ⟨w0, W', rfl⟩ : ∃ w0 W', W = w0 :: W' := by
    cases W with
    | nil => exact absurd rfl hW0
    | cons a b => exact ⟨a, b, rfl⟩
  have hw0 := dig_not (hW w0 (List.mem_cons_self ..))
  have g1 : hit (unstr s) [45] 0 = neg := by
    rw [hl]
    cases neg
    · have := hit_at [] (W' ++ ptT P ++ E) [45] w0
      rw [show sgT false ++ w0 :: W' ++ ptT P ++ E = [] ++ w0 :: (W' ++ ptT P ++ E) by simp [sgT]]
      refine this.trans ?_
      simp only [List.contains_cons, List.contains_nil, Bool.or_false, beq_eq_false_iff_ne]
      exact hw0.1
    · have := hit_at [] (w0 :: W' ++ ptT P ++ E) [45] 45
      rw [show sgT true ++ w0 :: W' ++ ptT P ++ E = [] ++ 45 :: (w0 :: W' ++ ptT P ++ E) by simp [sgT]]
      exact this
  have g2 : nk (unstr s) [45] 0 = (sgT neg).length := by
    unfold nk
    rw [g1]
    cases neg <;> rfl
  have g3 : (unstr s).drop (sgT neg).length = w0 :: W' ++ (ptT P ++ E) := by
    rw [hl, List.append_assoc, List.append_assoc, drop_app]
  have hR : ∀ c t, ptT P ++ E = c :: t → isDig c = false := fun c t e => by
    unfold ptT at e
    by_cases h0 : P = []
    · rw [if_pos h0] at e
      rcases hEh c t e with h | h
      · exact not_dig (.inl h)
      · exact not_dig (.inr (.inl h))
    · rw [if_neg h0] at e
      injection e with e1 _
      exact not_dig (.inr (.inr e1.symm))
  have g4 : dn ((unstr s).drop (sgT neg).length) = (w0 :: W').length := by rw [g3]; exact dn_run _ _ hW hR
  have g5 : ¬ ((w0 :: W').length = 0 ∨ (1 < (w0 :: W').length ∧ (unstr s).getD (sgT neg).length 0 = 48)) := by
    rintro (h | ⟨h1, h2⟩)
    · exact absurd h (by simp)
    · rcases hWz with h | h
      · omega
      · apply h
        have : (unstr s).getD (sgT neg).length 0 = ((unstr s).drop (sgT neg).length).getD 0 0 := by rw [getD_drop, Nat.add_zero]
        rw [this, g3] at h2
        exact h2
  have g6 : (sgT neg).length + (w0 :: W').length = (sgT neg ++ w0 :: W').length := by rw [List.length_append]
  have gw : unstr (s.extract (sgT neg).length ((sgT neg ++ w0 :: W').length)) = w0 :: W' := by rw [← g6, cut_unstr, g3, take_app]
  unfold splitOf
  simp only [g2, g4]
  rw [if_neg g5, g6]
  by_cases h0 : P = []
  · subst h0
    have e1 : ptT [] = [] := rfl
    rw [e1, List.append_nil] at hl
    have g7 : hit (unstr s) [46] (sgT neg ++ w0 :: W').length = false := by
      rw [hl]
      refine hit_no _ _ _ fun c t e => ?_
      rcases hEh c t e with rfl | rfl <;> decide
    have g8 : nk (unstr s) [46] (sgT neg ++ w0 :: W').length = (sgT neg ++ w0 :: W').length := by unfold nk; rw [g7, if_neg (by decide)]
    have := split_tail s (sgT neg ++ w0 :: W') E x hE hl neg (s.extract (sgT neg).length ((sgT neg ++ w0 :: W').length)) (s.extract (sgT neg ++ w0 :: W').length (sgT neg ++ w0 :: W').length)
    rw [g7, g8, g1]
    simp only [Bool.false_eq_true, false_and, if_false, Nat.add_zero]
    exact ⟨_, _, this, gw, by rw [cut_none]; rfl⟩
  · have e1 : ptT P = 46 :: P := if_neg h0
    rw [e1] at hl
    have e2 : sgT neg ++ w0 :: W' ++ 46 :: P ++ E = (sgT neg ++ w0 :: W') ++ 46 :: (P ++ E) := by simp
    have e3 : sgT neg ++ w0 :: W' ++ 46 :: P ++ E = (sgT neg ++ w0 :: W' ++ [46]) ++ (P ++ E) := by simp
    have e4 : sgT neg ++ w0 :: W' ++ 46 :: P ++ E = (sgT neg ++ w0 :: W' ++ [46] ++ P) ++ E := by simp
    have g7 : hit (unstr s) [46] (sgT neg ++ w0 :: W').length = true := by rw [hl, e2, hit_at]; decide
    have g8 : nk (unstr s) [46] (sgT neg ++ w0 :: W').length = (sgT neg ++ w0 :: W' ++ [46]).length := by
      unfold nk
      rw [g7, if_pos rfl]
      have h : ((sgT neg ++ w0 :: W') ++ [46]).length = (sgT neg ++ w0 :: W').length + 1 := List.length_append
      exact h.symm
    have g9 : (unstr s).drop (sgT neg ++ w0 :: W' ++ [46]).length = P ++ E := by rw [hl, e3, drop_app]
    have ga : dn ((unstr s).drop (sgT neg ++ w0 :: W' ++ [46]).length) = P.length := by
      rw [g9]
      refine dn_run _ _ hP fun c t e => ?_
      rcases hEh c t e with h | h
      · exact not_dig (.inl h)
      · exact not_dig (.inr (.inl h))
    have gb : (sgT neg ++ w0 :: W' ++ [46]).length + P.length = (sgT neg ++ w0 :: W' ++ [46] ++ P).length := (List.length_append : ((sgT neg ++ w0 :: W' ++ [46]) ++ P).length = (sgT neg ++ w0 :: W' ++ [46]).length + P.length).symm
    have := split_tail s (sgT neg ++ w0 :: W' ++ [46] ++ P) E x hE (hl.trans e4) neg (s.extract (sgT neg).length ((sgT neg ++ w0 :: W').length)) (s.extract (sgT neg ++ w0 :: W' ++ [46]).length (sgT neg ++ w0 :: W' ++ [46] ++ P).length)
    rw [g7, g8, if_pos rfl, ga, if_neg (fun h => h0 (List.eq_nil_of_length_eq_zero h.2)), gb, g1]
    exact ⟨_, _, this, gw, by rw [← gb, cut_unstr, g9, take_app]⟩
end Go.Proofs.YtpnhgggdjlglnaaDoor.dk
