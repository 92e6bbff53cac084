/- Digits that a text is made of, and what Parse tells of them. -/
import Derived.Test.YtkifndecpbphbaaDoorQu
namespace Go.Proofs.YtkifndecpbphbaaDoor.dk
open Go.PlainAid Go.ChangeShapes Go.WideShapes Go.ChangeAt Go.RowKit

def Digs (l : List Int) : Prop := ∀ x ∈ l, isDig x = true
theorem dig_range {c : Int} (h : isDig c = true) : 48 ≤ c ∧ c ≤ 57 := by
  unfold isDig at h
  simp only [Bool.and_eq_true, decide_eq_true_eq] at h
  exact h
theorem Digs.tail {c : Int} {l : List Int} (h : Digs (c :: l)) : Digs l := fun x hx => h x (List.mem_cons_of_mem _ hx)
theorem Digs.append {a b : List Int} (h1 : Digs a) (h2 : Digs b) : Digs (a ++ b) := fun x hx => (List.mem_append.1 hx).elim (h1 x) (h2 x)
/-- Digits without the 0s ahead of them, without those behind them. -/
def lz (l : List Int) : List Int := l.dropWhile (· = 48)
def tz (l : List Int) : List Int := (l.reverse.dropWhile (· = 48)).reverse
theorem while_is : ∀ (l : List Int), ∀ x ∈ l.takeWhile (· = 48), x = 48
  | [], x, h => by cases h
  | c :: l, x, h => by
    rw [List.takeWhile_cons] at h
    split at h
    · rename_i hc
      rcases List.mem_cons.1 h with rfl | h
      · simpa using hc
      · exact while_is l x h
    · cases h
theorem tz_eq (l : List Int) : ∃ k, l = tz l ++ List.replicate k 48 := by
  have h := List.takeWhile_append_dropWhile (p := fun x : Int => decide (x = 48)) (l := l.reverse)
  have h3 := congrArg List.reverse h
  rw [List.reverse_append, List.reverse_reverse] at h3
  refine ⟨(l.reverse.takeWhile (fun x : Int => decide (x = 48))).reverse.length, ?_⟩
  rw [← List.eq_replicate_of_mem (fun x hx => while_is _ x (List.mem_reverse.1 hx))]
  exact h3.symm
theorem lz_head : ∀ (l : List Int) c t, lz l = c :: t → c ≠ 48
  | [], c, t, h => by cases h
  | d :: l, c, t, h => by
    unfold lz at h
    rw [List.dropWhile_cons] at h
    split at h
    · exact lz_head l c t h
    · rename_i hd
      injection h with h1 h2
      subst h1
      simpa using hd
theorem lz_mem {l : List Int} {x : Int} (h : x ∈ lz l) : x ∈ l := (List.dropWhile_sublist _).mem h
theorem tz_mem {l : List Int} {x : Int} (h : x ∈ tz l) : x ∈ l := List.mem_reverse.1 ((List.dropWhile_sublist _).mem (List.mem_reverse.1 h))
theorem fln_list (s : ByteArray) : unstr (fln s) = lz (unstr s) := by
  unfold fln unstr lz Lib.trimLeftB
  rw [List.dropWhile_map]
  show List.map _ (List.toArray _).toList = _
  rw [List.toList_toArray]
  refine congrArg _ (congrArg (fun p => List.dropWhile p _) (funext fun x => ?_))
  show (x == 48) = decide ((x.toNat : Int) = 48)
  rw [Bool.eq_iff_iff, decide_eq_true_eq, beq_iff_eq]
  constructor
  · rintro rfl
    rfl
  · intro h
    exact UInt8.toNat_inj.1 (by show x.toNat = 48; omega)
theorem fsh_list (s : ByteArray) : unstr (fsh s) = tz (lz (unstr s)) := by
  rw [← fln_list]
  unfold fsh tz Lib.trimRightB
  unfold unstr
  rw [← List.map_reverse, List.dropWhile_map]
  show List.map _ (List.toArray _).toList = _
  rw [List.toList_toArray, List.map_reverse]
  refine congrArg _ (congrArg _ (congrArg (fun p => List.dropWhile p _) (funext fun x => ?_)))
  show (x == 48) = decide ((x.toNat : Int) = 48)
  rw [Bool.eq_iff_iff, decide_eq_true_eq, beq_iff_eq]
  constructor
  · rintro rfl
    rfl
  · intro h
    exact UInt8.toNat_inj.1 (by show x.toNat = 48; omega)
theorem hit_at (A B sg : List Int) (c : Int) : hit (A ++ c :: B) sg A.length = sg.contains c := by
  unfold hit
  rw [show decide (A.length < (A ++ c :: B).length) = true from decide_eq_true (by simp), List.getD_eq_getElem?_getD, List.getElem?_append_right (Nat.le_refl _), Nat.sub_self]
  simp
theorem hit_end (A sg : List Int) : hit A sg A.length = false := by
  unfold hit
  rw [show decide (A.length < A.length) = false from decide_eq_false (by omega), Bool.false_and]
/-- A text does not go on with one of these signs. -/
def NoHd (sg B : List Int) : Prop := ∀ c t, B = c :: t → sg.contains c = false
theorem hit_no (A B sg : List Int) (h : NoHd sg B) : hit (A ++ B) sg A.length = false := by
  cases B with
  | nil => rw [List.append_nil]; exact hit_end A sg
  | cons c t => rw [hit_at]; exact h c t rfl
theorem dn_run : ∀ (X Y : List Int), Digs X → (∀ c t, Y = c :: t → isDig c = false) → dn (X ++ Y) = X.length
  | [], [], _, _ => rfl
  | [], c :: Y, _, h => by
    show (if isDig c then dn Y + 1 else 0) = 0
    rw [h c Y rfl]
    rfl
  | c :: X, Y, hX, h => by
    show (if isDig c then dn (X ++ Y) + 1 else 0) = X.length + 1
    rw [if_pos (hX c (List.mem_cons_self ..)), dn_run X Y hX.tail h]
theorem drop_app (A B : List Int) : (A ++ B).drop A.length = B := by rw [List.drop_append_of_le_length (Nat.le_refl _), List.drop_length, List.nil_append]
theorem take_app (A B : List Int) : (A ++ B).take A.length = A := by rw [List.take_append_of_le_length (Nat.le_refl _), List.take_length]
/-- The sign ahead. -/
def sgT (neg : Bool) : List Int := if neg then [45] else []
/-- A part behind the point. -/
def ptT (P : List Int) : List Int := if P = [] then [] else 46 :: P
/-- An exponent: its letter, its sign, its digits. -/
inductive ExT : List Int → Int → Prop where
  | none : ExT [] 0
  | plain (c : Int) (X : List Int) (hc : c = 101 ∨ c = 69) (hX : Digs X) (h0 : X ≠ []) : ExT (c :: X) (dexp X)
  | plus (c : Int) (X : List Int) (hc : c = 101 ∨ c = 69) (hX : Digs X) (h0 : X ≠ []) : ExT (c :: 43 :: X) (dexp X)
  | minus (c : Int) (X : List Int) (hc : c = 101 ∨ c = 69) (hX : Digs X) (h0 : X ≠ []) : ExT (c :: 45 :: X) (- dexp X)
theorem ExT.hd {E : List Int} {x : Int} (h : ExT E x) : ∀ c t, E = c :: t → c = 101 ∨ c = 69 := by
  intro c t e
  cases h with
  | none => cases e
  | plain d X hc => injection e with e1; rw [← e1]; exact hc
  | plus d X hc => injection e with e1; rw [← e1]; exact hc
  | minus d X hc => injection e with e1; rw [← e1]; exact hc
theorem not_dig {c : Int} (h : c = 101 ∨ c = 69 ∨ c = 46) : isDig c = false := by rcases h with rfl | rfl | rfl <;> decide
theorem dig_not {c : Int} (h : isDig c = true) : c ≠ 45 ∧ c ≠ 43 ∧ c ≠ 46 ∧ c ≠ 101 ∧ c ≠ 69 := by
  have := dig_range h
  omega
/-- The exponent's part of split, at a place k4 that l goes on from with E. -/
theorem split_tail (s : ByteArray) (A E : List Int) (x : Int) (hE : ExT E x) (hl : unstr s = A ++ E) (n : Bool) (wh pt : ByteArray) :
    (if hit (unstr s) [101, 69] A.length then
      if dn ((unstr s).drop (nk (unstr s) [43, 45] (nk (unstr s) [101, 69] A.length))) = 0 then none else
      if nk (unstr s) [43, 45] (nk (unstr s) [101, 69] A.length) + dn ((unstr s).drop (nk (unstr s) [43, 45] (nk (unstr s) [101, 69] A.length))) = (unstr s).length then some (n, wh, pt, if nc (unstr s) [43, 45] (nk (unstr s) [101, 69] A.length) = 45 then - dexp (((unstr s).drop (nk (unstr s) [43, 45] (nk (unstr s) [101, 69] A.length))).take (dn ((unstr s).drop (nk (unstr s) [43, 45] (nk (unstr s) [101, 69] A.length))))) else dexp (((unstr s).drop (nk (unstr s) [43, 45] (nk (unstr s) [101, 69] A.length))).take (dn ((unstr s).drop (nk (unstr s) [43, 45] (nk (unstr s) [101, 69] A.length)))))) else none
    else if nk (unstr s) [101, 69] A.length = (unstr s).length then some (n, wh, pt, 0) else none) = some (n, wh, pt, x) := by
  rw [hl]
  have hnd : ∀ X : List Int, dn X = dn (X ++ []) := fun X => by rw [List.append_nil]
  have en : ∀ c, c = 101 ∨ c = 69 → ([101, 69] : List Int).contains c = true := fun c hc => by rcases hc with rfl | rfl <;> decide
  have sgn : ∀ c, isDig c = true → ([43, 45] : List Int).contains c = false := fun c hc => by
    have := dig_not hc
    simp only [List.contains_cons, List.contains_nil, Bool.or_false, Bool.or_eq_false_iff, beq_eq_false_iff_ne]
    exact ⟨this.2.1, this.1⟩
  cases hE with
  | none =>
    have k : nk A [101, 69] A.length = A.length := by
      unfold nk
      rw [hit_end, if_neg (by decide)]
    rw [List.append_nil, hit_end, k, if_neg (by decide), if_pos rfl]
  | plain c X hc hX h0 =>
    have k1 : hit (A ++ c :: X) [101, 69] A.length = true := by rw [hit_at]; exact en c hc
    have k5 : nk (A ++ c :: X) [101, 69] A.length = (A ++ [c]).length := by unfold nk; rw [k1, if_pos rfl]; simp
    have e1 : A ++ c :: X = (A ++ [c]) ++ X := by simp
    have k6h : hit (A ++ c :: X) [43, 45] (A ++ [c]).length = false := by
      rw [e1]
      exact hit_no _ _ _ (fun d t e => sgn d (hX d (by rw [e]; exact List.mem_cons_self ..)))
    have k6 : nk (A ++ c :: X) [43, 45] (A ++ [c]).length = (A ++ [c]).length := by unfold nk; rw [k6h, if_neg (by decide)]
    have kc : nc (A ++ c :: X) [43, 45] (A ++ [c]).length = 0 := by unfold nc; rw [k6h, if_neg (by decide)]
    have kd : (A ++ c :: X).drop (A ++ [c]).length = X := by rw [e1]; exact drop_app _ _
    have kn : dn X = X.length := by rw [hnd]; exact dn_run X [] hX (fun _ _ e => by cases e)
    rw [if_pos k1, k5, k6, kc, kd, kn, if_neg (fun e => h0 (List.eq_nil_of_length_eq_zero e)), if_pos (by simp; omega), if_neg (by decide), List.take_length]
  | plus c X hc hX h0 =>
    have k1 : hit (A ++ c :: 43 :: X) [101, 69] A.length = true := by rw [hit_at]; exact en c hc
    have k5 : nk (A ++ c :: 43 :: X) [101, 69] A.length = (A ++ [c]).length := by unfold nk; rw [k1, if_pos rfl]; simp
    have e1 : A ++ c :: 43 :: X = (A ++ [c]) ++ 43 :: X := by simp
    have e2 : A ++ c :: 43 :: X = (A ++ [c] ++ [43]) ++ X := by simp
    have k6h : hit (A ++ c :: 43 :: X) [43, 45] (A ++ [c]).length = true := by rw [e1, hit_at]; decide
    have k6 : nk (A ++ c :: 43 :: X) [43, 45] (A ++ [c]).length = (A ++ [c] ++ [43]).length := by unfold nk; rw [k6h, if_pos rfl]; simp
    have kc : nc (A ++ c :: 43 :: X) [43, 45] (A ++ [c]).length = 43 := by
      unfold nc
      rw [k6h, if_pos rfl, e1, List.getD_eq_getElem?_getD, List.getElem?_append_right (Nat.le_refl _), Nat.sub_self]
      rfl
    have kd : (A ++ c :: 43 :: X).drop (A ++ [c] ++ [43]).length = X := by rw [e2]; exact drop_app _ _
    have kn : dn X = X.length := by rw [hnd]; exact dn_run X [] hX (fun _ _ e => by cases e)
    rw [if_pos k1, k5, k6, kc, kd, kn, if_neg (fun e => h0 (List.eq_nil_of_length_eq_zero e)), if_pos (by simp; omega), if_neg (by decide), List.take_length]
  | minus c X hc hX h0 =>
    have k1 : hit (A ++ c :: 45 :: X) [101, 69] A.length = true := by rw [hit_at]; exact en c hc
    have k5 : nk (A ++ c :: 45 :: X) [101, 69] A.length = (A ++ [c]).length := by unfold nk; rw [k1, if_pos rfl]; simp
    have e1 : A ++ c :: 45 :: X = (A ++ [c]) ++ 45 :: X := by simp
    have e2 : A ++ c :: 45 :: X = (A ++ [c] ++ [45]) ++ X := by simp
    have k6h : hit (A ++ c :: 45 :: X) [43, 45] (A ++ [c]).length = true := by rw [e1, hit_at]; decide
    have k6 : nk (A ++ c :: 45 :: X) [43, 45] (A ++ [c]).length = (A ++ [c] ++ [45]).length := by unfold nk; rw [k6h, if_pos rfl]; simp
    have kc : nc (A ++ c :: 45 :: X) [43, 45] (A ++ [c]).length = 45 := by
      unfold nc
      rw [k6h, if_pos rfl, e1, List.getD_eq_getElem?_getD, List.getElem?_append_right (Nat.le_refl _), Nat.sub_self]
      rfl
    have kd : (A ++ c :: 45 :: X).drop (A ++ [c] ++ [45]).length = X := by rw [e2]; exact drop_app _ _
    have kn : dn X = X.length := by rw [hnd]; exact dn_run X [] hX (fun _ _ e => by cases e)
    rw [if_pos k1, k5, k6, kc, kd, kn, if_neg (fun e => h0 (List.eq_nil_of_length_eq_zero e)), if_pos (by simp; omega), if_pos rfl, List.take_length]
/-- What split tells of a text of pieces. -/
theorem split_pieces (s : ByteArray) (neg : Bool) (W P E : List Int) (x : Int) (hW : Digs W) (hW0 : W ≠ []) (hWz : W.length = 1 ∨ W.getD 0 0 ≠ 48) (hP : Digs P) (hE : ExT E x)
    (hl : unstr s = sgT neg ++ W ++ ptT P ++ E) : ∃ wh pt, splitOf s = some (neg, wh, pt, x) ∧ unstr wh = W ∧ unstr pt = P := by
  have hEh := hE.hd
  obtain ⟨w0, W', rfl⟩ : ∃ w0 W', W = w0 :: W' := by
    cases W with
    | nil => exact absurd rfl hW0
    | cons a b => exact ⟨a, b, rfl⟩
  have hw0 := dig_not (hW w0 (List.mem_cons_self ..))
  have g1 : hit (unstr s) [45] 0 = neg := by
    rw [hl]
    cases neg
    · have := hit_at [] (W' ++ ptT P ++ E) [45] w0
      rw [show sgT false ++ w0 :: W' ++ ptT P ++ E = [] ++ w0 :: (W' ++ ptT P ++ E) by simp [sgT]]
      refine this.trans ?_
      simp only [List.contains_cons, List.contains_nil, Bool.or_false, beq_eq_false_iff_ne]
      exact hw0.1
    · have := hit_at [] (w0 :: W' ++ ptT P ++ E) [45] 45
      rw [show sgT true ++ w0 :: W' ++ ptT P ++ E = [] ++ 45 :: (w0 :: W' ++ ptT P ++ E) by simp [sgT]]
      exact this
  have g2 : nk (unstr s) [45] 0 = (sgT neg).length := by
    unfold nk
    rw [g1]
    cases neg <;> rfl
  have g3 : (unstr s).drop (sgT neg).length = w0 :: W' ++ (ptT P ++ E) := by
    rw [hl, List.append_assoc, List.append_assoc, drop_app]
  have hR : ∀ c t, ptT P ++ E = c :: t → isDig c = false := fun c t e => by
    unfold ptT at e
    by_cases h0 : P = []
    · rw [if_pos h0] at e
      rcases hEh c t e with h | h
      · exact not_dig (.inl h)
      · exact not_dig (.inr (.inl h))
    · rw [if_neg h0] at e
      injection e with e1 _
      exact not_dig (.inr (.inr e1.symm))
  have g4 : dn ((unstr s).drop (sgT neg).length) = (w0 :: W').length := by rw [g3]; exact dn_run _ _ hW hR
  have g5 : ¬ ((w0 :: W').length = 0 ∨ (1 < (w0 :: W').length ∧ (unstr s).getD (sgT neg).length 0 = 48)) := by
    rintro (h | ⟨h1, h2⟩)
    · exact absurd h (by simp)
    · rcases hWz with h | h
      · omega
      · apply h
        have : (unstr s).getD (sgT neg).length 0 = ((unstr s).drop (sgT neg).length).getD 0 0 := by rw [getD_drop, Nat.add_zero]
        rw [this, g3] at h2
        exact h2
  have g6 : (sgT neg).length + (w0 :: W').length = (sgT neg ++ w0 :: W').length := by rw [List.length_append]
  have gw : unstr (s.extract (sgT neg).length ((sgT neg ++ w0 :: W').length)) = w0 :: W' := by rw [← g6, cut_unstr, g3, take_app]
  unfold splitOf
  simp only [g2, g4]
  rw [if_neg g5, g6]
  by_cases h0 : P = []
  · subst h0
    have e1 : ptT [] = [] := rfl
    rw [e1, List.append_nil] at hl
    have g7 : hit (unstr s) [46] (sgT neg ++ w0 :: W').length = false := by
      rw [hl]
      refine hit_no _ _ _ fun c t e => ?_
      rcases hEh c t e with rfl | rfl <;> decide
    have g8 : nk (unstr s) [46] (sgT neg ++ w0 :: W').length = (sgT neg ++ w0 :: W').length := by unfold nk; rw [g7, if_neg (by decide)]
    have := split_tail s (sgT neg ++ w0 :: W') E x hE hl neg (s.extract (sgT neg).length ((sgT neg ++ w0 :: W').length)) (s.extract (sgT neg ++ w0 :: W').length (sgT neg ++ w0 :: W').length)
    rw [g7, g8, g1]
    simp only [Bool.false_eq_true, false_and, if_false, Nat.add_zero]
    exact ⟨_, _, this, gw, by rw [cut_none]; rfl⟩
  · have e1 : ptT P = 46 :: P := if_neg h0
    rw [e1] at hl
    have e2 : sgT neg ++ w0 :: W' ++ 46 :: P ++ E = (sgT neg ++ w0 :: W') ++ 46 :: (P ++ E) := by simp
    have e3 : sgT neg ++ w0 :: W' ++ 46 :: P ++ E = (sgT neg ++ w0 :: W' ++ [46]) ++ (P ++ E) := by simp
    have e4 : sgT neg ++ w0 :: W' ++ 46 :: P ++ E = (sgT neg ++ w0 :: W' ++ [46] ++ P) ++ E := by simp
    have g7 : hit (unstr s) [46] (sgT neg ++ w0 :: W').length = true := by rw [hl, e2, hit_at]; decide
    have g8 : nk (unstr s) [46] (sgT neg ++ w0 :: W').length = (sgT neg ++ w0 :: W' ++ [46]).length := by
      unfold nk
      rw [g7, if_pos rfl]
      have h : ((sgT neg ++ w0 :: W') ++ [46]).length = (sgT neg ++ w0 :: W').length + 1 := List.length_append
      exact h.symm
    have g9 : (unstr s).drop (sgT neg ++ w0 :: W' ++ [46]).length = P ++ E := by rw [hl, e3, drop_app]
    have ga : dn ((unstr s).drop (sgT neg ++ w0 :: W' ++ [46]).length) = P.length := by
      rw [g9]
      refine dn_run _ _ hP fun c t e => ?_
      rcases hEh c t e with h | h
      · exact not_dig (.inl h)
      · exact not_dig (.inr (.inl h))
    have gb : (sgT neg ++ w0 :: W' ++ [46]).length + P.length = (sgT neg ++ w0 :: W' ++ [46] ++ P).length := (List.length_append : ((sgT neg ++ w0 :: W' ++ [46]) ++ P).length = (sgT neg ++ w0 :: W' ++ [46]).length + P.length).symm
    have := split_tail s (sgT neg ++ w0 :: W' ++ [46] ++ P) E x hE (hl.trans e4) neg (s.extract (sgT neg).length ((sgT neg ++ w0 :: W').length)) (s.extract (sgT neg ++ w0 :: W' ++ [46]).length (sgT neg ++ w0 :: W' ++ [46] ++ P).length)
    rw [g7, g8, if_pos rfl, ga, if_neg (fun h => h0 (List.eq_nil_of_length_eq_zero h.2)), gb, g1]
    exact ⟨_, _, this, gw, by rw [← gb, cut_unstr, g9, take_app]⟩
theorem dsane_small (neg : Bool) (s : ByteArray) (hD : Digs (unstr s)) (hs : s.size ≤ 40) : dsane (fneg neg s) (unstr (fdig s)) (fexp s 0) = true := by
  have k1 := fln_le s
  have k2 := fsh_le s
  unfold fneg fdig fexp
  by_cases hz : (fsh s).size = 0
  · rw [if_pos hz, if_pos hz, if_pos hz]
    rfl
  rw [if_neg hz, if_neg hz, if_neg hz]
  have hl := unstr_length (fsh s)
  have hfl := fsh_list s
  obtain ⟨k, hk⟩ := tz_eq (lz (unstr s))
  have hdig : ∀ x ∈ unstr (fsh s), isDig x = true := fun x hx => by rw [hfl] at hx; exact hD x (lz_mem (tz_mem hx))
  have h0 : (unstr (fsh s)).getD 0 0 ≠ 48 := by
    cases hu : unstr (fsh s) with
    | nil => rw [hu] at hl; simp at hl; omega
    | cons c t =>
      rw [hfl] at hu
      rw [hu] at hk
      exact lz_head _ c _ hk
  have h1 : (unstr (fsh s)).getD ((unstr (fsh s)).length - 1) 0 ≠ 48 := by
    have hp : 0 < (unstr (fsh s)).length := by omega
    cases hu : (unstr (fsh s)).reverse with
    | nil =>
      have h9 := congrArg List.length hu
      rw [List.length_reverse] at h9
      have h8 : (unstr (fsh s)).length = 0 := h9
      omega
    | cons c t =>
      have e2 := hu
      rw [hfl] at e2
      unfold tz at e2
      rw [List.reverse_reverse] at e2
      have hc := lz_head _ c _ e2
      have e3 := congrArg List.reverse hu
      rw [List.reverse_reverse, List.reverse_cons] at e3
      rw [e3, List.length_append]
      show (t.reverse ++ [c]).getD (t.reverse.length + 1 - 1) 0 ≠ 48
      rw [Nat.add_sub_cancel, app_end]
      exact hc
  unfold dsane
  rw [if_neg (by omega), decide_eq_false h0, decide_eq_false h1, show decide ((unstr (fsh s)).length ≤ 40) = true from decide_eq_true (by omega)]
  rw [List.all_eq_true.2 hdig, decide_eq_true (show -400 - (((unstr (fsh s)).length : Nat) : Int) ≤ 0 + ((fln s).size : Int) - ((fsh s).size : Int) by omega), decide_eq_true (show 0 + ((fln s).size : Int) - ((fsh s).size : Int) ≤ 400 - (((unstr (fsh s)).length : Nat) : Int) by omega)]
  rfl
/-- Short digits, with a sign ahead or not, are a number. -/
theorem parse_digs (s : ByteArray) (neg : Bool) (W : List Int) (hW : Digs W) (h0 : W ≠ []) (hz : W.length = 1 ∨ W.getD 0 0 ≠ 48) (hl : unstr s = sgT neg ++ W) (hs : W.length ≤ 40) : (parseQ s).er = 0 := by
  obtain ⟨wh, pt, g1, g2, g3⟩ := split_pieces s neg W [] [] 0 hW h0 hz (fun x hx => by cases hx) .none (by rw [hl]; show _ = _ ++ ([] : List Int) ++ []; simp)
  have hpt : pt.size = 0 := by rw [← unstr_length, g3]; rfl
  have hpe : pt = ⟨#[]⟩ := ba_nil hpt
  subst hpe
  have hu : unstr (wh ++ ⟨#[]⟩) = W := by rw [unstr_app, g2]; exact List.append_nil W
  have hsz : (wh ++ (⟨#[]⟩ : ByteArray)).size ≤ 40 := by rw [← unstr_length, hu]; exact hs
  have hss : s.size ≤ 1000 := by
    rw [← unstr_length, hl, List.length_append]
    have : (sgT neg).length ≤ 1 := by cases neg <;> decide
    omega
  have hd := dsane_small neg (wh ++ ⟨#[]⟩) (by rw [hu]; exact hW) hsz
  unfold parseQ
  rw [if_neg (by omega), g1]
  dsimp only
  rw [show (0 : Int) - (((⟨#[]⟩ : ByteArray).size : Nat) : Int) = 0 from rfl, if_pos hd]
/-- A 0 ahead of other digits is no number's. -/
theorem parse_lead (s : ByteArray) (W : List Int) (hW : Digs W) (h0 : W ≠ []) (hl : unstr s = 48 :: W) (hs : s.size ≤ 1000) : (parseQ s).er = 2 := by
  have hD : Digs (48 :: W) := fun x hx => by
    rcases List.mem_cons.1 hx with rfl | h
    · decide
    · exact hW x h
  have g1 : hit (unstr s) [45] 0 = false := by
    rw [hl]
    rfl
  have g2 : nk (unstr s) [45] 0 = 0 := by
    unfold nk
    rw [g1]
    rfl
  have g4 : dn ((unstr s).drop 0) = (48 :: W).length := by
    rw [hl, List.drop_zero]
    have := dn_run (48 :: W) [] hD (fun _ _ e => by cases e)
    rw [List.append_nil] at this
    exact this
  have g5 : (unstr s).getD 0 0 = 48 := by rw [hl]; rfl
  have hsp : splitOf s = none := by
    unfold splitOf
    simp only [g2, g4]
    rw [if_pos (.inr ⟨by
      have := List.length_pos_iff.2 h0
      rw [List.length_cons]
      omega, g5⟩)]
  unfold parseQ
  rw [if_neg (by omega), hsp]

/-! the tokens of such a text -/
theorem inNum_run {T : List Int} {neg : Bool} {W X : List Int} (hW : Digs W) (hT : T = sgT neg ++ W) {k : Nat} (hk : k < T.length) : inNum (T ++ X) k = true := by
  have e : (T ++ X).getD k 0 = T.getD k 0 := app_at hk
  cases neg with
  | false =>
    have hT' : T = W := hT
    subst hT'
    refine inNum_dig ?_
    rw [e, List.getD_eq_getElem?_getD, List.getElem?_eq_getElem hk]
    exact hW _ (List.getElem_mem _)
  | true =>
    have hT' : T = 45 :: W := hT
    subst hT'
    cases k with
    | zero => exact inNum_minus (by rw [e]; rfl)
    | succ k =>
      refine inNum_dig ?_
      rw [e]
      show isDig (W.getD k 0) = true
      have hk' : k < W.length := by simpa using hk
      rw [List.getD_eq_getElem?_getD, List.getElem?_eq_getElem hk']
      exact hW _ (List.getElem_mem _)
theorem digs_oct {W : List Int} (h : Digs W) : utf.Oct W := fun x hx => by have := dig_range (h x hx); omega
theorem sgT_oct {W : List Int} (h : Digs W) (neg : Bool) : utf.Oct (sgT neg ++ W) := by
  cases neg with
  | false => exact digs_oct h
  | true => exact oct_cons (by decide) (digs_oct h)
theorem num_first {neg : Bool} {W X : List Int} (hW : Digs W) (h0 : W ≠ []) (hX : X = [] ∨ ∃ Y, X = 46 :: 46 :: Y) : firstFs (sgT neg ++ W ++ X) = numberFs (sgT neg ++ W ++ X) ∧ numL (sgT neg ++ W ++ X) = (sgT neg ++ W).length ∧ isWh ((sgT neg ++ W ++ X).getD 0 0) = false := by
  obtain ⟨w0, W', rfl⟩ : ∃ w0 W', W = w0 :: W' := by
    cases W with
    | nil => exact absurd rfl h0
    | cons a b => exact ⟨a, b, rfl⟩
  have hd := hW w0 (List.mem_cons_self ..)
  have hr := dig_range hd
  have hnum' : ∀ T, T = sgT neg ++ (w0 :: W') → numL (T ++ X) = T.length := fun T hT => by
    refine numL_uniq (by rw [List.length_append]; omega) (fun k hk => inNum_run hW hT hk) (fun h => ?_)
    rcases hX with rfl | ⟨Y, rfl⟩
    · rw [List.append_nil] at h
      omega
    · unfold inNum
      rw [app_end, if_pos rfl]
      have e2 : (T ++ 46 :: 46 :: Y).getD (T.length + 1) 0 = 46 := by
        rw [List.getD_eq_getElem?_getD, List.getElem?_append_right (by omega), Nat.add_sub_cancel_left]
        rfl
      rw [e2, show decide (T.length + 1 = (T ++ 46 :: 46 :: Y).length) = false from decide_eq_false (by rw [List.length_append, List.length_cons, List.length_cons]; omega)]
      rfl
  have hnum := hnum' _ rfl
  refine ⟨?_, hnum, ?_⟩
  · cases neg with
    | false =>
      unfold firstFs
      rw [if_neg (by simp [sgT]), if_neg (by show ¬ bgn w0 = true; unfold bgn; simp; omega), if_pos (.inl hd)]
    | true =>
      unfold firstFs
      rw [if_neg (by simp [sgT]), if_neg (by show ¬ bgn 45 = true; decide), if_pos (.inr ⟨rfl, by simp [sgT], hd⟩)]
  · cases neg with
    | false =>
      show isWh w0 = false
      unfold isWh
      simp
      omega
    | true => rfl
def numT (T : List Int) : Tk := ⟨3, [], (parseQ (strOf T)).neg, (parseQ (strOf T)).dg, (parseQ (strOf T)).ex⟩
theorem num_token {neg : Bool} {W X : List Int} (hW : Digs W) (h0 : W ≠ []) (hz : W.length = 1 ∨ W.getD 0 0 ≠ 48) (hs : W.length ≤ 40) (hX : X = [] ∨ ∃ Y, X = 46 :: 46 :: Y) : firstFs (sgT neg ++ W ++ X) = ⟨numT (sgT neg ++ W), (sgT neg ++ W).length, 0⟩ := by
  obtain ⟨h1, h2, _⟩ := num_first (neg := neg) hW h0 hX
  have hp := parse_digs (strOf (sgT neg ++ W)) neg W hW h0 hz (unstr_strOf _ (sgT_oct hW neg)) hs
  rw [h1]
  unfold numberFs
  rw [h2, List.take_left, if_pos hp]
  rfl
theorem num_one {neg : Bool} {W : List Int} (hW : Digs W) (h0 : W ≠ []) (hz : W.length = 1 ∨ W.getD 0 0 ≠ 48) (hs : W.length ≤ 40) : allL (sgT neg ++ W) = ([(numT (sgT neg ++ W), 0, (sgT neg ++ W).length)], 0) := by
  have h1 := num_token (neg := neg) (X := []) hW h0 hz hs (.inl rfl)
  have h2 := (num_first (neg := neg) (X := []) hW h0 (.inl rfl)).2.2
  rw [List.append_nil] at h1 h2
  have hl : (sgT neg).length ≤ 1 := by cases neg <;> decide
  rw [allL_small (by rw [List.length_append]; omega)]
  exact all_one (sgT_oct hW neg) (by simp [h0]) h2 h1 (by show (3 : Int) ≠ 0; decide)
theorem num_three {neg : Bool} {W : List Int} (hW : Digs W) (h0 : W ≠ []) (hz : W.length = 1 ∨ W.getD 0 0 ≠ 48) (hs : W.length ≤ 40) :
    allL (sgT neg ++ W ++ 46 :: 46 :: (sgT neg ++ W)) = ([(numT (sgT neg ++ W), 0, (sgT neg ++ W).length), (⟨4, [46, 46], false, ⟨#[]⟩, 0⟩, (sgT neg ++ W).length, (sgT neg ++ W).length + 2), (numT (sgT neg ++ W), (sgT neg ++ W).length + 2, (sgT neg ++ W).length + 2 + (sgT neg ++ W).length)], 0) := by
  have ha := num_token (neg := neg) (X := 46 :: 46 :: (sgT neg ++ W)) hW h0 hz hs (.inr ⟨_, rfl⟩)
  have hb := num_token (neg := neg) (X := []) hW h0 hz hs (.inl rfl)
  have w1 := (num_first (neg := neg) (X := 46 :: 46 :: (sgT neg ++ W)) hW h0 (.inr ⟨_, rfl⟩)).2.2
  have w3 := (num_first (neg := neg) (X := []) hW h0 (.inl rfl)).2.2
  rw [List.append_nil] at hb w3
  have hO := sgT_oct hW neg
  have hl1 : (sgT neg).length ≤ 1 := by cases neg <;> decide
  have hl2 : (sgT neg ++ W).length ≤ 41 := by rw [List.length_append]; omega
  have hl0 : 1 ≤ (sgT neg ++ W).length := by rw [List.length_append]; have := oct_pos h0; omega
  generalize sgT neg ++ W = T at *
  have hOa : utf.Oct (T ++ 46 :: 46 :: T) := oct_app hO (oct_cons (by decide) (oct_cons (by decide) hO))
  have hlen : (T ++ 46 :: 46 :: T).length = T.length + (T.length + 2) := by rw [List.length_append, List.length_cons, List.length_cons]
  have d1 : (T ++ 46 :: 46 :: T).drop T.length = 46 :: 46 :: T := List.drop_left
  have d2 : (T ++ 46 :: 46 :: T).drop (T.length + 2) = T := by
    rw [← List.drop_drop, d1]
    rfl
  have t0 : toF (T ++ 46 :: 46 :: T) 0 = 0 := toF_stop fun _ => w1
  have t1 : toF (T ++ 46 :: 46 :: T) T.length = T.length := toF_stop fun _ => by rw [app_end]; rfl
  have t2 : toF (T ++ 46 :: 46 :: T) (T.length + 2) = T.length + 2 := toF_stop fun _ => by
    have e : (T ++ 46 :: 46 :: T).getD (T.length + 2) 0 = T.getD 0 0 := by
      have := getD_drop (T ++ 46 :: 46 :: T) (T.length + 2) 0
      rw [d2, Nat.add_zero] at this
      exact this.symm
    rw [e]
    exact w3
  have fs : firstFs (46 :: 46 :: T) = ⟨⟨4, [46, 46], false, ⟨#[]⟩, 0⟩, 2, 0⟩ := by
    have hO4 : utf.Oct (46 :: 46 :: T) := oct_cons (by decide) (oct_cons (by decide) hO)
    unfold firstFs
    rw [if_neg (by simp), if_neg (by show ¬ bgn 46 = true; decide), if_neg (by show ¬ (isDig 46 = true ∨ ((46 : Int) = 45 ∧ _ ∧ _)); rintro (h | ⟨h, _⟩); exact absurd h (by decide); exact absurd h (by decide)), if_neg (by show ¬ ((46 : Int) = 39 ∨ (46 : Int) = 34); decide), signL_eq hO4]
    have hd : dblL (46 :: 46 :: T) = true := by
      have e : dblL (46 :: 46 :: T) = dblL [46, 46] := dblL_ag (a := [46, 46]) ⟨Nat.le_refl 2, by simp, rfl⟩
      rw [e]
      decide +kernel
    rw [if_pos hd]
    rfl
  have hend : toF (T ++ 46 :: 46 :: T) (T.length + 2 + T.length) = T.length + 2 + T.length := toF_stop fun h => absurd h (by omega)
  have c3 : Chain (T ++ 46 :: 46 :: T) (T.length + 2 + T.length) [] := .nil _ (by omega) (by rw [hend]; omega)
  have c2 := Chain.cons (l := T ++ 46 :: 46 :: T) (T.length + 2) (by omega) (numT T) T.length [] hl0 (by rw [t2]; omega) (by rw [t2, d2]; exact hb) (by show (3 : Int) ≠ 0; decide) (by rw [t2]; exact c3)
  have c1 := Chain.cons (l := T ++ 46 :: 46 :: T) T.length (by omega) ⟨4, [46, 46], false, ⟨#[]⟩, 0⟩ 2 _ (by decide) (by rw [t1]; omega) (by rw [t1, d1]; exact fs) (by show (4 : Int) ≠ 0; decide) (by rw [t1]; exact c2)
  have c0 := Chain.cons (l := T ++ 46 :: 46 :: T) 0 (Nat.zero_le _) (numT T) T.length _ hl0 (by rw [t0]; omega) (by rw [t0]; exact ha) (by show (3 : Int) ≠ 0; decide) (by rw [t0, Nat.zero_add]; exact c1)
  have e := c0.all hOa
  rw [t0, t1, t2, Nat.zero_add] at e
  rw [allL_small (by omega)]
  exact e
theorem num_lead {W : List Int} (hW : Digs W) (h0 : W ≠ []) (hs : W.length ≤ 40) : allL (48 :: W) = ([], 2) := by
  have hD : Digs (48 :: W) := fun x hx => by
    rcases List.mem_cons.1 hx with rfl | h
    · decide
    · exact hW x h
  obtain ⟨h1, h2, h3⟩ := num_first (neg := false) (X := []) hD (by simp) (.inl rfl)
  have e : sgT false ++ (48 :: W) ++ [] = 48 :: W := by show (48 :: W) ++ [] = _; rw [List.append_nil]
  have e2 : sgT false ++ (48 :: W) = 48 :: W := rfl
  rw [e] at h1 h2 h3
  rw [e2] at h2
  have hO : utf.Oct (48 :: W) := digs_oct hD
  have hp := parse_lead (strOf (48 :: W)) W hW h0 (unstr_strOf _ hO) (by rw [strOf_size, List.length_cons]; omega)
  have hF : firstFs (48 :: W) = Fs.bad 2 := by
    rw [h1]
    unfold numberFs
    rw [h2, List.take_length, hp]
    rfl
  rw [allL_small (by rw [List.length_cons]; omega), allT_step hO (Nat.zero_le _)]
  have t0 : toF (48 :: W) 0 = 0 := toF_stop fun _ => h3
  rw [t0, List.drop_zero, hF]
  rfl
end Go.Proofs.YtkifndecpbphbaaDoor.dk
