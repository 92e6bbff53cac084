/- What split tells of a text that is made of pieces. -/
import Derived.Test.YtpnhgggdjlglnaaDoorRa
namespace Go.Proofs.YtpnhgggdjlglnaaDoor.dk
open Go.PlainAid Go.ChangeShapes Go.WideShapes Go.ChangeAt Go.RowKit

theorem hit_at (A B sg : List Int) (c : Int) : hit (A ++ c :: B) sg A.length = sg.contains c := by
  unfold hit
  rw [show decide (A.length < (A ++ c :: B).length) = true from decide_eq_true (by simp), List.getD_eq_getElem?_getD, List.getElem?_append_right (Nat.le_refl _), Nat.sub_self]
  simp
theorem hit_end (A sg : List Int) : hit A sg A.length = false := by
  unfold hit
  rw [show decide (A.length < A.length) = false from decide_eq_false (by omega), Bool.false_and]
/-- A text does not go on with one of these signs. -/
def NoHd (sg B : List Int) : Prop := ∀ c t, B = c :: t → sg.contains c = false
theorem hit_no (A B sg : List Int) (h : NoHd sg B) : hit (A ++ B) sg A.length = false := by
  cases B with
  | nil => rw [List.append_nil]; exact hit_end A sg
  | cons c t => rw [hit_at]; exact h c t rfl
theorem dn_run : ∀ (X Y : List Int), Digs X → (∀ c t, Y = c :: t → isDig c = false) → dn (X ++ Y) = X.length
  | [], [], _, _ => rfl
  | [], c :: Y, _, h => by
    show (if isDig c then dn Y + 1 else 0) = 0
    rw [h c Y rfl]
    rfl
  | c :: X, Y, hX, h => by
    show (if isDig c then dn (X ++ Y) + 1 else 0) = X.length + 1
    rw [if_pos (hX c (List.mem_cons_self ..)), dn_run X Y hX.tail h]
theorem drop_app (A B : List Int) : (A ++ B).drop A.length = B := by rw [List.drop_append_of_le_length (Nat.le_refl _), List.drop_length, List.nil_append]
theorem take_app (A B : List Int) : (A ++ B).take A.length = A := by rw [List.take_append_of_le_length (Nat.le_refl _), List.take_length]
/-- The sign ahead. -/
def sgT (neg : Bool) : List Int := if neg then [45] else []
/-- A part behind the point. -/
def ptT (P : List Int) : List Int := if P = [] then [] else 46 :: P
/-- An exponent: its letter, its sign, its digits. -/
inductive ExT : List Int → Int → Prop where
  | none : ExT [] 0
  | plain (c : Int) (X : List Int) (hc : c = 101 ∨ c = 69) (hX : Digs X) (h0 : X ≠ []) : ExT (c :: X) (dexp X)
  | plus (c : Int) (X : List Int) (hc : c = 101 ∨ c = 69) (hX : Digs X) (h0 : X ≠ []) : ExT (c :: 43 :: X) (dexp X)
  | minus (c : Int) (X : List Int) (hc : c = 101 ∨ c = 69) (hX : Digs X) (h0 : X ≠ []) : ExT (c :: 45 :: X) (- dexp X)
theorem ExT.hd {E : List Int} {x : Int} (h : ExT E x) : ∀ c t, E = c :: t → c = 101 ∨ c = 69 := by
  intro c t e
  cases h with
  | none => cases e
  | plain d X hc => injection e with e1; rw [← e1]; exact hc
  | plus d X hc => injection e with e1; rw [← e1]; exact hc
  | minus d X hc => injection e with e1; rw [← e1]; exact hc
theorem not_dig {c : Int} (h : c = 101 ∨ c = 69 ∨ c = 46) : isDig c = false := by rcases h with rfl | rfl | rfl <;> decide
theorem dig_not {c : Int} (h : isDig c = true) : c ≠ 45 ∧ c ≠ 43 ∧ c ≠ 46 ∧ c ≠ 101 ∧ c ≠ 69 := by
  have := dig_range h
  omega
/-- The exponent's part of split, at a place k4 that l goes on from with E. -/
theorem split_tail (s : ByteArray) (A E : List Int) (x : Int) (hE : ExT E x) (hl : unstr s = A ++ E) (n : Bool) (wh pt : ByteArray) :
    (if hit (unstr s) [101, 69] A.length then
      if dn ((unstr s).drop (nk (unstr s) [43, 45] (nk (unstr s) [101, 69] A.length))) = 0 then none else
      if nk (unstr s) [43, 45] (nk (unstr s) [101, 69] A.length) + dn ((unstr s).drop (nk (unstr s) [43, 45] (nk (unstr s) [101, 69] A.length))) = (unstr s).length then some (n, wh, pt, if nc (unstr s) [43, 45] (nk (unstr s) [101, 69] A.length) = 45 then - dexp (((unstr s).drop (nk (unstr s) [43, 45] (nk (unstr s) [101, 69] A.length))).take (dn ((unstr s).drop (nk (unstr s) [43, 45] (nk (unstr s) [101, 69] A.length))))) else dexp (((unstr s).drop (nk (unstr s) [43, 45] (nk (unstr s) [101, 69] A.length))).take (dn ((unstr s).drop (nk (unstr s) [43, 45] (nk (unstr s) [101, 69] A.length)))))) else none
    else if nk (unstr s) [101, 69] A.length = (unstr s).length then some (n, wh, pt, 0) else none) = some (n, wh, pt, x) := by
  rw [hl]
  have hnd : ∀ X : List Int, dn X = dn (X ++ []) := fun X => by rw [List.append_nil]
  have en : ∀ c, c = 101 ∨ c = 69 → ([101, 69] : List Int).contains c = true := fun c hc => by rcases hc with rfl | rfl <;> decide
  have sgn : ∀ c, isDig c = true → ([43, 45] : List Int).contains c = false := fun c hc => by
    have := dig_not hc
    simp only [List.contains_cons, List.contains_nil, Bool.or_false, Bool.or_eq_false_iff, beq_eq_false_iff_ne]
    exact ⟨this.2.1, this.1⟩
  cases hE with
  | none =>
    have k : nk A [101, 69] A.length = A.length := by
      unfold nk
      rw [hit_end, if_neg (by decide)]
    rw [List.append_nil, hit_end, k, if_neg (by decide), if_pos rfl]
  | plain c X hc hX h0 =>
    have k1 : hit (A ++ c :: X) [101, 69] A.length = true := by rw [hit_at]; exact en c hc
    have k5 : nk (A ++ c :: X) [101, 69] A.length = (A ++ [c]).length := by unfold nk; rw [k1, if_pos rfl]; simp
    have e1 : A ++ c :: X = (A ++ [c]) ++ X := by simp
    have k6h : hit (A ++ c :: X) [43, 45] (A ++ [c]).length = false := by
      rw [e1]
      exact hit_no _ _ _ (fun d t e => sgn d (hX d (by rw [e]; exact List.mem_cons_self ..)))
    have k6 : nk (A ++ c :: X) [43, 45] (A ++ [c]).length = (A ++ [c]).length := by unfold nk; rw [k6h, if_neg (by decide)]
    have kc : nc (A ++ c :: X) [43, 45] (A ++ [c]).length = 0 := by unfold nc; rw [k6h, if_neg (by decide)]
    have kd : (A ++ c :: X).drop (A ++ [c]).length = X := by rw [e1]; exact drop_app _ _
    have kn : dn X = X.length := by rw [hnd]; exact dn_run X [] hX (fun _ _ e => by cases e)
    rw [if_pos k1, k5, k6, kc, kd, kn, if_neg (fun e => h0 (List.eq_nil_of_length_eq_zero e)), if_pos (by simp; omega), if_neg (by decide), List.take_length]
  | plus c X hc hX h0 =>
    have k1 : hit (A ++ c :: 43 :: X) [101, 69] A.length = true := by rw [hit_at]; exact en c hc
    have k5 : nk (A ++ c :: 43 :: X) [101, 69] A.length = (A ++ [c]).length := by unfold nk; rw [k1, if_pos rfl]; simp
    have e1 : A ++ c :: 43 :: X = (A ++ [c]) ++ 43 :: X := by simp
    have e2 : A ++ c :: 43 :: X = (A ++ [c] ++ [43]) ++ X := by simp
    have k6h : hit (A ++ c :: 43 :: X) [43, 45] (A ++ [c]).length = true := by rw [e1, hit_at]; decide
    have k6 : nk (A ++ c :: 43 :: X) [43, 45] (A ++ [c]).length = (A ++ [c] ++ [43]).length := by unfold nk; rw [k6h, if_pos rfl]; simp
    have kc : nc (A ++ c :: 43 :: X) [43, 45] (A ++ [c]).length = 43 := by
      unfold nc
      rw [k6h, if_pos rfl, e1, List.getD_eq_getElem?_getD, List.getElem?_append_right (Nat.le_refl _), Nat.sub_self]
      rfl
    have kd : (A ++ c :: 43 :: X).drop (A ++ [c] ++ [43]).length = X := by rw [e2]; exact drop_app _ _
    have kn : dn X = X.length := by rw [hnd]; exact dn_run X [] hX (fun _ _ e => by cases e)
    rw [if_pos k1, k5, k6, kc, kd, kn, if_neg (fun e => h0 (List.eq_nil_of_length_eq_zero e)), if_pos (by simp; omega), if_neg (by decide), List.take_length]
  | minus c X hc hX h0 =>
    have k1 : hit (A ++ c :: 45 :: X) [101, 69] A.length = true := by rw [hit_at]; exact en c hc
    have k5 : nk (A ++ c :: 45 :: X) [101, 69] A.length = (A ++ [c]).length := by unfold nk; rw [k1, if_pos rfl]; simp
    have e1 : A ++ c :: 45 :: X = (A ++ [c]) ++ 45 :: X := by simp
    have e2 : A ++ c :: 45 :: X = (A ++ [c] ++ [45]) ++ X := by simp
    have k6h : hit (A ++ c :: 45 :: X) [43, 45] (A ++ [c]).length = true := by rw [e1, hit_at]; decide
    have k6 : nk (A ++ c :: 45 :: X) [43, 45] (A ++ [c]).length = (A ++ [c] ++ [45]).length := by unfold nk; rw [k6h, if_pos rfl]; simp
    have kc : nc (A ++ c :: 45 :: X) [43, 45] (A ++ [c]).length = 45 := by
      unfold nc
      rw [k6h, if_pos rfl, e1, List.getD_eq_getElem?_getD, List.getElem?_append_right (Nat.le_refl _), Nat.sub_self]
      rfl
    have kd : (A ++ c :: 45 :: X).drop (A ++ [c] ++ [45]).length = X := by rw [e2]; exact drop_app _ _
    have kn : dn X = X.length := by rw [hnd]; exact dn_run X [] hX (fun _ _ e => by cases e)
    rw [if_pos k1, k5, k6, kc, kd, kn, if_neg (fun e => h0 (List.eq_nil_of_length_eq_zero e)), if_pos (by simp; omega), if_pos rfl, List.take_length]
/-- What split tells of a text of pieces. -/
theorem split_pieces (s : ByteArray) (neg : Bool) (W P E : List Int) (x : Int) (hW : Digs W) (hW0 : W ≠ []) (hWz : W.length = 1 ∨ W.getD 0 0 ≠ 48) (hP : Digs P) (hE : ExT E x)
    (hl : unstr s = sgT neg ++ W ++ ptT P ++ E) : ∃ wh pt, splitOf s = some (neg, wh, pt, x) ∧ unstr wh = W ∧ unstr pt = P := by
  have hEh := hE.hd
  obtain ⟨w0, W', rfl⟩ : ∃ w0 W', W = w0 :: W' := by
    cases W with
    | nil => exact absurd rfl hW0
    | cons a b => exact ⟨a, b, rfl⟩
  have hw0 := dig_not (hW w0 (List.mem_cons_self ..))
  have g1 : hit (unstr s) [45] 0 = neg := by
    rw [hl]
    cases neg
    · have := hit_at [] (W' ++ ptT P ++ E) [45] w0
      rw [show sgT false ++ w0 :: W' ++ ptT P ++ E = [] ++ w0 :: (W' ++ ptT P ++ E) by simp [sgT]]
      refine this.trans ?_
      simp only [List.contains_cons, List.contains_nil, Bool.or_false, beq_eq_false_iff_ne]
      exact hw0.1
    · have := hit_at [] (w0 :: W' ++ ptT P ++ E) [45] 45
      rw [show sgT true ++ w0 :: W' ++ ptT P ++ E = [] ++ 45 :: (w0 :: W' ++ ptT P ++ E) by simp [sgT]]
      exact this
  have g2 : nk (unstr s) [45] 0 = (sgT neg).length := by
    unfold nk
    rw [g1]
    cases neg <;> rfl
  have g3 : (unstr s).drop (sgT neg).length = w0 :: W' ++ (ptT P ++ E) := by
    rw [hl, List.append_assoc, List.append_assoc, drop_app]
  have hR : ∀ c t, ptT P ++ E = c :: t → isDig c = false := fun c t e => by
    unfold ptT at e
    by_cases h0 : P = []
    · rw [if_pos h0] at e
      rcases hEh c t e with h | h
      · exact not_dig (.inl h)
      · exact not_dig (.inr (.inl h))
    · rw [if_neg h0] at e
      injection e with e1 _
      exact not_dig (.inr (.inr e1.symm))
  have g4 : dn ((unstr s).drop (sgT neg).length) = (w0 :: W').length := by rw [g3]; exact dn_run _ _ hW hR
  have g5 : ¬ ((w0 :: W').length = 0 ∨ (1 < (w0 :: W').length ∧ (unstr s).getD (sgT neg).length 0 = 48)) := by
    rintro (h | ⟨h1, h2⟩)
    · exact absurd h (by simp)
    · rcases hWz with h | h
      · omega
      · apply h
        have : (unstr s).getD (sgT neg).length 0 = ((unstr s).drop (sgT neg).length).getD 0 0 := by rw [getD_drop, Nat.add_zero]
        rw [this, g3] at h2
        exact h2
  have g6 : (sgT neg).length + (w0 :: W').length = (sgT neg ++ w0 :: W').length := by rw [List.length_append]
  have gw : unstr (s.extract (sgT neg).length ((sgT neg ++ w0 :: W').length)) = w0 :: W' := by rw [← g6, cut_unstr, g3, take_app]
  unfold splitOf
  simp only [g2, g4]
  rw [if_neg g5, g6]
  by_cases h0 : P = []
  · subst h0
    have e1 : ptT [] = [] := rfl
    rw [e1, List.append_nil] at hl
    have g7 : hit (unstr s) [46] (sgT neg ++ w0 :: W').length = false := by
      rw [hl]
      refine hit_no _ _ _ fun c t e => ?_
      rcases hEh c t e with rfl | rfl <;> decide
    have g8 : nk (unstr s) [46] (sgT neg ++ w0 :: W').length = (sgT neg ++ w0 :: W').length := by unfold nk; rw [g7, if_neg (by decide)]
    have := split_tail s (sgT neg ++ w0 :: W') E x hE hl neg (s.extract (sgT neg).length ((sgT neg ++ w0 :: W').length)) (s.extract (sgT neg ++ w0 :: W').length (sgT neg ++ w0 :: W').length)
    rw [g7, g8, g1]
    simp only [Bool.false_eq_true, false_and, if_false, Nat.add_zero]
    exact ⟨_, _, this, gw, by rw [cut_none]; rfl⟩
  · have e1 : ptT P = 46 :: P := if_neg h0
    rw [e1] at hl
    have e2 : sgT neg ++ w0 :: W' ++ 46 :: P ++ E = (sgT neg ++ w0 :: W') ++ 46 :: (P ++ E) := by simp
    have e3 : sgT neg ++ w0 :: W' ++ 46 :: P ++ E = (sgT neg ++ w0 :: W' ++ [46]) ++ (P ++ E) := by simp
    have e4 : sgT neg ++ w0 :: W' ++ 46 :: P ++ E = (sgT neg ++ w0 :: W' ++ [46] ++ P) ++ E := by simp
    have g7 : hit (unstr s) [46] (sgT neg ++ w0 :: W').length = true := by rw [hl, e2, hit_at]; decide
    have g8 : nk (unstr s) [46] (sgT neg ++ w0 :: W').length = (sgT neg ++ w0 :: W' ++ [46]).length := by
      unfold nk
      rw [g7, if_pos rfl]
      have h : ((sgT neg ++ w0 :: W') ++ [46]).length = (sgT neg ++ w0 :: W').length + 1 := List.length_append
      exact h.symm
    have g9 : (unstr s).drop (sgT neg ++ w0 :: W' ++ [46]).length = P ++ E := by rw [hl, e3, drop_app]
    have ga : dn ((unstr s).drop (sgT neg ++ w0 :: W' ++ [46]).length) = P.length := by
      rw [g9]
      refine dn_run _ _ hP fun c t e => ?_
      rcases hEh c t e with h | h
      · exact not_dig (.inl h)
      · exact not_dig (.inr (.inl h))
    have gb : (sgT neg ++ w0 :: W' ++ [46]).length + P.length = (sgT neg ++ w0 :: W' ++ [46] ++ P).length := (List.length_append : ((sgT neg ++ w0 :: W' ++ [46]) ++ P).length = (sgT neg ++ w0 :: W' ++ [46]).length + P.length).symm
    have := split_tail s (sgT neg ++ w0 :: W' ++ [46] ++ P) E x hE (hl.trans e4) neg (s.extract (sgT neg).length ((sgT neg ++ w0 :: W').length)) (s.extract (sgT neg ++ w0 :: W' ++ [46]).length (sgT neg ++ w0 :: W' ++ [46] ++ P).length)
    rw [g7, g8, if_pos rfl, ga, if_neg (fun h => h0 (List.eq_nil_of_length_eq_zero h.2)), gb, g1]
    exact ⟨_, _, this, gw, by rw [← gb, cut_unstr, g9, take_app]⟩
end Go.Proofs.YtpnhgggdjlglnaaDoor.dk
/- What is printed is parsed to itself. -/
namespace Go.Proofs.YtpnhgggdjlglnaaDoor.dk
open Go.PlainAid Go.ChangeShapes Go.WideShapes Go.ChangeAt Go.RowKit

theorem unstr_app (a b : ByteArray) : unstr (a ++ b) = unstr a ++ unstr b := by
  unfold unstr
  rw [ByteArray.data_append, Array.toList_append, List.map_append]
theorem unstr_of (x : List UInt8) : unstr ⟨x.toArray⟩ = ud x := rfl
/-- What Parse tells of a text of pieces. -/
theorem parse_pieces (s : ByteArray) (neg : Bool) (W P E : List Int) (x : Int) (hW : Digs W) (hW0 : W ≠ []) (hWz : W.length = 1 ∨ W.getD 0 0 ≠ 48) (hP : Digs P) (hE : ExT E x)
    (hl : unstr s = sgT neg ++ W ++ ptT P ++ E) (hs : s.size ≤ 1000) (hx : -4000 ≤ x - (P.length : Int)) :
    ∃ y : Nm, parseP s = y.told ∧ y.Norm ∧ low ≤ y.ex ∧ y.val = if neg then - (nv (W ++ P) * 10 ^ (x - (P.length : Int) - low).toNat) else nv (W ++ P) * 10 ^ (x - (P.length : Int) - low).toNat := by
  obtain ⟨wh, pt, h1, h2, h3⟩ := split_pieces s neg W P E x hW hW0 hWz hP hE hl
  have hu : unstr (wh ++ pt) = W ++ P := by rw [unstr_app, h2, h3]
  have hp : (pt.size : Int) = (P.length : Int) := by rw [← unstr_length, h3]
  refine ⟨fmN neg (wh ++ pt) (x - (pt.size : Int)), ?_, fmN_norm _ _ _ (by rw [hu]; exact hW.append hP), fmN_ex _ _ _ (by rw [low_eq, hp]; exact hx), ?_⟩
  · unfold parseP
    rw [if_neg (by omega), h1]
    rfl
  · rw [fmN_val _ _ _ (by rw [low_eq, hp]; exact hx), hu, hp]
theorem dec_facts (u : Nat) : Digs (ud (Lib.decDigits u)) ∧ Lib.decDigits u ≠ [] ∧ nv (ud (Lib.decDigits u)) = u ∧ (u ≤ 1000000 → dexp (ud (Lib.decDigits u)) = u) ∧ (0 < u → (ud (Lib.decDigits u)).getD 0 0 ≠ 48) := by
  induction u using Nat.strongRecOn with
  | _ u ih =>
    have one : ∀ k : Nat, k < 10 → ((UInt8.ofNat (48 + k)).toNat : Int) = 48 + (k : Int) := fun k hk => by
      rw [UInt8.toNat_ofNat']
      omega
    have dig : ∀ k : Nat, k < 10 → isDig (48 + (k : Int)) = true := fun k hk => by
      unfold isDig
      simp only [Bool.and_eq_true, decide_eq_true_eq]
      omega
    by_cases h : u < 10
    · rw [Lib.decDigits_one h]
      have e : ud [UInt8.ofNat (48 + u)] = [48 + (u : Int)] := by
        show [((UInt8.ofNat (48 + u)).toNat : Int)] = _
        rw [one u h]
      rw [e]
      refine ⟨fun x hx => ?_, by simp, ?_, fun _ => ?_, fun h0 => ?_⟩
      · rw [List.mem_singleton.1 hx]
        exact dig u h
      · show (48 + (u : Int) - 48) * 10 ^ 0 + 0 = _
        rw [Int.pow_zero]
        omega
      · show min (0 * 10 + (48 + (u : Int) - 48)) 1000000 = _
        omega
      · show 48 + (u : Int) ≠ 48
        omega
    · obtain ⟨i1, i2, i3, i4, i5⟩ := ih (u / 10) (by omega)
      have e : ud (Lib.decDigits u) = ud (Lib.decDigits (u / 10)) ++ [48 + ((u % 10 : Nat) : Int)] := by
        rw [Lib.decDigits, dif_neg h]
        unfold ud
        rw [List.map_append]
        show _ ++ [((UInt8.ofNat (48 + u % 10)).toNat : Int)] = _
        rw [one (u % 10) (by omega)]
      have n0 : ud (Lib.decDigits (u / 10)) ≠ [] := fun e => i2 (List.map_eq_nil_iff.1 e)
      refine ⟨?_, fun he => ?_, ?_, fun hu => ?_, fun _ => ?_⟩
      · rw [e]
        refine i1.append fun x hx => ?_
        rw [List.mem_singleton.1 hx]
        exact dig _ (by omega)
      · rw [he] at e
        exact absurd e.symm (by show ¬ _ ++ [_] = ([] : List Int); simp)
      · rw [e, nv_last, i3]
        omega
      · rw [e]
        unfold dexp
        rw [List.foldl_append]
        show min (dexp (ud (Lib.decDigits (u / 10))) * 10 + (48 + ((u % 10 : Nat) : Int) - 48)) 1000000 = _
        rw [i4 (by omega)]
        omega
      · rw [e, List.getD_eq_getElem?_getD, List.getElem?_append_left (List.length_pos_iff.2 n0), ← List.getD_eq_getElem?_getD]
        exact i5 (by omega)
theorem zers_list (k : Nat) : unstr (zers k) = List.replicate k 48 := by
  show ud (Lib.repeatL [48] k) = _
  induction k with
  | zero => rfl
  | succ k ih =>
    show ud ([48] ++ Lib.repeatL [48] k) = _
    rw [List.replicate_succ, ← ih]
    rfl
theorem zeros_digs (k : Nat) : Digs (List.replicate k 48) := fun x hx => by
  rw [(List.mem_replicate.1 hx).2]
  decide
theorem sign_text (neg : Bool) : unstr (if neg then (⟨#[45]⟩ : ByteArray) else ⟨#[]⟩) = sgT neg := by cases neg <;> rfl
theorem cut_pre (s : ByteArray) (k : Nat) : unstr (s.extract 0 k) = (unstr s).take k := by
  have := cut_unstr s 0 k
  rw [Nat.zero_add, List.drop_zero] at this
  exact this
theorem cut_post (s : ByteArray) (k : Nat) (h : k ≤ s.size) : unstr (s.extract k s.size) = (unstr s).drop k := by
  have := cut_unstr s k (s.size - k)
  rw [show k + (s.size - k) = s.size by omega] at this
  rw [this, List.take_of_length_le (by rw [List.length_drop, unstr_length]; omega)]
/-- From a text of pieces of that value back to the number. -/
theorem back_of {d : Nm} (h : d.ok = true) (s : ByteArray) (W P E : List Int) (x : Int) (hW : Digs W) (hW0 : W ≠ []) (hWz : W.length = 1 ∨ W.getD 0 0 ≠ 48) (hP : Digs P) (hE : ExT E x)
    (hl : unstr s = sgT d.neg ++ W ++ ptT P ++ E) (hs : s.size ≤ 1000) (hx : -4000 ≤ x - (P.length : Int)) (hv : nv (W ++ P) * 10 ^ (x - (P.length : Int) - low).toNat = d.mag) : parseP s = (d, 0) := by
  obtain ⟨y, h1, h2, h3, h4⟩ := parse_pieces s d.neg W P E x hW hW0 hWz hP hE hl hs hx
  rw [hv] at h4
  rw [h1, Nm.uniq h2 (Nm.ok_norm h) h3 (low_ok h) h4, told_ok h]
theorem parse_zero : parseP ⟨#[48]⟩ = (Nm.zero, 0) := by kernel_rfl
theorem print_back {d : Nm} (h : d.ok = true) : parseP (printT d.neg d.dg d.ex) = (d, 0) := by
  have hn := Nm.ok_norm h
  have hL := Nm.ok_low h
  have hb : ¬ d.dg.size = 0 → -400 - (d.dg.size : Int) ≤ d.ex ∧ d.ex ≤ 400 - (d.dg.size : Int) := fun h0 => by
    have := dsane_bounds h h0
    exact ⟨this.2.1, this.2.2.1⟩
  unfold printT
  rw [if_pos (show dsane d.neg (unstr d.dg) d.ex = true from h)]
  by_cases hz : d.dg.size = 0
  · rw [if_pos hz, nm_zero h hz]
    exact parse_zero
  rw [if_neg hz]
  obtain ⟨b1, b2⟩ := hb hz
  have len : (unstr d.dg).length = d.dg.size := unstr_length _
  have ll : d.l = unstr d.dg := rfl
  have hd : Digs (unstr d.dg) := hn.n.dig
  have hne : unstr d.dg ≠ [] := l_full hz
  have hhd : (unstr d.dg).getD 0 0 ≠ 48 := by
    have := hn.n.fst
    rw [ll] at this
    cases e : unstr d.dg with
    | nil => exact absurd e hne
    | cons c t => exact this c t e
  have sgl : ∀ neg, (sgT neg).length ≤ 1 := fun neg => by cases neg <;> decide
  have mg : ∀ (N : Int) (p q : Nat), p = q → N * 10 ^ p = N * 10 ^ q := fun N p q e => by rw [e]
  unfold sizeT
  by_cases c1 : (d.dg.size : Int) ≤ (d.dg.size : Int) + d.ex ∧ (d.dg.size : Int) + d.ex ≤ 21
  · rw [if_pos c1]
    obtain ⟨k, hk⟩ : ∃ k : Nat, k = ((d.dg.size : Int) + d.ex - (d.dg.size : Int)).toNat := ⟨_, rfl⟩
    rw [← hk]
    have hl : unstr ((if d.neg then (⟨#[45]⟩ : ByteArray) else ⟨#[]⟩) ++ (d.dg ++ zers k)) = sgT d.neg ++ (unstr d.dg ++ List.replicate k 48) ++ ptT [] ++ [] := by
      rw [unstr_app, unstr_app, sign_text, zers_list]
      simp [ptT]
    refine back_of h _ (unstr d.dg ++ List.replicate k 48) [] [] 0 (hd.append (zeros_digs k)) (by simp [hne]) (.inr ?_) (fun x hx => by cases hx) .none hl ?_ (by decide) ?_
    · rw [List.getD_eq_getElem?_getD, List.getElem?_append_left (by omega), ← List.getD_eq_getElem?_getD]
      exact hhd
    · rw [← unstr_length, hl]
      have := sgl d.neg
      simp [ptT]
      omega
    · rw [List.append_nil, nv_append, nv_zeros, Int.add_zero, List.length_replicate, Int.mul_assoc, ← Int.pow_add]
      exact mg _ _ _ (by rw [low_eq]; show k + (0 - ((0 : Nat) : Int) - -4000).toNat = _; omega)
  rw [if_neg c1]
  by_cases c2 : 1 ≤ (d.dg.size : Int) + d.ex ∧ (d.dg.size : Int) + d.ex ≤ 21
  · rw [if_pos c2]
    obtain ⟨k, hk⟩ : ∃ k : Nat, k = ((d.dg.size : Int) + d.ex).toNat := ⟨_, rfl⟩
    rw [← hk]
    have hpe : (unstr d.dg).drop k ≠ [] := fun e => by
      have := congrArg List.length e
      rw [List.length_drop] at this
      simp at this
      omega
    have hl : unstr ((if d.neg then (⟨#[45]⟩ : ByteArray) else ⟨#[]⟩) ++ ((d.dg.extract 0 k ++ ⟨#[46]⟩) ++ d.dg.extract k d.dg.size)) = sgT d.neg ++ (unstr d.dg).take k ++ ptT ((unstr d.dg).drop k) ++ [] := by
      rw [unstr_app, unstr_app, unstr_app, sign_text, cut_pre, cut_post _ _ (by omega), show ptT ((unstr d.dg).drop k) = 46 :: (unstr d.dg).drop k from if_neg hpe]
      show _ ++ (_ ++ [46] ++ _) = _
      simp
    refine back_of h _ ((unstr d.dg).take k) ((unstr d.dg).drop k) [] 0 (fun x hx => hd x (List.mem_of_mem_take hx)) (fun e => ?_) (.inr ?_) (fun x hx => hd x (List.mem_of_mem_drop hx)) .none hl ?_ ?_ ?_
    · have := congrArg List.length e
      rw [List.length_take, List.length_nil] at this
      omega
    · rw [List.getD_eq_getElem?_getD, List.getElem?_take, if_pos (by omega), ← List.getD_eq_getElem?_getD]
      exact hhd
    · rw [← unstr_length, hl]
      have := sgl d.neg
      simp [ptT, hpe]
      omega
    · rw [List.length_drop]
      omega
    · rw [List.take_append_drop]
      exact mg _ _ _ (by rw [low_eq, List.length_drop]; omega)
  rw [if_neg c2]
  by_cases c3 : -5 ≤ (d.dg.size : Int) + d.ex ∧ (d.dg.size : Int) + d.ex ≤ 0
  · rw [if_pos c3]
    obtain ⟨k, hk⟩ : ∃ k : Nat, k = (-((d.dg.size : Int) + d.ex)).toNat := ⟨_, rfl⟩
    rw [← hk]
    have hpe : List.replicate k 48 ++ unstr d.dg ≠ [] := by simp [hne]
    have hl : unstr ((if d.neg then (⟨#[45]⟩ : ByteArray) else ⟨#[]⟩) ++ ((⟨#[48, 46]⟩ ++ zers k) ++ d.dg)) = sgT d.neg ++ [48] ++ ptT (List.replicate k 48 ++ unstr d.dg) ++ [] := by
      rw [unstr_app, unstr_app, unstr_app, sign_text, zers_list, show ptT (List.replicate k 48 ++ unstr d.dg) = 46 :: (List.replicate k 48 ++ unstr d.dg) from if_neg hpe]
      show _ ++ ([48, 46] ++ _ ++ _) = _
      simp
    refine back_of h _ [48] (List.replicate k 48 ++ unstr d.dg) [] 0 (fun x hx => by rw [List.mem_singleton.1 hx]; decide) (by simp) (.inl rfl) ((zeros_digs k).append hd) .none hl ?_ ?_ ?_
    · rw [← unstr_length, hl, show ptT (List.replicate k 48 ++ unstr d.dg) = 46 :: (List.replicate k 48 ++ unstr d.dg) from if_neg hpe]
      have := sgl d.neg
      simp
      omega
    · rw [List.length_append, List.length_replicate]
      omega
    · rw [nv_append, nv_append, nv_zeros, Int.zero_mul, Int.zero_add, show nv [48] = 0 from rfl, Int.zero_mul, Int.zero_add]
      exact mg _ _ _ (by rw [low_eq, List.length_append, List.length_replicate]; omega)
  rw [if_neg c3]
  unfold expT
  -- the head
  obtain ⟨W, P, eH, w0, wz, hW, hP, hWP, hPl, hsz⟩ : ∃ W P, unstr (headT d.dg) = W ++ ptT P ∧ W ≠ [] ∧ W.getD 0 0 ≠ 48 ∧ Digs W ∧ Digs P ∧ W ++ P = unstr d.dg ∧ P.length + 1 = d.dg.size ∧ (unstr (headT d.dg)).length ≤ 41 := by
    have hsz : (unstr (headT d.dg)).length ≤ 41 := by
      have := headT_size d.dg
      rw [unstr_length]
      omega
    unfold headT at hsz ⊢
    by_cases h1 : 1 < d.dg.size
    · rw [if_pos h1] at hsz ⊢
      have hpe : (unstr d.dg).drop 1 ≠ [] := fun e => by
        have := congrArg List.length e
        rw [List.length_drop] at this
        simp at this
        omega
      refine ⟨(unstr d.dg).take 1, (unstr d.dg).drop 1, ?_, fun e => ?_, ?_, fun x hx => hd x (List.mem_of_mem_take hx), fun x hx => hd x (List.mem_of_mem_drop hx), List.take_append_drop _ _, by rw [List.length_drop]; omega, hsz⟩
      · rw [unstr_app, unstr_app, cut_pre, cut_post _ _ (by omega), show ptT ((unstr d.dg).drop 1) = 46 :: (unstr d.dg).drop 1 from if_neg hpe]
        rfl
      · have := congrArg List.length e
        rw [List.length_take, List.length_nil] at this
        omega
      · rw [List.getD_eq_getElem?_getD, List.getElem?_take, if_pos (by omega), ← List.getD_eq_getElem?_getD]
        exact hhd
    · rw [if_neg h1] at hsz ⊢
      have e1 : (unstr d.dg).take 1 = unstr d.dg := List.take_of_length_le (by omega)
      refine ⟨unstr d.dg, [], ?_, hne, hhd, hd, (fun x hx => by cases hx), List.append_nil _, by show 0 + 1 = _; omega, hsz⟩
      rw [cut_pre, e1]
      exact (List.append_nil _).symm
  obtain ⟨E, x, hE, hx, eE, lE⟩ : ∃ E x, ExT E x ∧ x = (d.dg.size : Int) + d.ex - 1 ∧ unstr (if 0 < (d.dg.size : Int) + d.ex then (⟨#[101, 43]⟩ : ByteArray) else ⟨#[101]⟩) ++ unstr ⟨(Lib.itoa ((d.dg.size : Int) + d.ex - 1)).toArray⟩ = E ∧ E.length ≤ 23 := by
    have hlen := Lib.itoa_length_le ((d.dg.size : Int) + d.ex - 1) (by omega) (by omega)
    by_cases h1 : 0 < (d.dg.size : Int) + d.ex
    · obtain ⟨u, hu⟩ : ∃ u : Nat, (u : Int) = (d.dg.size : Int) + d.ex - 1 := ⟨((d.dg.size : Int) + d.ex - 1).toNat, by omega⟩
      obtain ⟨f1, f2, f3, f4, _⟩ := dec_facts u
      rw [if_pos h1, ← hu, Lib.itoa_nonneg, unstr_of]
      rw [← hu, Lib.itoa_nonneg] at hlen
      refine ⟨101 :: 43 :: ud (Lib.decDigits u), _, .plus 101 _ (.inl rfl) f1 (fun e => f2 (List.map_eq_nil_iff.1 e)), ?_, rfl, ?_⟩
      · rw [f4 (by omega)]
      · show (List.map _ _).length + 1 + 1 ≤ 23
        rw [List.length_map]
        omega
    · obtain ⟨u, hu⟩ : ∃ u : Nat, -(u : Int) = (d.dg.size : Int) + d.ex - 1 := ⟨(-((d.dg.size : Int) + d.ex - 1)).toNat, by omega⟩
      obtain ⟨f1, f2, f3, f4, _⟩ := dec_facts u
      rw [if_neg h1, ← hu, Lib.itoa_neg u (by omega), unstr_of]
      rw [← hu, Lib.itoa_neg u (by omega)] at hlen
      refine ⟨101 :: 45 :: ud (Lib.decDigits u), _, .minus 101 _ (.inl rfl) f1 (fun e => f2 (List.map_eq_nil_iff.1 e)), ?_, rfl, ?_⟩
      · rw [f4 (by omega)]
      · rw [List.length_cons] at hlen
        show (List.map _ _).length + 1 + 1 ≤ 23
        rw [List.length_map]
        omega
  have hl : unstr ((if d.neg then (⟨#[45]⟩ : ByteArray) else ⟨#[]⟩) ++ ((headT d.dg ++ (if 0 < (d.dg.size : Int) + d.ex then (⟨#[101, 43]⟩ : ByteArray) else ⟨#[101]⟩)) ++ ⟨(Lib.itoa ((d.dg.size : Int) + d.ex - 1)).toArray⟩)) = sgT d.neg ++ W ++ ptT P ++ E := by
    rw [unstr_app, unstr_app, unstr_app, sign_text, List.append_assoc, eE, eH, List.append_assoc, List.append_assoc, List.append_assoc]
  refine back_of h _ W P E x hW w0 (.inr wz) hP hE hl ?_ (by omega) ?_
  · rw [← unstr_length, hl, List.append_assoc (sgT d.neg), ← eH, List.length_append, List.length_append]
    have := sgl d.neg
    omega
  · rw [hWP]
    exact mg _ _ _ (by rw [low_eq]; omega)
end Go.Proofs.YtpnhgggdjlglnaaDoor.dk
