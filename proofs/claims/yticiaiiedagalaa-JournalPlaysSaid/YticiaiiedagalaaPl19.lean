/- Records one behind the other, and a torn one behind them: what is told. -/
import Derived.Test.YticiaiiedagalaaPl18
namespace Go.Proofs.Yticiaiiedagalaa.dk
open Go.PlainAid Go.ChangeShapes Go.WideShapes Go.ChangeAt Go.RowKit

/-- Where the t-th record begins. -/
def plK (f : Nat → List Int) : Nat → Nat
  | 0 => 0
  | t + 1 => plK f t + needN (f t).length
def bsK (f : Nat → List Int) (j : Nat) : List (List Int) := (List.range j).map f
theorem bsK_succ (f : Nat → List Int) (j : Nat) : bsK f (j + 1) = bsK f j ++ [f j] := by unfold bsK; rw [List.range_succ, List.map_append]; rfl
theorem bsK_len (f : Nat → List Int) (j : Nat) : (bsK f j).length = j := by simp [bsK]
/-- j records lie from the first sector on; behind them is nothing. -/
structure SeqN (f : Nat → List Int) (n j : Nat) (S : Nat → List Int) : Prop where
  fit : plK f j ≤ n
  rec_ : ∀ t, t < j → ∀ i, i < needN (f t).length → S (plK f t + i) = pieceOf 1 (t + 1) (f t) (needN (f t).length) i
  zero : ∀ x, plK f j ≤ x → x < n → S x = List.replicate 64 0
theorem plK_mono (f : Nat → List Int) (t : Nat) : ∀ j, t ≤ j → plK f t ≤ plK f j
  | 0, h => by obtain rfl : t = 0 := by omega
               exact Nat.le_refl _
  | j + 1, h => by
    by_cases e : t = j + 1
    · subst e; exact Nat.le_refl _
    · have := plK_mono f t j (by omega)
      show plK f t ≤ plK f j + _
      omega
theorem plK_in (f : Nat → List Int) {t j : Nat} (h : t < j) : plK f t + needN (f t).length ≤ plK f j := plK_mono f (t + 1) j h
theorem seq_zero (f : Nat → List Int) (n : Nat) (S : Nat → List Int) (h : ∀ x, x < n → S x = List.replicate 64 0) : SeqN f n 0 S := ⟨Nat.zero_le _, fun t h => absurd h (by omega), fun x _ hx => h x hx⟩
theorem seq_succ {f : Nat → List Int} {n j : Nat} {S S' : Nat → List Int} (h : SeqN f n j S) (hf : plK f j + needN (f j).length ≤ n) (hs : ∀ x, x < n → S' x = if plK f j ≤ x ∧ x < plK f j + needN (f j).length then pieceOf 1 (j + 1) (f j) (needN (f j).length) (x - plK f j) else S x) : SeqN f n (j + 1) S' where
  fit := hf
  rec_ := fun t ht i hi => by
    by_cases e : t = j
    · subst e
      rw [hs _ (by omega), if_pos (by omega), show plK f t + i - plK f t = i by omega]
    · have h1 := plK_in f (t := t) (j := j) (by omega)
      rw [hs _ (by omega), if_neg (by omega)]
      exact h.rec_ t (by omega) i hi
  zero := fun x hx hn => by
    have hx' : plK f j + needN (f j).length ≤ x := hx
    rw [hs x hn, if_neg (by omega)]
    exact h.zero x (by omega) hn
structure Few (f : Nat → List Int) (j : Nat) : Prop where
  j1 : j ≤ 100
  big : ∀ t, t < j → needN (f t).length ≤ 65535
theorem gath_seq {f : Nat → List Int} {n j : Nat} {F : Nat → Option (List Int)} (hw : Few f j) (hfit : plK f j ≤ n) (hr : ∀ t, t < j → ∀ i, i < needN (f t).length → F (plK f t + i) = some (pieceOf 1 (t + 1) (f t) (needN (f t).length) i)) (num0 : Int) (r : Nat) : ∀ t, t ≤ j →
    ∃ num last, gathF F n (j + r) 0 num0 none [] = gathF F n (j - t + r) (plK f t) num last (bsK f t) ∧ ((t = 0 ∧ last = none) ∨ (num = (t : Int) + 1 ∧ ∃ q, last = some q ∧ fS q = 1))
  | 0, _ => ⟨num0, none, rfl, .inl ⟨rfl, rfl⟩⟩
  | t + 1, ht => by
    obtain ⟨num, last, e, hl⟩ := gath_seq hw hfit hr num0 r t (by omega)
    have hj := hw.j1
    have hin := plK_in f (t := t) (j := j) (by omega)
    have hrec : RecHere F n (plK f t) 1 ((t : Int) + 1) (f t) := ⟨by omega, hw.big t (by omega), by omega, by omega, fun i hi => hr t (by omega) i hi⟩
    have hs : stopAt last num (pieceOf 1 ((t : Int) + 1) (f t) (needN (f t).length) 0) = false := by
      rcases hl with ⟨_, rfl⟩ | ⟨hn, q, rfl, hq⟩
      · rfl
      · simp only [stopAt, piece_N _ _ _ _ _ (show (0 : Int) ≤ (t : Int) + 1 ∧ (t : Int) + 1 ≤ 4294967295 by omega), piece_S _ _ _ _ _ (show (0 : Int) ≤ 1 ∧ (1 : Int) ≤ 4294967295 by omega), hq, hn]
        simp
    have e2 := gath_rec hrec (j - (t + 1) + r) num last (bsK f t) hs
    rw [show j - (t + 1) + r + 1 = j - t + r by omega] at e2
    refine ⟨((t : Int) + 1 + 1) % 4294967296, some (pieceOf 1 ((t : Int) + 1) (f t) (needN (f t).length) 0), e.trans (e2.trans ?_), .inr ⟨?_, _, rfl, piece_S _ _ _ _ _ (by omega)⟩⟩
    · rw [bsK_succ]; rfl
    · rw [Int.emod_eq_of_lt (by omega) (by omega)]; rfl
/-- What is torn is not told. -/
theorem gath_torn {F : Nat → Option (List Int)} {n pl c : Nat} {s nu : Int} {b : List Int} (hc : c ≤ 65535) (hf : pl + c ≤ n) (h0 : F pl = none ∨ F pl = some (pieceOf s nu b c 0)) (i : Nat) (hi : i < c) (hn : F (pl + i) = none) (f : Nat) (num : Int) (last : Option (List Int)) (out : List (List Int)) :
    gathF F n f pl num last out = (pl, num, out) := by
  rcases h0 with h0 | h0
  · exact gath_none f num last out h0
  · cases f with
    | zero => rfl
    | succ f =>
      have hcc : fC (pieceOf s nu b c 0) = c := mk_C _ _ _ _ _ (by omega) (by omega)
      rw [gathF.eq_2, if_pos (by omega), if_pos]
      exact wholeF_bad (F := fun i => F (pl + i)) (by omega) h0 i (by rw [hcc]; show i < c; exact hi) (by omega) (by
        show okAt _ _ i (F (pl + i)) = false
        rw [hn]; rfl)
theorem pcF_zero {now : List Int} {x : Nat} (h : secOf now (0 + x) = List.replicate 64 0) : pcF now 0 x = none := by unfold pcF; rw [h]; exact pc_zero
/-- Opened again: all records, and nothing else. -/
theorem told_seq {f : Nat → List Int} {n j : Nat} {now : List Int} (hw : Few f j) (h : SeqN f n j (fun x => secOf now x)) : (toldOf now 0 n).2.2 = bsK f j := by
  have hjn : j ≤ n := by
    have : ∀ t, t ≤ plK f t := fun t => by
      induction t with
      | zero => exact Nat.zero_le _
      | succ t ih => show t + 1 ≤ plK f t + _; have := needN_bd (f t).length; omega
    exact Nat.le_trans (this j) h.fit
  obtain ⟨num, last, e, _⟩ := gath_seq (F := pcF now 0) hw h.fit (fun t ht i hi => by
    unfold pcF
    rw [Nat.zero_add, h.rec_ t ht i hi]
    exact pc_piece _ _ _ _ _) ((gr2 fN (pcF now 0) n + 1) % 4294967296) (n - j) j (Nat.le_refl _)
  unfold toldOf
  rw [show gathF (pcF now 0) n n = gathF (pcF now 0) n (j + (n - j)) by rw [show j + (n - j) = n by omega], e]
  by_cases hp : plK f j < n
  · rw [gath_none _ _ _ _ (pcF_zero (by rw [Nat.zero_add]; exact h.zero _ (Nat.le_refl _) hp))]
  · rw [gath_out _ _ _ _ (by omega)]
theorem le_plK (f : Nat → List Int) : ∀ t, t ≤ plK f t
  | 0 => Nat.zero_le _
  | t + 1 => by show t + 1 ≤ plK f t + _; have := needN_bd (f t).length; have := le_plK f t; omega
/-- Opened again behind a record that was torn: all records, and the torn one if it is whole. -/
theorem told_torn {f : Nat → List Int} {n j k : Nat} {now : List Int} {kb : List Bool} {S : Nat → List Int} (hw : Few f (j + 1)) (h : SeqN f n j S) (hf : plK f j + needN (f j).length ≤ n) (hk : k ≤ needN (f j).length)
    (hs : ∀ x, x < n → secOf now x = if (plK f j ≤ x ∧ x < plK f j + k) ∧ kb.getD (x - plK f j) false = true then pieceOf 1 (j + 1) (f j) (needN (f j).length) (x - plK f j) else S x) :
    (toldOf now 0 n).2.2 = bsK f j ∨ (toldOf now 0 n).2.2 = bsK f (j + 1) := by
  have hnd := needN_bd (f j).length
  by_cases hall : k = needN (f j).length ∧ ∀ i, i < needN (f j).length → kb.getD i false = true
  · right
    obtain ⟨rfl, hall⟩ := hall
    refine told_seq hw (seq_succ h hf (fun x hx => ?_))
    show secOf now x = _
    rw [hs x hx]
    by_cases hr : plK f j ≤ x ∧ x < plK f j + needN (f j).length
    · rw [if_pos ⟨hr, hall _ (by omega)⟩, if_pos hr]
    · rw [if_neg (fun y => hr y.1), if_neg hr]
  · left
    have hlack : ∃ i, i < needN (f j).length ∧ ¬ (i < k ∧ kb.getD i false = true) := by
      by_cases hkk : k = needN (f j).length
      · refine Classical.byContradiction fun hno => hall ⟨hkk, fun i hi => ?_⟩
        refine Classical.byContradiction fun hb => hno ⟨i, hi, fun y => hb y.2⟩
      · exact ⟨k, by omega, fun y => by omega⟩
    obtain ⟨i, hi, hno⟩ := hlack
    have hjn := le_plK f j
    have hfj : plK f j ≤ n := by omega
    have hw' : Few f j := ⟨by have := hw.j1; omega, fun t ht => hw.big t (by omega)⟩
    obtain ⟨num, last, e, _⟩ := gath_seq (F := pcF now 0) hw' hfj (fun t ht i hi => by
      have := plK_in f (t := t) (j := j) ht
      unfold pcF
      rw [Nat.zero_add, hs _ (by omega), if_neg (fun y => by omega), h.rec_ t ht i hi]
      exact pc_piece _ _ _ _ _) ((gr2 fN (pcF now 0) n + 1) % 4294967296) (n - j) j (Nat.le_refl _)
    unfold toldOf
    rw [show gathF (pcF now 0) n n = gathF (pcF now 0) n (j + (n - j)) by rw [show j + (n - j) = n by omega], e]
    have hz : ∀ y, y < needN (f j).length → ¬ (y < k ∧ kb.getD y false = true) → pcF now 0 (plK f j + y) = none := fun y hy hn => by
      refine pcF_zero ?_
      rw [Nat.zero_add, hs _ (by omega), if_neg (fun q => hn ⟨by omega, by have := q.2; rwa [show plK f j + y - plK f j = y by omega] at this⟩)]
      exact h.zero _ (by omega) (by omega)
    rw [gath_torn (s := 1) (nu := (j : Int) + 1) (b := f j) (hw.big j (by omega)) hf ?_ i hi (hz i hi hno)]
    by_cases h0 : 0 < k ∧ kb.getD 0 false = true
    · right
      unfold pcF
      rw [Nat.zero_add, hs _ (by omega), if_pos ⟨by omega, by rw [Nat.sub_self]; exact h0.2⟩, Nat.sub_self]
      exact pc_piece _ _ _ _ _
    · left
      have := hz 0 (by omega) h0
      rwa [Nat.add_zero] at this
/-- No session is the last one. -/
theorem ses_small {now : List Int} {n : Nat} (h : ∀ x, x < n → ∀ p, pcF now 0 x = some p → fS p ≤ 1) : sesOf now 0 n ≠ 4294967295 := by
  have := gr_le fS (pcF now 0) 1 (by omega) n (fun i p hi hp => h i hi p hp)
  unfold sesOf
  omega
theorem seq_pc {f : Nat → List Int} {n j : Nat} {S : Nat → List Int} (h : SeqN f n j S) (x : Nat) (hx : x < n) : S x = List.replicate 64 0 ∨ ∃ nu b c i, S x = pieceOf 1 nu b c i := by
  by_cases hp : plK f j ≤ x
  · exact .inl (h.zero x hp hx)
  · right
    have : ∀ t, t ≤ j → x < plK f t → ∃ nu b c i, S x = pieceOf 1 nu b c i := fun t => by
      induction t with
      | zero => intro _ h0; exact absurd h0 (by show ¬ x < 0; omega)
      | succ t ih =>
        intro ht hxt
        by_cases h1 : x < plK f t
        · exact ih (by omega) h1
        · have hxt' : x < plK f t + needN (f t).length := hxt
          have := h.rec_ t (by omega) (x - plK f t) (by omega)
          rw [show plK f t + (x - plK f t) = x by omega] at this
          exact ⟨_, _, _, _, this⟩
    exact this j (Nat.le_refl _) (by omega)
theorem pc_S {now : List Int} {x : Nat} (h : secOf now (0 + x) = List.replicate 64 0 ∨ ∃ nu b c i, secOf now (0 + x) = pieceOf 1 nu b c i) : ∀ p, pcF now 0 x = some p → fS p ≤ 1 := fun p hp => by
  rcases h with h | ⟨nu, b, c, i, h⟩
  · rw [pcF_zero h] at hp; cases hp
  · unfold pcF at hp
    rw [h, pc_piece] at hp
    cases hp
    exact Int.le_of_eq (piece_S _ _ _ _ _ (by omega))
end Go.Proofs.Yticiaiiedagalaa.dk
