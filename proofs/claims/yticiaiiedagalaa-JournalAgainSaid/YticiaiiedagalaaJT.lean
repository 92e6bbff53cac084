/- What is laid is told: plain facts. -/
import Derived.Test.YticiaiiedagalaaJL
import Derived.Test.YticiaiiedagalaaDQ0
namespace Go.Proofs.Yticiaiiedagalaa.dk
open Go.PlainAid Go.ChangeShapes Go.WideShapes Go.ChangeAt Go.RowKit

def chunk (b : List Int) (i : Nat) : List Int := (b.drop (i * 48)).take 48
def pieceOf (s nu : Int) (b : List Int) (c i : Nat) : List Int := mk s nu i c (chunk b i)
theorem chunk_len (b : List Int) (i : Nat) : (chunk b i).length ≤ 48 := by unfold chunk; rw [List.length_take]; omega
theorem chunk_full (b : List Int) (i : Nat) (h : i * 48 + 48 ≤ b.length) : (chunk b i).length = 48 := by unfold chunk; rw [List.length_take, List.length_drop]; omega
theorem chunk_take (b : List Int) (i : Nat) : b.take (i * 48) ++ chunk b i = b.take ((i + 1) * 48) := by
  unfold chunk
  rw [show (i + 1) * 48 = i * 48 + 48 by omega, List.take_add]
/-- A record lies whole at a place. -/
structure RecHere (F : Nat → Option (List Int)) (n pl : Nat) (s nu : Int) (b : List Int) : Prop where
  fit : pl + needN b.length ≤ n
  big : needN b.length ≤ 65535
  s0 : 0 ≤ s ∧ s ≤ 4294967295
  nu0 : 0 ≤ nu ∧ nu ≤ 4294967295
  pc : ∀ i, i < needN b.length → F (pl + i) = some (pieceOf s nu b (needN b.length) i)
theorem RecHere.head {F : Nat → Option (List Int)} {n pl : Nat} {s nu : Int} {b : List Int} (h : RecHere F n pl s nu b) : F pl = some (pieceOf s nu b (needN b.length) 0) := h.pc 0 (by have := needN_bd b.length; omega)
theorem RecHere.cnt {F : Nat → Option (List Int)} {n pl : Nat} {s nu : Int} {b : List Int} (h : RecHere F n pl s nu b) (i : Nat) : fC (pieceOf s nu b (needN b.length) i) = needN b.length := mk_C _ _ _ _ _ (by omega) (by have := h.big; omega)
theorem RecHere.whole {F : Nat → Option (List Int)} {n pl : Nat} {s nu : Int} {b : List Int} (h : RecHere F n pl s nu b) : wholeF (fun i => F (pl + i)) (n - pl) = needN b.length := by
  have hn := needN_bd b.length
  have hf := h.fit
  have hc : (fC (pieceOf s nu b (needN b.length) 0)).toNat = needN b.length := by rw [h.cnt 0]; rfl
  have := wholeF_full (F := fun i => F (pl + i)) (k := n - pl) (by omega) h.head (by rw [hc]; omega) (fun i hi => by
    rw [hc] at hi ⊢
    rw [h.pc i hi]
    have e1 : fP (pieceOf s nu b (needN b.length) i) = i := mk_P _ _ _ _ _ (by omega) (by have := h.big; omega)
    have e2 : ∀ j, fS (pieceOf s nu b (needN b.length) j) = s := fun j => mk_S _ _ _ _ _ h.s0.1 h.s0.2
    have e3 : ∀ j, fN (pieceOf s nu b (needN b.length) j) = nu := fun j => mk_N _ _ _ _ _ h.nu0.1 h.nu0.2
    have e4 : i + 1 < needN b.length → fZ (pieceOf s nu b (needN b.length) i) = 48 := fun hl => by
      show ((chunk b i).length : Int) = 48
      rw [chunk_full b i (by split at hn <;> omega)]
      rfl
    simp only [okAt, e1, e2, e3, h.cnt, decide_true, Bool.and_true, Bool.and_eq_true, decide_eq_true_eq]
    exact ⟨trivial, e4⟩)
  rw [this, hc]
theorem RecHere.join {F : Nat → Option (List Int)} {n pl : Nat} {s nu : Int} {b : List Int} (h : RecHere F n pl s nu b) : ∀ k, k ≤ needN b.length → joinF (fun i => F (pl + i)) k = b.take (k * 48)
  | 0, _ => by simp [joinF, joinOf]
  | k + 1, hk => by
    rw [joinF_succ (fun i => F (pl + i)) k _ (h.pc k (by omega)), h.join k (by omega)]
    rw [show fB (pieceOf s nu b (needN b.length) k) = chunk b k from mk_B _ _ _ _ _, chunk_take]
theorem RecHere.told {F : Nat → Option (List Int)} {n pl : Nat} {s nu : Int} {b : List Int} (h : RecHere F n pl s nu b) : joinF (fun i => F (pl + i)) (needN b.length) = b := by
  rw [h.join _ (Nat.le_refl _), List.take_of_length_le (by have := needN_bd b.length; omega)]
theorem gath_rec {F : Nat → Option (List Int)} {n pl : Nat} {s nu : Int} {b : List Int} (h : RecHere F n pl s nu b) (f : Nat) (num : Int) (last : Option (List Int)) (out : List (List Int)) (hs : stopAt last num (pieceOf s nu b (needN b.length) 0) = false) :
    gathF F n (f + 1) pl num last out = gathF F n f (pl + needN b.length) ((nu + 1) % 4294967296) (some (pieceOf s nu b (needN b.length) 0)) (out ++ [b]) := by
  have hn := needN_bd b.length
  have hf := h.fit
  rw [gathF.eq_2, if_pos (by omega), h.whole, if_neg (by omega), h.head, h.told]
  simp only [Option.getD_some, hs]
  rw [show fN (pieceOf s nu b (needN b.length) 0) = nu from mk_N _ _ _ _ _ h.nu0.1 h.nu0.2]
  rfl
theorem gath_out {F : Nat → Option (List Int)} {n pl : Nat} (f : Nat) (num : Int) (last : Option (List Int)) (out : List (List Int)) (h : n ≤ pl) : gathF F n f pl num last out = (pl, num, out) := by
  cases f with
  | zero => rfl
  | succ f => rw [gathF.eq_2, if_neg (by omega)]
theorem gath_none {F : Nat → Option (List Int)} {n pl : Nat} (f : Nat) (num : Int) (last : Option (List Int)) (out : List (List Int)) (h : F pl = none) : gathF F n f pl num last out = (pl, num, out) := by
  cases f with
  | zero => rfl
  | succ f =>
    rw [gathF.eq_2]
    split
    · rw [wholeF_none (by omega) h, if_pos rfl]
    · rfl
/-- A piece that is not the first one of a record begins none. -/
theorem gath_mid {F : Nat → Option (List Int)} {n pl : Nat} (f : Nat) (num : Int) (last : Option (List Int)) (out : List (List Int)) (q : List Int) (h : F pl = some q) (hp : fP q ≠ 0) : gathF F n f pl num last out = (pl, num, out) := by
  cases f with
  | zero => rfl
  | succ f =>
    rw [gathF.eq_2]
    split
    · have : wholeF (fun i => F (pl + i)) (n - pl) = 0 := by
        by_cases hc : (fC q).toNat = 0
        · by_cases hl : (fC q).toNat ≤ n - pl
          · rw [wholeF_full (F := fun i => F (pl + i)) (k := n - pl) (by omega) h hl (fun i hi => by omega), hc]
          · exact wholeF_long (F := fun i => F (pl + i)) (by omega) h (by omega)
        · exact wholeF_bad (F := fun i => F (pl + i)) (by omega) h 0 (by omega) (by omega) (by
            show okAt q _ 0 (F (pl + 0)) = false
            rw [Nat.add_zero, h]
            simp [okAt, hp])
      rw [this, if_pos rfl]
    · rfl
end Go.Proofs.Yticiaiiedagalaa.dk
