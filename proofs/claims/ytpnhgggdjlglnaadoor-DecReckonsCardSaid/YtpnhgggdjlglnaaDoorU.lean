/- merged's loop: what its digits are, in plain words. -/
import Derived.Test.YtpnhgggdjlglnaaDoorT
namespace Go.Proofs.YtpnhgggdjlglnaaDoor.dk
open Go.PlainAid Go.ChangeShapes Go.WideShapes Go.ChangeAt Go.RowKit

theorem own_set {w : World} {B : Nat} {t : TypeId} {g n c : Nat} {xs : List Value} (h : w.ownsRow B t 1 (.slice (some ⟨g, 0, none⟩) n c) n xs) (i : Nat) (v : Value) :
    (w.setCell ⟨g, i, none⟩ v).ownsRow B t 1 (.slice (some ⟨g, 0, none⟩) n c) n (xs.set i v) ∧ B ≤ g ∧ (∀ k, k ≠ g → (w.setCell ⟨g, i, none⟩ v).heap[k]? = w.heap[k]?) ∧ Below B w (w.setCell ⟨g, i, none⟩ v) := by
  rcases h.2 with ⟨hv, _⟩ | ⟨g', cap, cur, hv, hg, hh, hn, hcm, hcs, ht⟩
  · cases hv
  · injection hv with h1 h2 h3
    have hgg : g' = g := by injection h1 with h1; injection h1 with h1 _ _; exact h1.symm
    subst hgg
    subst h3
    rw [setCell_eq_setRow w g' i _ _ _ v hh]
    refine ⟨⟨by rw [List.length_set]; exact h.1, .inr ⟨g', c, _, rfl, hg, setRow_heap w g' _ _ _ _ hh, hn, hcm, by rw [Array.size_setIfInBounds]; exact hcs, ?_⟩⟩, hg, fun k hk => setRow_other w g' k _ hk, below_setRow (Below.refl _ _) hg _⟩
    rw [Array.toList_setIfInBounds, List.take_set, ht]
theorem bcells_set (l : List Int) (j : Nat) (x : Int) : (bcells l).set j (.int .u8 x) = bcells (l.set j x) := by
  unfold bcells
  rw [List.map_set]
set_option maxHeartbeats 4000000 in
set_option maxRecDepth 100000 in
/-- The digits of j powers from lo on, the highest ahead, and what is carried. -/
def msum (f : Int → Int) (lo : Int) : Nat → Int × List Int
  | 0 => (0, [])
  | j + 1 => ((f (lo + j) + (msum f lo j).1 + 10) / 10 - 1, (48 + (f (lo + j) + (msum f lo j).1 + 10) % 10) :: (msum f lo j).2)
theorem msum_len (f : Int → Int) (lo : Int) : ∀ j, (msum f lo j).2.length = j
  | 0 => rfl
  | j + 1 => by
    show (_ :: (msum f lo j).2).length = _
    rw [List.length_cons, msum_len f lo j]
theorem msum_carry (f : Int → Int) (lo : Int) (hf : ∀ p, -9 ≤ f p ∧ f p ≤ 18) : ∀ j, -1 ≤ (msum f lo j).1 ∧ (msum f lo j).1 ≤ 1
  | 0 => by
    show -1 ≤ (0 : Int) ∧ (0 : Int) ≤ 1
    omega
  | j + 1 => by
    have h1 := msum_carry f lo hf j
    have h2 := hf (lo + j)
    show -1 ≤ (f (lo + j) + (msum f lo j).1 + 10) / 10 - 1 ∧ (f (lo + j) + (msum f lo j).1 + 10) / 10 - 1 ≤ 1
    omega
theorem msum_dig (f : Int → Int) (lo : Int) : ∀ j, ∀ x ∈ (msum f lo j).2, isDig x = true
  | 0, x, h => by cases h
  | j + 1, x, h => by
    rcases List.mem_cons.1 h with rfl | h
    · unfold isDig
      simp only [Bool.and_eq_true, decide_eq_true_eq]
      omega
    · exact msum_dig f lo j x h
theorem row_step (m j : Nat) (l : List Int) (v : Int) (h : j < m) : (List.replicate (m - j) 0 ++ l).set (m - 1 - j) v = List.replicate (m - (j + 1)) 0 ++ v :: l := by
  have e : m - j = (m - (j + 1)) + 1 := by omega
  rw [e, List.replicate_succ', List.append_assoc, show m - 1 - j = (List.replicate (m - (j + 1)) (0 : Int)).length by rw [List.length_replicate]; omega]
  rw [List.set_append_right _ _ (Nat.le_refl _), Nat.sub_self]
  rfl
end Go.Proofs.YtpnhgggdjlglnaaDoor.dk
