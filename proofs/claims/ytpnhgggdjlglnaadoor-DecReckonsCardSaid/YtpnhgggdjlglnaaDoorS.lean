/- Print of any number. -/
import Derived.Test.YtpnhgggdjlglnaaDoorR
namespace Go.Proofs.YtpnhgggdjlglnaaDoor.dk
open Go.PlainAid Go.ChangeShapes Go.WideShapes Go.ChangeAt Go.RowKit

/-- A number as a text. -/
def printT (neg : Bool) (dg : ByteArray) (ex : Int) : ByteArray :=
  if dsane neg (unstr dg) ex = true then (if dg.size = 0 then ⟨#[48]⟩ else (if neg then ⟨#[45]⟩ else ⟨#[]⟩) ++ sizeT dg ((dg.size : Int) + ex)) else ⟨#[]⟩
theorem dsane_bounds {neg : Bool} {dg : ByteArray} {ex : Int} (h : dsane neg (unstr dg) ex = true) (h0 : ¬ dg.size = 0) : dg.size ≤ 40 ∧ -400 - (dg.size : Int) ≤ ex ∧ ex ≤ 400 - (dg.size : Int) ∧ (∀ x ∈ unstr dg, isDig x = true) := by
  unfold dsane at h
  rw [if_neg (by rw [unstr_length]; exact h0), unstr_length] at h
  simp only [Bool.and_eq_true, decide_eq_true_eq] at h
  exact ⟨h.1.1.1.1.1, h.1.2, h.2, List.all_eq_true.1 h.1.1.2⟩
theorem Print_any (w : World) (neg : Bool) (dg : ByteArray) (ex : Int) (hs : dg.size ≤ 1000000) (ht : TabB w) :
    Calls Tryd.prog 18 #[.agg #[.bool neg, .string dg, .int .i64 ex]] w fun e w' => e = .returned (.string (printT neg dg ex)) ∧ Below w.heap.size w w' := by
  unfold printT
  by_cases hn : dsane neg (unstr dg) ex = true
  · rw [if_pos hn]
    by_cases h0 : dg.size = 0
    · rw [if_pos h0]
      have := Print_zero w neg dg ex hs (.inr h0)
      rw [if_pos hn] at this
      exact this
    · rw [if_neg h0]
      obtain ⟨k1, k2, k3, _⟩ := dsane_bounds hn h0
      exact Print_num w neg dg ex hs hn h0 (by omega) (by omega) (by omega) (by omega) ht
  · rw [if_neg hn]
    have := Print_zero w neg dg ex hs (.inl (by simpa using hn))
    rw [if_neg hn] at this
    exact this
end Go.Proofs.YtpnhgggdjlglnaaDoor.dk
