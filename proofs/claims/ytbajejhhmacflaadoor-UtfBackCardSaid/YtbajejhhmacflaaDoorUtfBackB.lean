/- For every number and all bytes UtfBack answers true: the ways together. -/
import Derived.Test.YtbajejhhmacflaaDoorUtfBack
namespace Go.Proofs.YtbajejhhmacflaaDoor.utf
open Go.PlainAid Go.ChangeShapes Go.WideShapes Go.ChangeAt Go.RowKit

theorem back_any (r : Int) (a : Option Addr) (n c : Nat) (l : List Int) (ha : a = none → n = 0 ∧ c = 0) (hO : Oct l) (w : World) (hB : Bs w (.slice a n c) l) (hs : n ≤ 140737488351232) (hF : Forms w) :
    Calls Tryd.prog 5 #[.int .i32 r, .slice a n c] w fun e w' => e = .returned (.bool true) ∧ Below w.heap.size w w' := by
  by_cases hbig : 300 < n
  · exact back_great r a n c w hF hs hbig
  have hn : n ≤ 300 := by omega
  have hcase : IsRune r ∧ r < 55296 ∨ IsRune r ∧ 57343 < r ∨ r < 0 ∨ (55296 ≤ r ∧ r ≤ 57343) ∨ 1114111 < r := by unfold IsRune; omega
  cases a with
  | none =>
    obtain ⟨rfl, rfl⟩ := ha rfl
    rcases hcase with ⟨h, k⟩ | ⟨h, k⟩ | h | ⟨h, k⟩ | h
    · exact back_goodlo_nil r w hF h k
    · exact back_goodhi_nil r w hF h k
    · exact back_neg_nil r w hF h
    · exact back_half_nil r w hF h k
    · exact back_high_nil r w hF h
  | some a =>
    rcases hcase with ⟨h, k⟩ | ⟨h, k⟩ | h | ⟨h, k⟩ | h
    · exact back_goodlo_some r w hF h k a n c l hO hB hn
    · exact back_goodhi_some r w hF h k a n c l hO hB hn
    · exact back_neg_some r w hF h a n c l hO hB hn
    · exact back_half_some r w hF h k a n c l hO hB hn
    · exact back_high_some r w hF h a n c l hO hB hn
end Go.Proofs.YtbajejhhmacflaaDoor.utf
