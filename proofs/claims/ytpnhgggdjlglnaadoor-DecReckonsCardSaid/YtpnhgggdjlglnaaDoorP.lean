/- size of any digits and height. -/
import Derived.Test.YtpnhgggdjlglnaaDoorO
namespace Go.Proofs.YtpnhgggdjlglnaaDoor.dk
open Go.PlainAid Go.ChangeShapes Go.WideShapes Go.ChangeAt Go.RowKit

/-- Digits with a height as a text. -/
def sizeT (dg : ByteArray) (h : Int) : ByteArray :=
  if (dg.size : Int) ≤ h ∧ h ≤ 21 then dg ++ zers (h - (dg.size : Int)).toNat
  else if 1 ≤ h ∧ h ≤ 21 then (dg.extract 0 h.toNat ++ ⟨#[46]⟩) ++ dg.extract h.toNat dg.size
  else if -5 ≤ h ∧ h ≤ 0 then (⟨#[48, 46]⟩ ++ zers (-h).toNat) ++ dg
  else expT dg h
theorem size_any (w : World) (dg : ByteArray) (h : Int) (hs : dg.size ≤ 1000000) (h0 : 0 < dg.size) (b1 : -1000000 ≤ h) (b2 : h ≤ 1000000) (ht : Tab w) :
    Calls Tryd.prog 40 #[.string dg, .int .i64 h] w fun e w' => e = .returned (.string (sizeT dg h)) ∧ Below w.heap.size w w' := by
  unfold sizeT
  by_cases c1 : (dg.size : Int) ≤ h ∧ h ≤ 21
  · rw [if_pos c1]
    exact size_long w dg h hs c1.1 c1.2
  rw [if_neg c1]
  by_cases c2 : 1 ≤ h ∧ h ≤ 21
  · rw [if_pos c2]
    have := size_point w dg h.toNat hs (by omega) (by omega) (by omega)
    rw [Int.toNat_of_nonneg (by omega)] at this
    exact this
  rw [if_neg c2]
  by_cases c3 : -5 ≤ h ∧ h ≤ 0
  · rw [if_pos c3]
    exact size_low w dg h hs h0 c3.1 c3.2
  rw [if_neg c3]
  exact size_exp w dg h hs h0 (by omega) b1 b2 ht
end Go.Proofs.YtpnhgggdjlglnaaDoor.dk
