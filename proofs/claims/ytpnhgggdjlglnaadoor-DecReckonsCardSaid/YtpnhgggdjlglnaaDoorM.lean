/- size: digits with a height as a text, as far as no exponent is wanted. -/
import Derived.Test.YtpnhgggdjlglnaaDoorL
import Derived.Test.YtpnhgggdjlglnaaDoorShelfR
import Derived.Laws.Concat
namespace Go.Proofs.YtpnhgggdjlglnaaDoor.dk
open Go.PlainAid Go.ChangeShapes Go.WideShapes Go.ChangeAt Go.RowKit

/-- So many of 0. -/
def zers (k : Nat) : ByteArray := ⟨(Lib.repeatL [48] k).toArray⟩
theorem zers_size (k : Nat) : (zers k).size = k := by
  show (List.toArray _).size = k
  rw [List.size_toArray, Lib.repeatL_length]
  simp
theorem zers_any (k : Nat) (hk : k ≤ 1000000) (v : World) : Calls Tryd.prog 55 #[.string ⟨#[48]⟩, .int .i64 k] v fun e w' => e = .returned (.string (zers k)) ∧ Below v.heap.size v w' :=
  Tryd.strings_Repeat ⟨#[48]⟩ k v (by omega) (by show 1 * k ≤ _; omega)
set_option maxRecDepth 100000 in
theorem size_long (w : World) (dg : ByteArray) (h : Int) (hs : dg.size ≤ 1000000) (h1 : (dg.size : Int) ≤ h) (h2 : h ≤ 21) :
    Calls Tryd.prog 40 #[.string dg, .int .i64 h] w fun e w' => e = .returned (.string (dg ++ zers (h - (dg.size : Int)).toNat)) ∧ Below w.heap.size w w' := by
  obtain ⟨k, hk⟩ : ∃ k : Nat, (k : Int) = h - (dg.size : Int) := ⟨(h - (dg.size : Int)).toNat, by omega⟩
  rw [← hk, Int.toNat_natCast]
  have hz := zers_any k (by omega)
  have hsz := zers_size k
  generalize zers k = z at hz hsz ⊢
  have HZ := Lib.hid hz
  have d1 : decide ((dg.size : Int) ≤ h) = true := decide_eq_true h1
  have d2 : decide (h ≤ 21) = true := decide_eq_true h2
  have w1 : IntKind.i64.wrap (h - (dg.size : Int)) = (k : Int) := by rw [IntKind.wrap_i64]; omega
  have hcat : dg.size + z.size ≤ 9223372036854775807 := by omega
  clear hz hk
  go_enter Tryd.func40, Tryd.ntmps40
  go_wp2_with fail
  with_reducible refine (HZ.out _).mono ?_
  rintro e w2 ⟨rfl, hb2⟩
  have HB := Lib.hid hb2
  clear HZ hb2
  go_wp2_with fail
  go_ret
  exact ⟨rfl, HB.out⟩
set_option maxRecDepth 100000 in
theorem size_low (w : World) (dg : ByteArray) (h : Int) (hs : dg.size ≤ 1000000) (h0 : 0 < dg.size) (h1 : -5 ≤ h) (h2 : h ≤ 0) :
    Calls Tryd.prog 40 #[.string dg, .int .i64 h] w fun e w' => e = .returned (.string ((⟨#[48, 46]⟩ ++ zers (-h).toNat) ++ dg)) ∧ Below w.heap.size w w' := by
  obtain ⟨k, hk⟩ : ∃ k : Nat, (k : Int) = -h := ⟨(-h).toNat, by omega⟩
  rw [← hk, Int.toNat_natCast]
  have hz := zers_any k (by omega)
  have hsz := zers_size k
  generalize zers k = z at hz hsz ⊢
  have HZ := Lib.hid hz
  have d1 : decide ((dg.size : Int) ≤ h) = false := decide_eq_false (by omega)
  have d2 : decide (1 ≤ h) = false := decide_eq_false (by omega)
  have d3 : decide (-5 ≤ h) = true := decide_eq_true h1
  have d4 : decide (h ≤ 0) = true := decide_eq_true h2
  have w1 : IntKind.i64.wrap (-h) = (k : Int) := by rw [IntKind.wrap_i64]; omega
  have hcat : (⟨#[48, 46]⟩ : ByteArray).size + z.size ≤ 9223372036854775807 := by show 2 + z.size ≤ _; omega
  have hcat2 : ((⟨#[48, 46]⟩ : ByteArray) ++ z).size + dg.size ≤ 9223372036854775807 := by rw [ByteArray.size_append]; show 2 + z.size + dg.size ≤ _; omega
  clear hz hk
  go_enter Tryd.func40, Tryd.ntmps40
  go_wp2_with fail
  with_reducible refine (HZ.out _).mono ?_
  rintro e w2 ⟨rfl, hb2⟩
  have HB := Lib.hid hb2
  clear HZ hb2
  go_wp2_with fail
  go_ret
  exact ⟨rfl, HB.out⟩
end Go.Proofs.YtpnhgggdjlglnaaDoor.dk
