/- Plain facts about characters and bytes, without a program: what bytes begin with, as a function on numbers; bit operations as arithmetic. -/
import Derived.Laws.BitsAllLaws
import Derived.PlainAid
namespace Go.Proofs.YtbajejhhmacflaaDoor.utf
open Go.RowKit

/-- A byte behind the first one of a character. -/
def cont (b : Int) : Bool := decide (128 ≤ b) && decide (b ≤ 191)

/-- The eight forms: first byte from .. to, how many bytes, second byte from .. to. -/
def fcell : List (Int × Int × Int × Int × Int) :=
  [(194, 223, 2, 128, 191), (224, 224, 3, 160, 191), (225, 236, 3, 128, 191), (237, 237, 3, 128, 159), (238, 239, 3, 128, 191), (240, 240, 4, 144, 191), (241, 243, 4, 128, 191), (244, 244, 4, 128, 143)]

/-- What a form that fits the first byte makes of the bytes. -/
def body (n b0 b1 b2 b3 size low high : Int) : Int × Int :=
  if n < size then (0, 0) else if b1 < low then (0, 0) else if high < b1 then (0, 0) else
  if cont b1 = false then (0, 0) else if size = 2 then (b0 % 32 * 64 + b1 % 64, 2) else
  if cont b2 = false then (0, 0) else if size = 3 then ((b0 % 16 * 64 + b1 % 64) * 64 + b2 % 64, 3) else
  if cont b3 = false then (0, 0) else (((b0 % 8 * 64 + b1 % 64) * 64 + b2 % 64) * 64 + b3 % 64, 4)

def scan (n b0 b1 b2 b3 : Int) : List (Int × Int × Int × Int × Int) → Int × Int
  | [] => (0, 0)
  | (lead, last, size, low, high) :: fs => if b0 < lead then scan n b0 b1 b2 b3 fs else if last < b0 then scan n b0 b1 b2 b3 fs else body n b0 b1 b2 b3 size low high

/-- What n bytes (the first four of them b0 to b3) begin with: the character, and how many bytes. -/
def nx (n b0 b1 b2 b3 : Int) : Int × Int := if n ≤ 0 then (0, 0) else if b0 < 128 then (b0, 1) else scan n b0 b1 b2 b3 fcell

theorem fcell_at (k : Nat) (h : k < 8) : ∃ lead last size low high : Int, fcell.drop k = (lead, last, size, low, high) :: fcell.drop (k + 1) ∧ 0 ≤ lead ∧ lead ≤ 255 ∧ 0 ≤ last ∧ last ≤ 255 ∧ 2 ≤ size ∧ size ≤ 4 ∧ 0 ≤ low ∧ low ≤ 255 ∧ 0 ≤ high ∧ high ≤ 255 := by
  match k, h with
  | 0, _ => exact ⟨194, 223, 2, 128, 191, rfl, by decide⟩
  | 1, _ => exact ⟨224, 224, 3, 160, 191, rfl, by decide⟩
  | 2, _ => exact ⟨225, 236, 3, 128, 191, rfl, by decide⟩
  | 3, _ => exact ⟨237, 237, 3, 128, 159, rfl, by decide⟩
  | 4, _ => exact ⟨238, 239, 3, 128, 191, rfl, by decide⟩
  | 5, _ => exact ⟨240, 240, 4, 144, 191, rfl, by decide⟩
  | 6, _ => exact ⟨241, 243, 4, 128, 191, rfl, by decide⟩
  | 7, _ => exact ⟨244, 244, 4, 128, 143, rfl, by decide⟩

theorem byte_case {P : Int → Prop} (h : ∀ n : Fin 256, P (n.val : Int)) (b : Int) (h0 : 0 ≤ b) (h1 : b ≤ 255) : P b := by
  have := h ⟨b.toNat, by omega⟩
  simpa [Int.toNat_of_nonneg h0] using this

theorem and192 (b : Int) (h0 : 0 ≤ b) (h1 : b ≤ 255) : (bits .and .u8 b 192 != 128) = !cont b :=
  byte_case (P := fun b => (bits .and .u8 b 192 != 128) = !cont b) (by decide +kernel) b h0 h1
theorem and31 (b : Int) (h0 : 0 ≤ b) (h1 : b ≤ 255) : bits .and .i32 b 31 = b % 32 :=
  byte_case (P := fun b => bits .and .i32 b 31 = b % 32) (by decide +kernel) b h0 h1
theorem and15 (b : Int) (h0 : 0 ≤ b) (h1 : b ≤ 255) : bits .and .i32 b 15 = b % 16 :=
  byte_case (P := fun b => bits .and .i32 b 15 = b % 16) (by decide +kernel) b h0 h1
theorem and7 (b : Int) (h0 : 0 ≤ b) (h1 : b ≤ 255) : bits .and .i32 b 7 = b % 8 :=
  byte_case (P := fun b => bits .and .i32 b 7 = b % 8) (by decide +kernel) b h0 h1

/-- r<<6 | x, as a sum. -/
theorem or64 (r x : Int) (h0 : 0 ≤ r) (h1 : r < 33554432) (h2 : 0 ≤ x) (h3 : x < 64) : bits .or .i32 (wrap32 (r * 64)) x = r * 64 + x := by
  obtain ⟨n, rfl⟩ := Int.eq_ofNat_of_zero_le h0
  obtain ⟨m, rfl⟩ := Int.eq_ofNat_of_zero_le h2
  have hw : wrap32 ((n : Int) * 64) = ((n * 64 : Nat) : Int) := by
    rw [IntWalk.wrap32_in _ (by omega)]; omega
  rw [hw]
  have := i32_or6 (x := ((n * 64 : Nat) : Int)) (y := (m : Int)) (by omega) (by omega) (by omega) (by omega) (by omega)
  rw [this]; omega
end Go.Proofs.YtbajejhhmacflaaDoor.utf
