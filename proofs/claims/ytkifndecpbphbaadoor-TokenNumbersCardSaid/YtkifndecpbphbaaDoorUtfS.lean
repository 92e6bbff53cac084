/- The walk of utf.next over a string: what its bytes begin with, for every string. -/
import Derived.Test.YtkifndecpbphbaaDoorRows
import Derived.Test.YtkifndecpbphbaaDoorUJa
import Derived.WalkKit
import Derived.ProofKit
import Derived.OpenShut
import Derived.Handy
import Derived.PlainAid
import Derived.Deep.QuietTactic
import Derived.BigQuiet
import Derived.WalkLawsBesides
import Derived.WalkSpells
import Derived.Lib.Hide
import Derived.Laws.Rows
namespace Go.Proofs.YtkifndecpbphbaaDoor.utf
open Go.PlainAid Go.ChangeShapes Go.WideShapes Go.ChangeAt Go.RowKit

def formsCells : Array Value := #[.int .u8 194, .int .u8 223, .int .i64 2, .int .u8 128, .int .u8 191, .int .u8 224, .int .u8 224, .int .i64 3, .int .u8 160, .int .u8 191, .int .u8 225, .int .u8 236, .int .i64 3, .int .u8 128, .int .u8 191, .int .u8 237, .int .u8 237, .int .i64 3, .int .u8 128, .int .u8 159, .int .u8 238, .int .u8 239, .int .i64 3, .int .u8 128, .int .u8 191, .int .u8 240, .int .u8 240, .int .i64 4, .int .u8 144, .int .u8 191, .int .u8 241, .int .u8 243, .int .i64 4, .int .u8 128, .int .u8 191, .int .u8 244, .int .u8 244, .int .i64 4, .int .u8 128, .int .u8 143]

/-- The table of forms lies in its variable. -/
def Forms (w : World) : Prop := ∃ t fr, w.heap[0]? = some (.cells formsCells t fr)
theorem Forms.below {w w' : World} {B : Nat} (h : Forms w) (hb : Below B w w') (hB : 0 < B) : Forms w' := by
  obtain ⟨t, fr, h⟩ := h
  exact ⟨t, fr, (hb.block _ hB).trans h⟩
theorem Forms.size {w : World} (h : Forms w) : 0 < w.heap.size := by
  obtain ⟨t, fr, h⟩ := h
  rcases Nat.lt_or_ge 0 w.heap.size with hk | hk
  · exact hk
  · simp [Array.getElem?_eq_none hk] at h

theorem forms_info : (Tryd.prog.info? 61).map (·.size) = some formsCells.size := by kernel_rfl

/-- The k-th form is read out of the table. -/
theorem index_forms (k : Nat) (h : k < 8) : ∃ lead last size low high : Int, fcell.drop k = (lead, last, size, low, high) :: fcell.drop (k + 1) ∧ 0 ≤ lead ∧ lead ≤ 255 ∧ 0 ≤ last ∧ last ≤ 255 ∧ 2 ≤ size ∧ size ≤ 4 ∧ 0 ≤ low ∧ low ≤ 255 ∧ 0 ≤ high ∧ high ≤ 255 ∧
    ∀ w, (Instr.index 61 (.agg formsCells) (.int .i64 k)).run Tryd.prog w = .ok (.agg #[.int .u8 lead, .int .u8 last, .int .i64 size, .int .u8 low, .int .u8 high]) w := by
  match k, h with
  | 0, _ => exact ⟨194, 223, 2, 128, 191, rfl, by decide, by decide, by decide, by decide, by decide, by decide, by decide, by decide, by decide, by decide, fun _ => by kernel_rfl⟩
  | 1, _ => exact ⟨224, 224, 3, 160, 191, rfl, by decide, by decide, by decide, by decide, by decide, by decide, by decide, by decide, by decide, by decide, fun _ => by kernel_rfl⟩
  | 2, _ => exact ⟨225, 236, 3, 128, 191, rfl, by decide, by decide, by decide, by decide, by decide, by decide, by decide, by decide, by decide, by decide, fun _ => by kernel_rfl⟩
  | 3, _ => exact ⟨237, 237, 3, 128, 159, rfl, by decide, by decide, by decide, by decide, by decide, by decide, by decide, by decide, by decide, by decide, fun _ => by kernel_rfl⟩
  | 4, _ => exact ⟨238, 239, 3, 128, 191, rfl, by decide, by decide, by decide, by decide, by decide, by decide, by decide, by decide, by decide, by decide, fun _ => by kernel_rfl⟩
  | 5, _ => exact ⟨240, 240, 4, 144, 191, rfl, by decide, by decide, by decide, by decide, by decide, by decide, by decide, by decide, by decide, by decide, fun _ => by kernel_rfl⟩
  | 6, _ => exact ⟨241, 243, 4, 128, 191, rfl, by decide, by decide, by decide, by decide, by decide, by decide, by decide, by decide, by decide, by decide, fun _ => by kernel_rfl⟩
  | 7, _ => exact ⟨244, 244, 4, 128, 143, rfl, by decide, by decide, by decide, by decide, by decide, by decide, by decide, by decide, by decide, by decide, fun _ => by kernel_rfl⟩

theorem ret_two {a a' b b' : Int} (h : (a, b) = (a', b')) : Ending.returned (.tuple #[.int .i32 a, .int .i64 b]) = .returned (.tuple #[.int .i32 a', .int .i64 b']) := by
  cases h; rfl

/-- What a string begins with. -/
def NX (s : ByteArray) : Int × Int := nx s.size (bt s 0) (bt s 1) (bt s 2) (bt s 3)

end Go.Proofs.YtkifndecpbphbaaDoor.utf
