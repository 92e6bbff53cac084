/- What the calls answer, as a number and an error; the document's examples. -/
import Derived.Test.YtpnhgggdjlglnaaDoorX7
import Derived.Test.YtpnhgggdjlglnaaDoorB1
namespace Go.Proofs.YtpnhgggdjlglnaaDoor.dk
open Go.PlainAid Go.ChangeShapes Go.WideShapes Go.ChangeAt Go.RowKit

/-- A number and an error, as answers. -/
def pairV (p : Nm × Int) : Value := .tuple #[.agg #[.bool p.1.neg, .string p.1.dg, .int .i64 p.1.ex], .int .i64 p.2]
def Nm.told (x : Nm) : Nm × Int := if x.ok = true then (x, 0) else (Nm.zero, 4)
theorem toldN_pair (x : Nm) : toldN x = pairV x.told := by
  unfold toldN Nm.told
  split <;> rfl
def addP (a b : Nm) : Nm × Int := if a.ok = true ∧ b.ok = true then (sumN a b).told else (Nm.zero, 1)
def mulP (a b : Nm) : Nm × Int := if a.ok = true ∧ b.ok = true then (mulN a b).told else (Nm.zero, 1)
theorem addV_pair (a b : Nm) : addV a b = pairV (addP a b) := by
  unfold addV addP
  split
  · exact toldN_pair _
  · rfl
theorem mulV_pair (a b : Nm) : mulV a b = pairV (mulP a b) := by
  unfold mulV mulP
  split
  · exact toldN_pair _
  · rfl
def parseR2 (r : Option (Bool × ByteArray × ByteArray × Int)) : Nm × Int :=
  match r with
  | none => (Nm.zero, 2)
  | some (neg, wh, pt, ex) => (fmN neg (wh ++ pt) (ex - (pt.size : Int))).told
def parseP (s : ByteArray) : Nm × Int := if 1000 < s.size then (Nm.zero, 4) else parseR2 (splitOf s)
theorem parseV_pair (s : ByteArray) : parseV s = pairV (parseP s) := by
  unfold parseV parseP
  split
  · rfl
  · generalize splitOf s = r
    cases r with
    | none => rfl
    | some q =>
      obtain ⟨neg, wh, pt, ex⟩ := q
      unfold parseR parseR2
      simp only
      rw [← toldN_pair]
      unfold toldN told
      rw [fmd_eq]
      rfl
theorem Parse_pair (w : World) (s : ByteArray) (hs : s.size ≤ 1000000000) :
    Calls Tryd.prog 17 #[.string s] w fun e w' => e = .returned (pairV (parseP s)) ∧ Below w.heap.size w w' := by
  rw [← parseV_pair]
  exact Parse_any w s hs
theorem Add_pair (w : World) (n1 : Bool) (d1 : ByteArray) (e1 : Int) (n2 : Bool) (d2 : ByteArray) (e2 : Int) (s1 : d1.size ≤ 1000000) (s2 : d2.size ≤ 1000000) :
    Calls Tryd.prog 11 #[.agg #[.bool n1, .string d1, .int .i64 e1], .agg #[.bool n2, .string d2, .int .i64 e2]] w fun e w' => e = .returned (pairV (addP ⟨n1, d1, e1⟩ ⟨n2, d2, e2⟩)) ∧ Below w.heap.size w w' := by
  rw [← addV_pair]
  exact Add_any w ⟨n1, d1, e1⟩ ⟨n2, d2, e2⟩ s1 s2
theorem Mul_pair (w : World) (n1 : Bool) (d1 : ByteArray) (e1 : Int) (n2 : Bool) (d2 : ByteArray) (e2 : Int) (s1 : d1.size ≤ 1000000) (s2 : d2.size ≤ 1000000) :
    Calls Tryd.prog 13 #[.agg #[.bool n1, .string d1, .int .i64 e1], .agg #[.bool n2, .string d2, .int .i64 e2]] w fun e w' => e = .returned (pairV (mulP ⟨n1, d1, e1⟩ ⟨n2, d2, e2⟩)) ∧ Below w.heap.size w w' := by
  rw [← mulV_pair]
  exact Mul_any w ⟨n1, d1, e1⟩ ⟨n2, d2, e2⟩ s1 s2
/-- A number's new row. -/
theorem boxed3 (w : World) (v0 v1 v2 : Value) : ∃ V, V = w.alloc (.cells #[v0, v1, v2] 23) ∧ V.heap[w.heap.size]? = some (.cells #[v0, v1, v2] 23 (0, 0)) ∧ Below w.heap.size w V :=
  ⟨_, rfl, heap_alloc_new _ _, (Below.refl w.heap.size w).alloc (Nat.le_refl _) _⟩
theorem parse_a : parseP ⟨#[45, 49, 46, 53, 48, 101, 50]⟩ = (⟨true, ⟨#[49, 53]⟩, 1⟩, 0) := by kernel_rfl
theorem parse_b : parseP ⟨#[48, 46, 49]⟩ = (⟨false, ⟨#[49]⟩, -1⟩, 0) := by kernel_rfl
theorem parse_c : parseP ⟨#[48, 46, 50]⟩ = (⟨false, ⟨#[50]⟩, -1⟩, 0) := by kernel_rfl
theorem add_bc : addP ⟨false, ⟨#[49]⟩, -1⟩ ⟨false, ⟨#[50]⟩, -1⟩ = (⟨false, ⟨#[51]⟩, -1⟩, 0) := by kernel_rfl
theorem print_a : printT true ⟨#[49, 53]⟩ 1 = ⟨#[45, 49, 53, 48]⟩ := by kernel_rfl
theorem print_c : printT false ⟨#[51]⟩ (-1) = ⟨#[48, 46, 51]⟩ := by kernel_rfl
end Go.Proofs.YtpnhgggdjlglnaaDoor.dk
