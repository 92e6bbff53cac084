/- What split answers; pieces of a text. -/
import Derived.Test.YtkifndecpbphbaaDoorH
import Derived.Deep.DeepCutAuto
import Derived.Deep.CutBlock
namespace Go.Proofs.YtkifndecpbphbaaDoor.dk
open Go.PlainAid Go.ChangeShapes Go.WideShapes Go.ChangeAt Go.RowKit

def SOk (r : Option (Bool × ByteArray × ByteArray × Int)) (ok a : Bool) (b c : ByteArray) (x : Int) : Prop :=
  match r with
  | none => ok = false
  | some q => ok = true ∧ q = (a, b, c, x)
def SPost (w : World) (r : Option (Bool × ByteArray × ByteArray × Int)) (e : Ending) (w' : World) : Prop :=
  Below w.heap.size w w' ∧ ∃ (ok a : Bool) (b c : ByteArray) (x : Int), e = .returned (.tuple #[.agg #[.bool a, .string b, .string c, .int .i64 x], .bool ok]) ∧ SOk r ok a b c x
theorem cut_size (s : ByteArray) (a b : Nat) (h2 : b ≤ s.size) : (s.extract a b).size = b - a := by
  rw [ByteArray.size_extract]
  omega
theorem cut_unstr (s : ByteArray) (a d : Nat) : unstr (s.extract a (a + d)) = ((unstr s).drop a).take d := by
  unfold unstr
  rw [ByteArray.data_extract, Array.toList_extract, List.extract_eq_take_drop, List.map_take, List.map_drop]
  congr 1
  omega
theorem nc_ne {l sg : List Int} {k : Nat} (h : sg.contains 0 = false) : (nc l sg k != 0) = hit l sg k := by
  show (!(nc l sg k == 0)) = _
  rw [nc_zero h, Bool.not_not]
theorem dn_all : ∀ (r : List Int), ∀ x ∈ r.take (dn r), isDig x = true
  | [], x, h => by simp at h
  | c :: r, x, h => by
    rw [dn] at h
    split at h
    · rename_i hc
      rw [List.take_succ_cons] at h
      rcases List.mem_cons.1 h with rfl | h
      · exact hc
      · exact dn_all r x h
    · simp at h
theorem head_take (l : List Int) (a d : Nat) (h : 0 < d) : ((l.drop a).take d).getD 0 0 = l.getD a 0 := by
  rw [List.getD_eq_getElem?_getD, List.getElem?_take, if_pos h, List.getElem?_drop, List.getD_eq_getElem?_getD]
  rfl
theorem sok_none {r : Option (Bool × ByteArray × ByteArray × Int)} {a : Bool} {b c : ByteArray} {x : Int} (hr : r = none) : SOk r false a b c x := by
  subst hr
  rfl
theorem fin_ok {k L : Nat} {r : Option (Bool × ByteArray × ByteArray × Int)} {a : Bool} {b c : ByteArray} {x : Int} (hr : r = if k = L then some (a, b, c, x) else none) : SOk r ((k : Int) == (L : Int)) a b c x := by
  subst hr
  by_cases h : k = L
  · rw [if_pos h]
    exact ⟨beq_iff_eq.2 (by omega), rfl⟩
  · rw [if_neg h]
    exact beq_eq_false_iff_ne.2 (by omega)
theorem drew_pair {W W0 : World} {A B : Nat} {o : Obj} (h : W.heap[A]? = some o ∧ Below B W0 W) : W.drew.heap[A]? = some o ∧ Below B W0 W.drew := ⟨h.1, h.2.drew⟩
theorem cut_none (s : ByteArray) (a : Nat) : s.extract a a = ⟨#[]⟩ := ba_nil (by rw [ByteArray.size_extract]; omega)
end Go.Proofs.YtkifndecpbphbaaDoor.dk
