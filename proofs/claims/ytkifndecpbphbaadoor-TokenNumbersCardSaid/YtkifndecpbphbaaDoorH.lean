/- What split holds between its steps. -/
import Derived.Test.YtkifndecpbphbaaDoorG
import Derived.Laws.EntriesVeiled
namespace Go.Proofs.YtkifndecpbphbaaDoor.dk
open Go.PlainAid Go.ChangeShapes Go.WideShapes Go.ChangeAt Go.RowKit

/-- The sign that is taken; where one stands then. -/
def nc (l sg : List Int) (k : Nat) : Int := if hit l sg k then l.getD k 0 else 0
def nk (l sg : List Int) (k : Nat) : Nat := if hit l sg k then k + 1 else k
theorem nk_le {l sg : List Int} {k : Nat} (h : k ≤ l.length) : nk l sg k ≤ l.length := by
  unfold nk
  split
  · rename_i hh
    unfold hit at hh
    simp only [Bool.and_eq_true, decide_eq_true_eq] at hh
    omega
  · exact h
theorem nc_zero {l sg : List Int} {k : Nat} (h : sg.contains 0 = false) : (nc l sg k == 0) = !hit l sg k := by
  unfold nc
  cases hh : hit l sg k with
  | false => rfl
  | true =>
    rw [if_pos rfl]
    refine beq_eq_false_iff_ne.2 fun e => ?_
    unfold hit at hh
    rw [e, h] at hh
    simp at hh
theorem next_any (w : World) (ba bs : Nat) (s sg : ByteArray) (k : Nat) (hs : s.size ≤ 1000000000) (hA : Boxed w ba 3 (.int .i64 k)) (hS : Boxed w bs 9 (.string s)) :
    Calls Tryd.prog 66 #[.string sg, .pointer (some ⟨ba, 0, none⟩), .pointer (some ⟨bs, 0, none⟩)] w fun e w' =>
      e = .returned (.int .u8 (nc (unstr s) (unstr sg) k)) ∧ Boxed w' ba 3 (.int .i64 ((nk (unstr s) (unstr sg) k : Nat) : Int)) ∧ w.grownBy w' (some ba) := by
  unfold nc nk
  cases hh : hit (unstr s) (unstr sg) k with
  | true =>
    refine (next_yes w ba bs s sg k hs hA hS hh).mono ?_
    rintro e w' ⟨rfl, rfl⟩
    exact ⟨rfl, hA.set _, grownBy_setCell' _ _ _⟩
  | false =>
    refine (next_no w ba bs s sg k hA hS hh).mono ?_
    rintro e w' ⟨rfl, rfl⟩
    exact ⟨rfl, hA, World.grownBy.refl _ _⟩
def fnv (b3 b0 : Nat) : Value := .func (.func 66) #[] #[.pointer (some ⟨b3, 0, none⟩), .pointer (some ⟨b0, 0, none⟩)]
structure SpI (w : World) (s : ByteArray) (b1 b2 b3 b4 : Nat) (k : Nat) (neg : Bool) (wh pt : ByteArray) (ex : Int) (W : World) : Prop where
  bs : Boxed W w.heap.size 9 (.string s)
  br : W.heap[b1]? = some (.cells #[.bool false, .string ⟨#[]⟩, .string ⟨#[]⟩, .int .i64 0] 87 (0, 0))
  bp : W.heap[b2]? = some (.cells #[.bool neg, .string wh, .string pt, .int .i64 ex] 87 (0, 0))
  ba : Boxed W b3 3 (.int .i64 k)
  bn : Boxed W b4 99 (fnv b3 w.heap.size)
  below : Below w.heap.size w W
  le : k ≤ s.size
  o1 : w.heap.size < b1
  o2 : b1 < b2
  o3 : b2 < b3
  o4 : b3 < b4
theorem SpI.move {w : World} {s : ByteArray} {b1 b2 b3 b4 k k' : Nat} {neg : Bool} {wh pt : ByteArray} {ex : Int} {W W' : World} (h : SpI w s b1 b2 b3 b4 k neg wh pt ex W) (ha : Boxed W' b3 3 (.int .i64 k')) (hg : W.grownBy W' (some b3)) (hk : k' ≤ s.size) : SpI w s b1 b2 b3 b4 k' neg wh pt ex W' := by
  have o1 := h.o1
  have o2 := h.o2
  have o3 := h.o3
  have o4 := h.o4
  refine ⟨h.bs.kept hg (fun e => by have := Option.some.inj e; omega), (hg.block b1 (lt_of_block h.br) (fun e => by have := Option.some.inj e; omega)).trans h.br, (hg.block b2 (lt_of_block h.bp) (fun e => by have := Option.some.inj e; omega)).trans h.bp, ha, h.bn.kept hg (fun e => by have := Option.some.inj e; omega), ?_, hk, o1, o2, o3, o4⟩
  exact h.below.grown hg h.below.size fun k e => by have := Option.some.inj e; omega
theorem SpI.past {w : World} {s : ByteArray} {b1 b2 b3 b4 k : Nat} {neg : Bool} {wh pt : ByteArray} {ex : Int} {W W' : World} (h : SpI w s b1 b2 b3 b4 k neg wh pt ex W) (hb : Below W.heap.size W W') : SpI w s b1 b2 b3 b4 k neg wh pt ex W' :=
  ⟨(hb.block _ h.bs.lt).trans h.bs, (hb.block _ (lt_of_block h.br)).trans h.br, (hb.block _ (lt_of_block h.bp)).trans h.bp, (hb.block _ h.ba.lt).trans h.ba, (hb.block _ h.bn.lt).trans h.bn, h.below.trans (hb.mono h.below.size), h.le, h.o1, h.o2, h.o3, h.o4⟩
theorem SpI.put {w : World} {s : ByteArray} {b1 b2 b3 b4 k : Nat} {neg neg' : Bool} {wh pt wh' pt' : ByteArray} {ex ex' : Int} {W : World} (h : SpI w s b1 b2 b3 b4 k neg wh pt ex W) (j : Nat) (v : Value)
    (hv : (#[.bool neg, .string wh, .string pt, .int .i64 ex] : Array Value).setIfInBounds j v = #[.bool neg', .string wh', .string pt', .int .i64 ex']) : SpI w s b1 b2 b3 b4 k neg' wh' pt' ex' (W.setCell ⟨b2, j, none⟩ v) := by
  have o1 := h.o1
  have o2 := h.o2
  have o3 := h.o3
  have o4 := h.o4
  have hp := stepSet j v (show w.heap.size ≤ b2 by omega) ⟨h.bp, h.below⟩
  rw [hv] at hp
  have ot : ∀ q, q ≠ b2 → (W.setCell ⟨b2, j, none⟩ v).heap[q]? = W.heap[q]? := fun q hq => Below.heap_setCell _ _ _ _ hq
  exact ⟨(ot _ (by omega)).trans h.bs, (ot _ (by omega)).trans h.br, hp.1, (ot _ (by omega)).trans h.ba, (ot _ (by omega)).trans h.bn, hp.2, h.le, o1, o2, o3, o4⟩
theorem alloc_old {W : World} {k : Nat} {x : Obj} (o : Obj) (h : W.heap[k]? = some x) : (W.alloc o).heap[k]? = some x := (Below.heap_alloc W o k (Array.getElem?_eq_some_iff.1 h).1).trans h
theorem SpI.start (w : World) (s : ByteArray) (b1 b2 b3 b4 : Nat) (h1 : b1 = w.heap.size + 1) (h2 : b2 = b1 + 1) (h3 : b3 = b2 + 1) (h4 : b4 = b3 + 1) :
    SpI w s b1 b2 b3 b4 0 false ⟨#[]⟩ ⟨#[]⟩ 0 (((((w.alloc (.cells #[.string s] 9)).alloc (.cells #[.bool false, .string ⟨#[]⟩, .string ⟨#[]⟩, .int .i64 0] 87)).alloc (.cells #[.bool false, .string ⟨#[]⟩, .string ⟨#[]⟩, .int .i64 0] 87)).alloc (.cells #[.int .i64 0] 3)).alloc (.cells #[fnv b3 w.heap.size] 99)) := by
  have n1 := heap_alloc_new (w.alloc (.cells #[.string s] 9)) (.cells #[.bool false, .string ⟨#[]⟩, .string ⟨#[]⟩, .int .i64 0] 87)
  have n2 := heap_alloc_new ((w.alloc (.cells #[.string s] 9)).alloc (.cells #[.bool false, .string ⟨#[]⟩, .string ⟨#[]⟩, .int .i64 0] 87)) (.cells #[.bool false, .string ⟨#[]⟩, .string ⟨#[]⟩, .int .i64 0] 87)
  have n3 := heap_alloc_new (((w.alloc (.cells #[.string s] 9)).alloc (.cells #[.bool false, .string ⟨#[]⟩, .string ⟨#[]⟩, .int .i64 0] 87)).alloc (.cells #[.bool false, .string ⟨#[]⟩, .string ⟨#[]⟩, .int .i64 0] 87)) (.cells #[.int .i64 0] 3)
  have n4 := heap_alloc_new ((((w.alloc (.cells #[.string s] 9)).alloc (.cells #[.bool false, .string ⟨#[]⟩, .string ⟨#[]⟩, .int .i64 0] 87)).alloc (.cells #[.bool false, .string ⟨#[]⟩, .string ⟨#[]⟩, .int .i64 0] 87)).alloc (.cells #[.int .i64 0] 3)) (.cells #[fnv b3 w.heap.size] 99)
  rw [World.size_alloc, ← h1] at n1
  rw [World.size_alloc, World.size_alloc, ← h1, ← h2] at n2
  rw [World.size_alloc, World.size_alloc, World.size_alloc, ← h1, ← h2, ← h3] at n3
  rw [World.size_alloc, World.size_alloc, World.size_alloc, World.size_alloc, ← h1, ← h2, ← h3, ← h4] at n4
  refine ⟨((((Boxed.new w _ _).alloc _).alloc _).alloc _).alloc _, alloc_old _ (alloc_old _ (alloc_old _ n1)), alloc_old _ (alloc_old _ n2), alloc_old _ n3, n4, ?_, Nat.zero_le _, by omega, by omega, by omega, by omega⟩
  refine (((((Below.refl _ _).alloc ?_ _).alloc ?_ _).alloc ?_ _).alloc ?_ _).alloc ?_ _ <;> first | omega | (simp only [World.size_alloc]; omega)
/-- What split answers. -/
def splitOf (s : ByteArray) : Option (Bool × ByteArray × ByteArray × Int) :=
  let l := unstr s
  let k1 := nk l [45] 0
  let d1 := dn (l.drop k1)
  if d1 = 0 ∨ (1 < d1 ∧ l.getD k1 0 = 48) then none else
  let k2 := k1 + d1
  let k3 := nk l [46] k2
  let d2 := if hit l [46] k2 then dn (l.drop k3) else 0
  if hit l [46] k2 = true ∧ d2 = 0 then none else
  let k4 := k3 + d2
  let k5 := nk l [101, 69] k4
  if hit l [101, 69] k4 then
    let k6 := nk l [43, 45] k5
    let d3 := dn (l.drop k6)
    if d3 = 0 then none else
    let x := dexp ((l.drop k6).take d3)
    if k6 + d3 = l.length then some (hit l [45] 0, s.extract k1 k2, s.extract k3 k4, if nc l [43, 45] k5 = 45 then -x else x) else none
  else if k5 = l.length then some (hit l [45] 0, s.extract k1 k2, s.extract k3 k4, 0) else none
end Go.Proofs.YtkifndecpbphbaaDoor.dk
