/- What merged holds between two powers. -/
import Derived.Test.YtpnhgggdjlglnaaDoorU
import Derived.Laws.OwnMore
namespace Go.Proofs.YtpnhgggdjlglnaaDoor.dk
open Go.PlainAid Go.ChangeShapes Go.WideShapes Go.ChangeAt Go.RowKit

structure MI (w : World) (n1 n2 : Bool) (d1 d2 : ByteArray) (e1 e2 : Int) (g1 h1 g2 h2 G m : Nat) (l : List Int) (W : World) : Prop where
  own : W.ownsRow w.heap.size 5 1 (.slice (some ⟨G, 0, none⟩) m m) m (bcells l)
  r0 : W.heap[w.heap.size]? = some (.cells #[.bool n1, .string d1, .int .i64 e1] 23 (0, 0))
  rz : W.heap[w.heap.size + 1 + 1]? = some (.cells #[.bool false, .string ⟨#[]⟩, .int .i64 0] 23 (0, 0))
  r1 : W.heap[g1]? = some (.cells #[.bool n1, .string d1, .int .i64 e1] 23 (0, 0))
  k1 : Boxed W h1 3 (.int .i64 ((d1.size : Int) + e1))
  r2 : W.heap[g2]? = some (.cells #[.bool n2, .string d2, .int .i64 e2] 23 (0, 0))
  k2 : Boxed W h2 3 (.int .i64 ((d2.size : Int) + e2))
  below : Below w.heap.size w W
  o0 : w.heap.size + 1 + 1 < G
  o1 : g1 < G
  o2 : h1 < G
  o3 : g2 < G
  o4 : h2 < G
theorem MI.put {w : World} {n1 n2 : Bool} {d1 d2 : ByteArray} {e1 e2 : Int} {g1 h1 g2 h2 G m : Nat} {l : List Int} {W : World} (h : MI w n1 n2 d1 d2 e1 e2 g1 h1 g2 h2 G m l W) (i : Nat) (x : Int) : MI w n1 n2 d1 d2 e1 e2 g1 h1 g2 h2 G m (l.set i x) (W.setCell ⟨G, i, none⟩ (.int .u8 x)) := by
  obtain ⟨ho, _, hk, hb⟩ := own_set h.own i (.int .u8 x)
  have o0 := h.o0
  have o1 := h.o1
  have o2 := h.o2
  have o3 := h.o3
  have o4 := h.o4
  rw [bcells_set] at ho
  exact ⟨ho, (hk _ (by omega)).trans h.r0, (hk _ (by omega)).trans h.rz, (hk _ (by omega)).trans h.r1, (hk _ (by omega)).trans h.k1, (hk _ (by omega)).trans h.r2, (hk _ (by omega)).trans h.k2, h.below.trans hb, o0, o1, o2, o3, o4⟩
theorem made_zero (m : Nat) : (madeCells (Value.int .u8 0).cells (m * 1)).toList = bcells (List.replicate m 0) := by
  show (madeCells #[.int .u8 0] (m * 1)).toList = _
  rw [toList_madeCells_one, Nat.mul_one]
  unfold bcells
  rw [List.map_replicate]
end Go.Proofs.YtpnhgggdjlglnaaDoor.dk
