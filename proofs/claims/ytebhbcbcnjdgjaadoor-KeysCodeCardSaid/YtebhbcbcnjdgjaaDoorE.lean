/- A number's part: may it be; its bytes. -/
import Derived.Test.YtebhbcbcnjdgjaaDoorD
namespace Go.Proofs.YtebhbcbcnjdgjaaDoor.dk
open Go.PlainAid Go.ChangeShapes Go.WideShapes Go.ChangeAt Go.RowKit

/-- A part that is a number. -/
def npart (neg : Bool) (dg : ByteArray) (ex : Int) : Array Value := #[.int .i64 2, .bool false, .bool neg, .string dg, .int .i64 ex, .string ⟨#[]⟩, .int .i64 0]
set_option maxHeartbeats 4000000 in
set_option maxRecDepth 100000 in
theorem sane_num (w : World) (neg : Bool) (dg : ByteArray) (ex : Int) (hs : dg.size ≤ 1000000000) :
    Calls Tryd.prog 23 #[.agg (npart neg dg ex)] w fun e w' => e = .returned (.bool (dsane neg (unstr dg) ex)) ∧ Below w.heap.size w w' := by
  unfold npart
  have HS := Lib.hid (fun (v : World) => Sane_any v neg dg ex hs)
  generalize dsane neg (unstr dg) ex = ok at HS ⊢
  go_enter Tryd.func23, Tryd.ntmps23
  go_wp2_with fail
  have hr : ((w.alloc (.cells #[.int .i64 2, .bool false, .bool neg, .string dg, .int .i64 ex, .string ⟨#[]⟩, .int .i64 0] 43)).alloc (.cells #[.int .i64 2, .bool false, .bool neg, .string dg, .int .i64 ex, .string ⟨#[]⟩, .int .i64 0] 43)).heap[w.heap.size]? = some (.cells #[.int .i64 2, .bool false, .bool neg, .string dg, .int .i64 ex, .string ⟨#[]⟩, .int .i64 0] 43 (0, 0)) := by
    show ((w.heap.push _).push _)[w.heap.size]? = _
    rw [Array.getElem?_push_lt (by simp), ← Array.getElem?_eq_getElem]
    exact heap_alloc_new w _
  have hb : Below w.heap.size w ((w.alloc (.cells #[.int .i64 2, .bool false, .bool neg, .string dg, .int .i64 ex, .string ⟨#[]⟩, .int .i64 0] 43)).alloc (.cells #[.int .i64 2, .bool false, .bool neg, .string dg, .int .i64 ex, .string ⟨#[]⟩, .int .i64 0] 43)) := ((Below.refl _ _).alloc (Nat.le_refl _) _).alloc (by simp [World.alloc, -World.alloc_eq]) _
  generalize (w.alloc _).alloc _ = wv at hr hb ⊢
  with_reducible refine (HS.out wv).mono ?_
  clear HS
  rintro e w2 ⟨rfl, hb2⟩
  have hr2 := (hb2.block _ (Array.getElem?_eq_some_iff.1 hr).1).trans hr
  have c6 := cell_of_row _ _ 6 _ _ _ hr2
  simp at c6
  have HB := Lib.hid (hb.trans (hb2.mono hb.size))
  clear hr hr2 hb hb2
  cases ok with
  | true =>
    go_wp2_with fail
    go_ret
    exact ⟨rfl, HB.out⟩
  | false =>
    go_wp2_with fail
    go_ret
    exact ⟨rfl, HB.out⟩
end Go.Proofs.YtebhbcbcnjdgjaaDoor.dk
