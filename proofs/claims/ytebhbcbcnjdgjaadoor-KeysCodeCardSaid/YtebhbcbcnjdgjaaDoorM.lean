/- The frame of a law of bytes; arguments of bytes opened. -/
import Derived.Test.YtebhbcbcnjdgjaaDoorL
import Derived.Carry
import Derived.SizedLaws
import Derived.Lib.Walk
import Derived.Deep.Grids
import Derived.LaidLaws
import Derived.LaidMore
import GoSem.PinnedTables
namespace Go.Proofs.YtebhbcbcnjdgjaaDoor.dk
open Go.PlainAid Go.ChangeShapes Go.WideShapes Go.ChangeAt Go.RowKit

theorem laidOut : laidOutB Tryd.prog = true := by kernel_rfl
theorem trodAll_below {H : Type} {enc : TypeId × Value → H} {W W' : World} (hb : Below W.heap.size W W') :
    ∀ {ts : List TypeId} {vs : List Value} {ds : List (DataW H)} {ps : List MemPlace}, DataW.TrodAll enc Tryd.prog W 0 (fun _ => true) true ts vs ds ps →
    (∀ t ∈ ts, Tryd.prog.readableRec t = true ∧ t < Tryd.prog.types.size) → (∀ x ∈ ps, x.block < W.heap.size) →
    DataW.TrodAll enc Tryd.prog W' 0 (fun b => decide (b < W.heap.size)) true ts vs ds ps
  | [], [], [], _, h, _, _ => h
  | t :: ts, v :: vs, d :: ds, ps, h, hr, hlt => by
    obtain ⟨p, q, h1, h2, rfl⟩ := h
    have hk := hr t (List.mem_cons_self ..)
    exact ⟨p, q, Below.trod laidOut hk.1 hk.2 h1 hb (fun x hx => hlt x (List.mem_append_left _ hx)), trodAll_below hb h2 (fun t' ht' => hr t' (List.mem_cons_of_mem _ ht')) (fun x hx => hlt x (List.mem_append_right _ hx)), rfl⟩
theorem cByte1 : Tryd.prog.cellsOf 5 = 1 := by kernel_rfl
theorem bytesByte : Tryd.prog.bytesOf 5 = 1 := by kernel_rfl
theorem open_bytesN {H : Type} {enc : TypeId × Value → H} {W : World} {v : Value} {d : DataW H} {p : List MemPlace} (hsl : ∃ a n c, v = .slice a n c)
    (hj : DataW.Trod enc Tryd.prog W 0 (fun _ => true) true 23 v d p) :
    ∃ (a : Option Addr) (n c : Nat) (l : List Int), v = .slice a n c ∧ (∀ x ∈ l, 0 ≤ x ∧ x ≤ 255) ∧ Rd W a n l ∧ n ≤ c ∧ (n = 0 ∨ ∃ el sp, d = .slice el sp ∧ el.length = n) := by
  obtain ⟨a0, n0, c0, rfl⟩ := hsl
  obtain ⟨fuel, hf⟩ := hj
  have hf' : DataW.trod enc Tryd.prog W 0 (fun _ => true) true fuel 23 [.slice a0 n0 c0] = some (d, p) := hf
  rcases open_ints Tryd.underlying23 Tryd.underlying5 cByte1 hf' with ⟨hcs, hx⟩ | ⟨a, n, c, zs, hcs, _, hl, hm, hz, hx, hcell, hwf⟩
  · have hv : Value.slice a0 n0 c0 = .slice none 0 0 := (List.cons.inj hcs).1
    rw [hv]
    exact ⟨none, 0, 0, [], rfl, fun x hx => by simp at hx, ⟨rfl, fun h => absurd h (by omega)⟩, Nat.le_refl _, .inl rfl⟩
  · have hv : Value.slice a0 n0 c0 = .slice (some a) n c := (List.cons.inj hcs).1
    have hd : d = .slice (lits .u8 (zs.take n)) (lits .u8 (zs.drop n)) := (Prod.mk.inj hx).1
    simp only [if_true] at hz
    have hln : (zs.take n).length = n := by simp; omega
    refine ⟨some a, n, c, zs.take n, hv, fun x hx => ?_, ⟨hln, fun h0 => ?_⟩, hl, .inr ⟨_, _, hd, by simp [lits]; omega⟩⟩
    · have := hwf x (List.mem_of_mem_take hx)
      simpa [Lit.wf, IntKind.min, IntKind.max, IntKind.signed, IntKind.bits] using this
    · obtain ⟨b, off, rfl, hc⟩ := ints_at hcell (by omega)
      refine ⟨b, off, rfl, World.block_lt_of_cell? _ _ (hc 0 (by omega)), fun i hi => ?_⟩
      rw [hc i (by omega)]
      congr 2
      rw [List.getD_eq_getElem?_getD, List.getD_eq_getElem?_getD, List.getElem?_take, if_pos (by omega)]
theorem bytes_sized {H : Type} {ts : List TypeId} {ds : List (DataW H)} {j n : Nat} {d : DataW H} (hsz : (DataW.weightsEach Tryd.prog ts ds).all (· ≤ reachBytes) = true) (ht : ts[j]? = some 23) (hd : ds[j]? = some d)
    (h : n = 0 ∨ ∃ el sp, d = .slice el sp ∧ el.length = n) : n ≤ 140737488351232 := by
  rcases h with rfl | ⟨el, sp, rfl, hel⟩
  · omega
  · have := sized_slice hsz ht hd Tryd.underlying23
    rw [bytesByte] at this
    unfold reachBytes at this
    omega
end Go.Proofs.YtebhbcbcnjdgjaaDoor.dk
