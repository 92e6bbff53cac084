/- Arguments of bytes and of bools, opened. -/
import Derived.Test.YticiaiiedagalaaDFrame
import Derived.Test.YticiaiiedagalaaDH
import Derived.Deep.Grids
namespace Go.Proofs.Yticiaiiedagalaa.dk
open Go.PlainAid Go.ChangeShapes Go.WideShapes Go.ChangeAt Go.RowKit
open Go.Deep (open_bools boolRow)

theorem cByte1 : Try.prog.cellsOf 5 = 1 := by kernel_rfl
theorem cBool1 : Try.prog.cellsOf 4 = 1 := by kernel_rfl
theorem bytesByte : Try.prog.bytesOf 5 = 1 := by kernel_rfl
theorem bytesBool : Try.prog.bytesOf 4 = 1 := by kernel_rfl
theorem open_bytesR {H : Type} {enc : TypeId × Value → H} {W : World} {v : Value} {d : DataW H} {p : List MemPlace} (hsl : ∃ a n c, v = .slice a n c)
    (hj : DataW.Trod enc Try.prog W 0 (fun _ => true) true 45 v d p) :
    ∃ (a : Option Addr) (n c : Nat) (l : List Int), v = .slice a n c ∧ (∀ x ∈ l, 0 ≤ x ∧ x ≤ 255) ∧ Rd W a n l ∧ (n = 0 ∨ ∃ el sp, d = .slice el sp ∧ el.length = n) := by
  obtain ⟨a0, n0, c0, rfl⟩ := hsl
  obtain ⟨fuel, hf⟩ := hj
  have hf' : DataW.trod enc Try.prog W 0 (fun _ => true) true fuel 45 [.slice a0 n0 c0] = some (d, p) := hf
  rcases open_ints Try.underlying45 Try.underlying5 cByte1 hf' with ⟨hcs, hx⟩ | ⟨a, n, c, zs, hcs, _, hl, hm, hz, hx, hcell, hwf⟩
  · have hv : Value.slice a0 n0 c0 = .slice none 0 0 := (List.cons.inj hcs).1
    rw [hv]
    exact ⟨none, 0, 0, [], rfl, fun x hx => by simp at hx, ⟨rfl, fun h => absurd h (by omega)⟩, .inl rfl⟩
  · have hv : Value.slice a0 n0 c0 = .slice (some a) n c := (List.cons.inj hcs).1
    have hd : d = .slice (lits .u8 (zs.take n)) (lits .u8 (zs.drop n)) := (Prod.mk.inj hx).1
    simp only [if_true] at hz
    have hln : (zs.take n).length = n := by simp; omega
    refine ⟨some a, n, c, zs.take n, hv, fun x hx => ?_, ⟨hln, fun h0 => ?_⟩, .inr ⟨_, _, hd, by simp [lits]; omega⟩⟩
    · have := hwf x (List.mem_of_mem_take hx)
      simpa [Lit.wf, IntKind.min, IntKind.max, IntKind.signed, IntKind.bits] using this
    · obtain ⟨b, off, rfl, hc⟩ := ints_at hcell (by omega)
      refine ⟨b, off, rfl, World.block_lt_of_cell? _ _ (hc 0 (by omega)), fun i hi => ?_⟩
      rw [hc i (by omega)]
      congr 2
      rw [List.getD_eq_getElem?_getD, List.getD_eq_getElem?_getD, List.getElem?_take, if_pos (by omega)]
theorem bytes_sized {H : Type} {ts : List TypeId} {ds : List (DataW H)} {j n : Nat} {d : DataW H} (hsz : (DataW.weightsEach Try.prog ts ds).all (· ≤ reachBytes) = true) (ht : ts[j]? = some 45) (hd : ds[j]? = some d)
    (h : n = 0 ∨ ∃ el sp, d = .slice el sp ∧ el.length = n) : n ≤ 140737488351232 := by
  rcases h with rfl | ⟨el, sp, rfl, hel⟩
  · omega
  · have := sized_slice hsz ht hd Try.underlying45
    rw [bytesByte] at this
    unfold reachBytes at this
    omega
theorem open_boolsR {H : Type} {enc : TypeId × Value → H} {W : World} {v : Value} {d : DataW H} {p : List MemPlace} (hsl : ∃ a n c, v = .slice a n c)
    (hj : DataW.Trod enc Try.prog W 0 (fun _ => true) true 46 v d p) :
    ∃ (a : Option Addr) (n c : Nat) (l : List Bool), v = .slice a n c ∧ Kb W.heap.size W a n l ∧ (n = 0 ∨ ∃ el sp, d = .slice el sp ∧ el.length = n) := by
  obtain ⟨a0, n0, c0, rfl⟩ := hsl
  obtain ⟨fuel, hf⟩ := hj
  have hf' : DataW.trod enc Try.prog W 0 (fun _ => true) true fuel 46 [.slice a0 n0 c0] = some (d, p) := hf
  rcases open_bools Try.underlying46 Try.underlying4 cBool1 hf' with ⟨hcs, hx⟩ | ⟨a, n, c, Z, hcs, _, hl, hm, hx, hcell⟩
  · have hv : Value.slice a0 n0 c0 = .slice none 0 0 := (List.cons.inj hcs).1
    rw [hv]
    exact ⟨none, 0, 0, [], rfl, ⟨rfl, fun h => absurd h (by omega)⟩, .inl rfl⟩
  · have hv : Value.slice a0 n0 c0 = .slice (some a) n c := (List.cons.inj hcs).1
    have hd : d = boolRow (some a) n c Z := (Prod.mk.inj hx).1
    refine ⟨some a, n, c, (List.range n).map Z, hv, ⟨by simp, fun h0 => ?_⟩, .inr ⟨_, _, hd, by simp⟩⟩
    obtain ⟨b, off, spot⟩ := a
    have hspot : spot = none := by simpa [Addr.add] using World.cell?_spot (hcell 0 (by omega))
    subst hspot
    have hc : ∀ i, i < c → W.cell? ⟨b, off + i, none⟩ = some (.bool (Z i)) := fun i hi => by rw [← add_off]; exact hcell i hi
    refine ⟨b, off, rfl, World.block_lt_of_cell? _ _ (hc 0 (by omega)), fun i hi => ?_⟩
    rw [hc i (by omega)]
    congr 2
    rw [List.getD_eq_getElem?_getD, List.getElem?_map, List.getElem?_range (by omega)]
    rfl
theorem bools_sized {H : Type} {ts : List TypeId} {ds : List (DataW H)} {j n : Nat} {d : DataW H} (hsz : (DataW.weightsEach Try.prog ts ds).all (· ≤ reachBytes) = true) (ht : ts[j]? = some 46) (hd : ds[j]? = some d)
    (h : n = 0 ∨ ∃ el sp, d = .slice el sp ∧ el.length = n) : n ≤ 140737488351232 := by
  rcases h with rfl | ⟨el, sp, rfl, hel⟩
  · omega
  · have := sized_slice hsz ht hd Try.underlying46
    rw [bytesBool] at this
    unfold reachBytes at this
    omega
end Go.Proofs.Yticiaiiedagalaa.dk
