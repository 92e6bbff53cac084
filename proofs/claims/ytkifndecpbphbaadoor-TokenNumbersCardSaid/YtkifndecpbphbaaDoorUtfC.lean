/- Contracts: strings.Builder.WriteByte; what a string, and bytes, begin with. -/
import Derived.Test.YtkifndecpbphbaaDoorUtfB
import Derived.Test.YtkifndecpbphbaaDoorUJa
import Derived.Test.YtkifndecpbphbaaDoorShelf
import Derived.Lib.Walk
import Derived.Lib.Strings
namespace Go.Proofs.YtkifndecpbphbaaDoor.utf
open Go.PlainAid Go.ChangeShapes Go.WideShapes Go.ChangeAt Go.RowKit

/-! ### strings.Builder -/
abbrev TB : Nat := 45
theorem sizeBuilder : (Tryd.prog.info? 45).map (·.size) = some 2 := by kernel_rfl
theorem liesBuilder : liesAt Tryd.prog Tryd.prog.depth 45 (2 / Tryd.prog.cellsOf 45) 0 45 1 = true := by kernel_rfl
theorem infoByte : (Tryd.prog.info? 5).map (fun i => (i.zero, i.size, i.bytes)) = some (some (.int .u8 0), 1, 1) := by kernel_rfl

set_option maxRecDepth 100000 in
theorem copyCheck_used (b : Nat) (w : World) (h0 : w.cell? ⟨b, 0, none⟩ = some (.pointer (some ⟨b, 0, none⟩))) :
    Calls Tryd.prog 24 #[.pointer (some ⟨b, 0, none⟩)] w fun e w' => e = .returned (.tuple #[]) ∧ w = w' := by
  obtain ⟨j, hj, _⟩ := Option.map_eq_some_iff.1 sizeBuilder
  go_enter Tryd.func24, Tryd.ntmps24
  go_wp2
  rw [Lib.run_neq_ptr_same w _ Tryd.underlying43 hj]
  go_wp2
  go_end0
  exact ⟨rfl, rfl⟩

set_option maxHeartbeats 1000000 in
set_option maxRecDepth 100000 in
theorem WriteByte_any (B b : Nat) (bs : List Value) (c : Int) (w : World) (h : Lib.BuilderAt 45 5 B b (.pointer (some ⟨b, 0, none⟩)) bs w) (hlen : bs.length + 1 ≤ 140737488355328) (hBw : B ≤ w.heap.size) :
    Calls Tryd.prog 15 #[.pointer (some ⟨b, 0, none⟩), .int .u8 c] w fun e w' => e = .returned .nilIface ∧ (Lib.BuilderAt 45 5 B b (.pointer (some ⟨b, 0, none⟩)) (bs ++ [.int .u8 c]) w' ∧ Below B w w') := by
  obtain ⟨i0, hi, hz0, hz1, hz2⟩ := info_parts infoByte
  have k0 := h.cell0
  obtain ⟨hB, v, hbk, hown, hne⟩ := h
  have c1 : w.cell? ⟨b, 1, none⟩ = some v := by rw [Lib.cell_of_heap hbk]; rfl
  go_enter Tryd.func15, Tryd.ntmps15
  go_wp2_with (go_at_call 24; refine (copyCheck_used b _ k0).mono ?_)
  rintro e w1 ⟨rfl, rfl⟩
  go_wp2_with (at_builtin; refine wpList_append_own _ rfl _ _ 33 rfl B 5 i0 (.int .u8 0) 1 1 Tryd.underlying33 hi hz0 hz1 hz2 rfl (by decide) _ _ _ rfl (hown.alloc _) ⟨w.heap.size, 0, none⟩ 1 1 [.int .u8 c] rfl rfl ?c1 ?c2 ?c3 ?c4 ?c5 ?_)
  case c1 =>
    intro j u hj
    match j, hj with
    | 0, hj => simp at hj; subst hj; simp [Addr.add]
  case c2 => intro u hu; simp at hu; subst hu; rfl
  case c3 => unfold maxLen; omega
  case c4 => omega
  case c5 => simp; omega
  intro v' w2 hown' hgrow _
  have hlt : b < w.heap.size := by
    rcases Nat.lt_or_ge b w.heap.size with h' | h'
    · exact h'
    · simp [Array.getElem?_eq_none h'] at hbk
  have hb2 : w2.heap[b]? = some (.cells #[.pointer (some ⟨b, 0, none⟩), v] 45 (0, 0)) := by
    rw [hgrow.block b (by simp; omega) (fun e => hne e.symm), Lib.alloc_old w _ b hlt]
    exact hbk
  have d0 : w2.cell? ⟨b, 0, none⟩ = some (.pointer (some ⟨b, 0, none⟩)) := by rw [Lib.cell_of_heap hb2]; rfl
  have d1 : w2.cell? ⟨b, 1, none⟩ = some v := by rw [Lib.cell_of_heap hb2]; rfl
  have f1 : w2.frozen? ⟨b, 1, none⟩ = false := Lib.frozen_of_heap hb2 1
  obtain ⟨g, cap, rfl⟩ : ∃ g cap, v' = .slice (some ⟨g, 0, none⟩) (bs.length + 1) cap := by
    rcases hown'.2 with ⟨_, h0⟩ | ⟨g, cap, cur, hv, _⟩
    · omega
    · exact ⟨g, cap, hv⟩
  go_wp2
  go_ret
  refine ⟨rfl, ?_, ?_⟩
  · exact Lib.BuilderAt.put (T := 45) (e := 5) hB hb2 (bs' := bs ++ [.int .u8 c]) (by simpa using hown') (by decide)
  · exact ((((Below.refl B w).alloc (by omega) _).grown hgrow (by simp; omega) (fun k hk => (hown.lt k hk).1))).setCell (p := ⟨b, 1, none⟩) hB _

/-! ### what bytes begin with -/

/-- The bytes of a string, as numbers. -/
def ints (s : ByteArray) : List Int := s.data.toList.map fun b => (b.toNat : Int)
theorem ints_length (s : ByteArray) : (ints s).length = s.size := by simp [ints]
theorem ints_gl (s : ByteArray) (i : Nat) : gl (ints s) i = bt s i := by
  unfold gl bt ints
  by_cases h : i < s.size
  · rw [dif_pos h]
    have h' : i < s.data.toList.length := by simpa using h
    rw [List.getD_eq_getElem?_getD, List.getElem?_map, List.getElem?_eq_getElem h']
    rfl
  · rw [dif_neg h, List.getD_eq_getElem?_getD, List.getElem?_eq_none (by simpa using Nat.le_of_not_lt h)]
    rfl
theorem ints_oct (s : ByteArray) : Oct (ints s) := by
  intro x hx
  obtain ⟨b, _, rfl⟩ := List.mem_map.1 hx
  have := b.toNat_lt
  omega
theorem NX_eq (s : ByteArray) : NX s = nxl (ints s) := by
  unfold NX nxl
  rw [ints_length, ints_gl, ints_gl, ints_gl, ints_gl]

/-- The slice v reads as the bytes l. -/
def Bs (w : World) (v : Value) (l : List Int) : Prop :=
  (∃ p c, v = .slice p 0 c ∧ l = []) ∨ ∃ b off cap, v = .slice (some ⟨b, off, none⟩) l.length cap ∧ 0 < l.length ∧ l.length ≤ cap ∧ b < w.heap.size ∧ ∀ i, i < l.length → w.cell? ⟨b, off + i, none⟩ = some (.int .u8 (gl l i))
theorem Bs.below {w w' : World} {v : Value} {l : List Int} (h : Bs w v l) (hb : Below w.heap.size w w') : Bs w' v l := by
  rcases h with h | ⟨b, off, cap, hv, h0, hc, hlt, h⟩
  · exact .inl h
  · exact .inr ⟨b, off, cap, hv, h0, hc, Nat.lt_of_lt_of_le hlt hb.size, fun i hi => (hb.cell (p := ⟨b, off + i, none⟩) hlt).trans (h i hi)⟩

theorem nextB_any (v : Value) (l : List Int) (w : World) (hO : Oct l) (hm : l.length ≤ maxLen) (hv : Bs w v l) (hF : Forms w) :
    Calls Tryd.prog 14 #[v] w fun e w' => e = .returned (.tuple #[.int .i32 (nxl l).1, .int .i64 (nxl l).2]) ∧ Below w.heap.size w w' := by
  rcases hv with ⟨p, c, rfl, rfl⟩ | ⟨b, off, cap, rfl, h0, hc, hlt, hcell⟩
  · refine (nextB_nil c p w).mono ?_
    rintro e w' ⟨rfl, rfl⟩
    exact ⟨ret_two (by rw [nxl_nil]), Below.refl _ _⟩
  by_cases h : gl l 0 < 128
  · refine (nextB_ascii b off l.length cap (gl l 0) w h0 hm (hO.gl 0).1 h (by simpa using hcell 0 h0)).mono ?_
    rintro e w' ⟨rfl, rfl⟩
    refine ⟨ret_two ?_, Below.refl _ _⟩
    unfold nxl nx
    rw [if_neg (by omega), if_pos h]
  · exact nextB_rest b off l.length cap (gl l 0) (gl l 1) (gl l 2) (gl l 3) w h0 hm h (hO.gl 0).2 (fun _ => hO.gl 1) (fun _ => hO.gl 2) (fun _ => hO.gl 3) hlt (by simpa using hcell 0 h0)
      (hcell 1) (hcell 2) (hcell 3) hF _ rfl
end Go.Proofs.YtkifndecpbphbaaDoor.utf
