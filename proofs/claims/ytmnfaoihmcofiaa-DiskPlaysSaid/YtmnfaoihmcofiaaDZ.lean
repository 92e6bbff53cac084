/- The document's Write. -/
import Derived.Test.YtmnfaoihmcofiaaDX
namespace Go.Proofs.Ytmnfaoihmcofiaa.dk
open Go.PlainAid Go.ChangeShapes Go.WideShapes Go.ChangeAt Go.RowKit

theorem rWrite_gone {B D : Nat} {S P : Value} {r : Rk} {w : World} (h : RefAt B D S P r w) (hd : r.gone = true) (i : Int) (v : Value) :
    Calls Try.prog 12 #[.pointer (some ⟨D, 0, none⟩), .int .i64 i, v] w fun e w' => e = .returned (.int .i64 10) ∧ w = w' := by
  have k3 := h.cell 3
  simp only [rcells] at k3
  simp at k3
  rw [hd] at k3
  go_enter Try.func12, Try.ntmps12
  go_wp2
  go_ret
  exact ⟨rfl, rfl⟩
theorem rWrite_arg {B D : Nat} {S P : Value} {r : Rk} {w : World} (h : RefAt B D S P r w) (hd : r.gone = false) (i : Int) (p : Option Addr) (k c : Nat) (hi : i < 0 ∨ (r.S.length : Int) ≤ i ∨ 64 < k) :
    Calls Try.prog 12 #[.pointer (some ⟨D, 0, none⟩), .int .i64 i, .slice p k c] w fun e w' => e = .returned (.int .i64 1) ∧ w = w' := by
  obtain ⟨sp, sc, rfl⟩ := own_form h.hS
  have k0 := h.cell 0
  have k3 := h.cell 3
  simp only [rcells] at k0 k3
  simp at k0 k3
  rw [hd] at k3
  generalize r.S.length = n at *
  rcases (show i < 0 ∨ (0 ≤ i ∧ (n : Int) ≤ i) ∨ (0 ≤ i ∧ i < n ∧ 64 < k) by omega) with hi | ⟨h0, hi⟩ | ⟨h0, h1, hi⟩
  · have d1 : decide (i < 0) = true := decide_eq_true hi
    go_enter Try.func12, Try.ntmps12
    go_wp2
    go_ret
    exact ⟨rfl, rfl⟩
  · have d1 : decide (i < 0) = false := decide_eq_false (by omega)
    have d2 : decide ((n : Int) ≤ i) = true := decide_eq_true hi
    go_enter Try.func12, Try.ntmps12
    go_wp2
    go_ret
    exact ⟨rfl, rfl⟩
  · have d1 : decide (i < 0) = false := decide_eq_false (by omega)
    have d2 : decide ((n : Int) ≤ i) = false := decide_eq_false (by omega)
    have d3 : decide ((64 : Int) < k) = true := decide_eq_true (by omega)
    go_enter Try.func12, Try.ntmps12
    go_wp2
    go_ret
    exact ⟨rfl, rfl⟩
theorem rWrite_stop {B D : Nat} {S P : Value} {r : Rk} {w : World} (h : RefAt B D S P r w) (hd : r.gone = false) (h0 : r.left = 0) (i : Nat) (p : Option Addr) (k c : Nat) (hi : i < r.S.length) (hk : k ≤ 64) :
    Calls Try.prog 12 #[.pointer (some ⟨D, 0, none⟩), .int .i64 i, .slice p k c] w fun e w' => e = .returned (.int .i64 10) ∧ RefAt B D S P { r with gone := true } w' ∧ Below B w w' ∧ Fr D w w' := by
  obtain ⟨sp, sc, rfl⟩ := own_form h.hS
  have k0 := h.cell 0
  have k3 := h.cell 3
  have HS := Lib.hid (rspend_dead h h0)
  simp only [rcells] at k0 k3
  simp at k0 k3
  rw [hd] at k3
  have d1 : decide ((i : Int) < 0) = false := decide_eq_false (by omega)
  have d2 : decide ((r.S.length : Int) ≤ i) = false := decide_eq_false (by omega)
  have d3 : decide ((64 : Int) < k) = false := decide_eq_false (by omega)
  clear h
  go_enter Try.func12, Try.ntmps12
  go_wp2_with (go_at_call 28; with_reducible refine HS.out.mono ?_; rintro e w' ⟨rfl, hw⟩)
  go_ret
  exact ⟨rfl, hw⟩
theorem ba_ext {a b : ByteArray} (h : a.data.toList = b.data.toList) : a = b := by
  have h2 : a.data = b.data := Array.toList_inj.1 h
  cases a; cases b
  exact congrArg ByteArray.mk h2
theorem cut_pad {b : List Int} (h : b.length ≤ 64) : (strOf b ++ strOf (List.replicate 64 0)).extract 0 64 = strOf (pad b) := by
  apply ba_ext
  rw [ByteArray.data_extract, ByteArray.data_append, strOf_data, Array.toList_extract, Array.toList_append, strOf_data, strOf_data]
  unfold pad
  rw [← List.map_append, List.extract_eq_take_drop, List.drop_zero, Nat.sub_zero, ← List.map_take]
  congr 1
  rw [List.take_append, List.take_of_length_le h, List.take_replicate, Nat.min_eq_left (by omega)]
end Go.Proofs.Ytmnfaoihmcofiaa.dk
