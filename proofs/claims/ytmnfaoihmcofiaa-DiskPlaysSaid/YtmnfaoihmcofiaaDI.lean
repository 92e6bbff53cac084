/- The document's examples of the disk: awake answers true. -/
import Derived.Test.YtmnfaoihmcofiaaDH
import Derived.Lib.ConvBytes
namespace Go.Proofs.Ytmnfaoihmcofiaa.dk
open Go.PlainAid Go.ChangeShapes Go.WideShapes Go.ChangeAt Go.RowKit

theorem lay_sec {l : List Int} {i : Nat} {b : List Int} (hb : b.length = 64) (hl : i * 64 + 64 ≤ l.length) : secOf (lay l (i * 64) b) i = b := by
  unfold secOf lay
  have h1 : (l.take (i * 64)).length = i * 64 := by rw [List.length_take]; omega
  rw [List.append_assoc, List.drop_append_of_le_length (by omega), List.drop_eq_nil_of_le (by omega), List.nil_append, List.take_append_of_le_length (by omega), List.take_of_length_le (by omega)]
theorem secOf_rep (n i : Nat) (h : i * 64 + 64 ≤ n) : secOf (List.replicate n 0) i = List.replicate 64 0 := by
  unfold secOf
  rw [List.drop_replicate, List.take_replicate]
  congr 1
  omega
theorem bytes_belowd (w : World) (s : ByteArray) (T : TypeId) : Below w.heap.size w (Lib.bytesWorld w T s) :=
  ⟨rfl, rfl, rfl, by rw [Lib.bytesWorld_size]; omega, fun k hk => Lib.bytesWorld_at_old w T s k hk⟩

theorem conv_lit (w : World) (x : Int) : ∃ w2, (convert 32 32 (.slice (some ⟨w.heap.size, 0, none⟩) 1 1)).run Try.prog (w.alloc (.cells #[.int .u8 x] 5)) = .ok (.slice (some ⟨w.heap.size, 0, none⟩) 1 1) w2 ∧
    w2.heap.size = w.heap.size + 1 ∧ w2.cell? ⟨w.heap.size, 0, none⟩ = some (.int .u8 x) ∧ Below w.heap.size w w2 := by
  have hsh : (w.alloc (.cells #[.int .u8 x] 5)).shape? w.heap.size = some (5, 1) := by
    simp [World.shape?, World.alloc, -World.alloc_eq]
  refine ⟨(w.alloc (.cells #[.int .u8 x] 5)).freeze ⟨w.heap.size, 1, none⟩ 1, ?_, ?_, ?_, ?_⟩
  · simp [convert, run_underlying Try.underlying32, run_underlying Try.underlying5, markStringish, Result.andThen, hsh, -World.alloc_eq]
  · simp [World.freeze, World.alloc, -World.alloc_eq]
  · simp [World.cell?, World.freeze, World.alloc, -World.alloc_eq]
    rw [Array.getElem_modify_self]
    simp
  · refine ⟨rfl, rfl, rfl, by simp [World.freeze, World.alloc, -World.alloc_eq], fun k hk => ?_⟩
    have h1 : w.heap.size ≠ k := by omega
    simp [World.freeze, World.alloc, -World.alloc_eq, Array.getElem?_modify, Array.getElem?_push, h1, Ne.symm h1]

set_option maxHeartbeats 4000000 in
set_option maxRecDepth 20000 in
set_option pp.maxSteps 1000000 in
set_option pp.deepTerms true in
theorem awake_any (w : World) :
    Calls Try.prog 7 #[] w fun e w' => e = .returned (.bool true) ∧ Below w.heap.size w w' := by
  have hN := New_any 4 w (by omega) (by omega)
  rw [show ((4 : Nat) : Int) = 4 from rfl] at hN
  go_enter Try.func7, Try.ntmps7
  go_wp2_with fail
  with_reducible refine hN.mono ?_
  clear hN
  rintro e w1 ⟨D, L, N, rfl, h1, hb1⟩
  obtain ⟨w2, hcz, hz2, hcl, hb2⟩ := conv_lit w1 97
  have h2 := h1.below hb2
  have hR : Rd w2 (some ⟨w1.heap.size, 0, none⟩) 1 [97] := ⟨rfl, fun _ => ⟨_, _, rfl, by omega, fun j hj => by
    obtain rfl : j = 0 := by omega
    exact hcl⟩⟩
  have hW := Write_ok (m1 := { fresh 4 with writes := (fresh 4).writes + 1 }) h2 (some ⟨w1.heap.size, 0, none⟩) 1 1 [97] 1 (by omega) (by decide) rfl hR rfl (show ([] : List (Nat × List Int)).length ≤ 1000000 by decide) (spend_free h2 (by decide) (by decide))
  rw [show ((1 : Nat) : Int) = 1 from rfl] at hW
  have HB2 := Lib.hid (hb1.trans (hb2.mono hb1.size))
  have HW := Lib.hid hW
  clear hW hR h2 hb2 hcl hb1 h1
  go_wp2_with fail
  with_reducible refine HW.out.mono ?_
  clear HW
  rintro e w3 ⟨P3, rfl, h3, hb3, _⟩
  have hb3 := HB2.out.trans hb3.below
  go_wp2_with fail
  have hRd := Read_ok h3 rfl 1 (by decide)
  rw [show ((1 : Nat) : Int) = 1 from rfl] at hRd
  with_reducible refine hRd.mono ?_
  clear hRd
  rintro e w4 ⟨G4, rfl, hG4, hx4, h4, hb4⟩
  have hb4' := hb3.trans (hb4.mono hb3.size)
  go_wp2_with fail
  have hRo := Reopen_any h4 none 0 0 [] ⟨rfl, fun h => absurd h (by omega)⟩ (by omega) (by decide)
  with_reducible refine hRo.mono ?_
  clear hRo
  rintro e w5 ⟨rfl, h5, hb5⟩
  have hb5' := hb4'.trans hb5.below
  go_wp2_with fail
  have hRd := Read_ok h5 rfl 1 (by decide)
  rw [show ((1 : Nat) : Int) = 1 from rfl] at hRd
  with_reducible refine hRd.mono ?_
  clear hRd
  rintro e w6 ⟨G6, rfl, hG6, hx6, h6, hb6⟩
  have hb6' := hb5'.trans (hb6.mono hb5'.size)
  have hl3 := h3.lt
  have hG4s : G4 < w4.heap.size := (Array.getElem?_eq_some_iff.1 hx4).1
  have hy4 : w6.heap[G4]? = w4.heap[G4]? := by
    rw [hb6.block G4 (Nat.lt_of_lt_of_le hG4s hb5.below.size)]
    refine hb5.fr G4 hG4s (fun hx => ?_)
    rcases hx with hx | hx | hx | hx
    · omega
    · omega
    · omega
    · have := (h3.hP.lt G4 hx).2
      omega
  have c4 : w6.cell? ⟨G4, 0, none⟩ = some (.int .u8 97) := by
    rw [hx4, lay_sec (by decide) (by decide)] at hy4
    rw [cell_of_row _ _ _ _ _ _ hy4]
    rfl
  have c6 : w6.cell? ⟨G6, 0, none⟩ = some (.int .u8 0) := by
    rw [show secOf (reopened [] _).now 1 = secOf (lay (lay (fresh 4).now (1 * 64) (pad [97])) (1 * 64) (secOf (List.replicate 256 0) 1)) 1 from rfl, secOf_rep 256 1 (by omega), lay_sec (by decide) (by decide)] at hx6
    rw [cell_of_row _ _ _ _ _ _ hx6]
    rfl
  have HB6 := Lib.hid hb6'
  clear hy4 hx4 hx6 hl3 hG4s h3 h4 h5 h6 hb3 hb4 hb4' hb5 hb5' hb6 hb6'
  go_wp2
  go_ret
  exact ⟨rfl, HB6.out⟩
end Go.Proofs.Ytmnfaoihmcofiaa.dk
