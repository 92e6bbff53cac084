/- For all inputs DiskKeeps answers true. -/
import Derived.Test.YtmnfaoihmcofiaaDQ
import Derived.Test.YtmnfaoihmcofiaaDM
import Derived.Laws.BytesString
namespace Go.Proofs.Ytmnfaoihmcofiaa.dk
open Go.PlainAid Go.ChangeShapes Go.WideShapes Go.ChangeAt Go.RowKit

/-- Bytes as a string. -/
def strOf (l : List Int) : ByteArray := l.foldl (fun r n => r.push (UInt8.ofNat n.toNat)) ByteArray.empty
theorem conv_rd {W : World} {p : Option Addr} {n c : Nat} {l : List Int} (h : Rd W p n l) : (convert 32 9 (.slice p n c)).run Try.prog W = .ok (.string (strOf l)) W := by
  rw [run_convert_bytes_string W 32 9 5 p n c Try.underlying32 Try.underlying5 Try.underlying9]
  rcases Nat.eq_zero_or_pos n with rfl | h0
  · have hl := List.length_eq_zero_iff.1 h.1
    subst hl
    cases p with
    | none => simp [Conv.bytesToString, strOf]
    | some a => exact run_bytesToString W a 0 c [] (by simp [loadCells, loadCellsFrom])
  · obtain ⟨b, off, rfl, _, hc⟩ := h.2 h0
    refine run_bytesToString W _ _ _ l ?_
    have := run_loadCells_list (P := Try.prog) W ⟨b, off, none⟩ (bcells l) (fun j u hj => by
      have hjl : j < l.length := by
        obtain ⟨k, _⟩ := List.getElem?_eq_some_iff.1 hj
        rwa [bcells_length] at k
      rw [bcells_at l j hjl] at hj
      cases hj
      rw [add_off]
      exact hc j (by rw [← h.1]; exact hjl))
    rw [bcells_length, h.1] at this
    exact this

set_option maxHeartbeats 4000000 in
set_option maxRecDepth 20000 in
theorem keeps_great (p : Option Addr) (n c : Nat) (at_ : Int) (o : Option Addr) (on oc : Nat) (os : Nat → Opc) (q : Option Addr) (kn kc : Nat) (w : World) (ho : OpsAt w.heap.size w o on os) (hbig : 64 < n ∨ ¬ Small on os ∨ 200 < kn) :
    Calls Try.prog 4 #[.slice p n c, .int .i64 at_, .slice o on oc, .slice q kn kc] w fun e w' => e = .returned (.bool true) ∧ Below w.heap.size w w' := by
  have HA := Lib.hid (awake_any w)
  rcases (show 64 < n ∨ (n ≤ 64 ∧ ¬ Small on os) ∨ (n ≤ 64 ∧ Small on os ∧ 200 < kn) by
    by_cases h1 : 64 < n
    · exact .inl h1
    · by_cases h2 : Small on os
      · refine .inr (.inr ⟨by omega, h2, ?_⟩)
        rcases hbig with h | h | h
        · omega
        · exact absurd h2 h
        · exact h
      · exact .inr (.inl ⟨by omega, h2⟩)) with h | ⟨h0, h⟩ | ⟨h0, h1, h⟩
  · have d1 : decide ((64 : Int) < n) = true := decide_eq_true (by omega)
    go_enter Try.func4, Try.ntmps4
    go_wp2_with (go_at_call 7; with_reducible refine HA.out.mono ?_; rintro e w0 ⟨rfl, hb0⟩)
    go_ret
    exact ⟨rfl, hb0⟩
  · have d1 : decide ((64 : Int) < n) = false := decide_eq_false (by omega)
    have HS : ∀ w0, Below w.heap.size w w0 → Calls Try.prog 8 #[.slice o on oc] w0 fun e w' => e = .returned (.bool false) ∧ w0 = w' := fun w0 hb => small_any w.heap.size w0 o on oc os (ho.below hb) false ⟨fun h => (by cases h), fun hs => absurd hs h⟩
    go_enter Try.func4, Try.ntmps4
    go_wp2_with (first | (go_at_call 7; with_reducible refine HA.out.mono ?_; rintro e w0 ⟨rfl, hb0⟩) | (go_at_call 8; with_reducible refine (HS _ hb0).mono ?_; rintro e w1 ⟨rfl, rfl⟩))
    go_ret
    exact ⟨rfl, hb0⟩
  · have d1 : decide ((64 : Int) < n) = false := decide_eq_false (by omega)
    have d2 : decide ((200 : Int) < kn) = true := decide_eq_true (by omega)
    have HS : ∀ w0, Below w.heap.size w w0 → Calls Try.prog 8 #[.slice o on oc] w0 fun e w' => e = .returned (.bool true) ∧ w0 = w' := fun w0 hb => small_any w.heap.size w0 o on oc os (ho.below hb) true ⟨fun _ => h1, fun _ => rfl⟩
    go_enter Try.func4, Try.ntmps4
    go_wp2_with (first | (go_at_call 7; with_reducible refine HA.out.mono ?_; rintro e w0 ⟨rfl, hb0⟩) | (go_at_call 8; with_reducible refine (HS _ hb0).mono ?_; rintro e w1 ⟨rfl, rfl⟩))
    go_ret
    exact ⟨rfl, hb0⟩
end Go.Proofs.Ytmnfaoihmcofiaa.dk
