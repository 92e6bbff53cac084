/- UtfHex: walks. -/
import Derived.Test.YtbajejhhmacflaaDoorUtfU
import Derived.Test.YtbajejhhmacflaaDoorUtfV
import Derived.Deep.RegionLaw
import Derived.Deep.RegionHeld3
import Derived.Deep.DeepCutAuto
namespace Go.Proofs.YtbajejhhmacflaaDoor.utf
open Go.PlainAid Go.ChangeShapes Go.WideShapes Go.ChangeAt Go.RowKit

set_option maxHeartbeats 2000000 in
theorem hex_long (r : Int) (g : Bool) (p : Option Addr) (n c : Nat) (w : World) (hF : Forms w) (hbig : 200 < n) (hn : n ≤ 140737488351232) :
    Calls Tryd.prog 9 #[.int .i32 r, .bool g, .slice p n c] w fun e w' => e = .returned (.bool true) ∧ Below w.heap.size w w' := by
  have H := Lib.hid (awake_any w hF)
  clear hF
  go_enter Tryd.func9, Tryd.ntmps9
  go_wp2_with (go_at_call 11; refine H.out.mono ?_; rintro e w1 ⟨rfl, hb1⟩)
  go_ret
  exact ⟨rfl, hb1⟩

set_option maxHeartbeats 2000000 in
theorem hex_neg (r : Int) (g : Bool) (p : Option Addr) (n c : Nat) (w : World) (hF : Forms w) (hn : n ≤ 200) (h : r < 0) :
    Calls Tryd.prog 9 #[.int .i32 r, .bool g, .slice p n c] w fun e w' => e = .returned (.bool true) ∧ Below w.heap.size w w' := by
  have H := Lib.hid (awake_any w hF)
  clear hF
  go_enter Tryd.func9, Tryd.ntmps9
  go_wp2_with (go_at_call 11; refine H.out.mono ?_; rintro e w1 ⟨rfl, hb1⟩)
  go_ret
  exact ⟨rfl, hb1⟩

set_option maxHeartbeats 2000000 in
theorem hex_high (r : Int) (g : Bool) (p : Option Addr) (n c : Nat) (w : World) (hF : Forms w) (hn : n ≤ 200) (h : 1114111 < r) :
    Calls Tryd.prog 9 #[.int .i32 r, .bool g, .slice p n c] w fun e w' => e = .returned (.bool true) ∧ Below w.heap.size w w' := by
  have H := Lib.hid (awake_any w hF)
  clear hF
  go_enter Tryd.func9, Tryd.ntmps9
  go_wp2_with (go_at_call 11; refine H.out.mono ?_; rintro e w1 ⟨rfl, hb1⟩)
  go_ret
  exact ⟨rfl, hb1⟩

set_option maxHeartbeats 2000000 in
theorem hex_half (r : Int) (g : Bool) (p : Option Addr) (n c : Nat) (w : World) (hF : Forms w) (hn : n ≤ 200) (h0 : 55296 ≤ r) (h1 : r < 57344) :
    Calls Tryd.prog 9 #[.int .i32 r, .bool g, .slice p n c] w fun e w' => e = .returned (.bool true) ∧ Below w.heap.size w w' := by
  have H := Lib.hid (awake_any w hF)
  clear hF
  have d1 : decide (55296 ≤ r) = true := decide_eq_true h0
  have d2 : decide (r < 57344) = true := decide_eq_true h1
  have d3 : decide (r < 0) = false := decide_eq_false (by omega)
  have d4 : decide (1114111 < r) = false := decide_eq_false (by omega)
  go_enter Tryd.func9, Tryd.ntmps9
  go_wp2_with (go_at_call 11; refine H.out.mono ?_; rintro e w1 ⟨rfl, hb1⟩)
  go_ret
  exact ⟨rfl, hb1⟩

theorem Bs.first {w : World} {b off n c : Nat} {l : List Int} (h : Bs w (.slice (some ⟨b, off, none⟩) n c) l) (h0 : 0 < n) : w.cell? ⟨b, off, none⟩ = some (.int .u8 (gl l 0)) := by
  rcases h with ⟨_, _, hv, rfl⟩ | ⟨b', off', cap', hv, hp, _, _, h⟩
  · injection hv with _ hm; omega
  · injection hv with ha hm hcap
    injection ha with ha
    injection ha with hb ho
    subst hb ho
    simpa using h 0 hp
/-- What an append of bytes leaves in a slot. -/
def AppCut (B : Nat) (W : World) (n : Nat) (xs : List Int) (v : Value) (w' : World) : Prop := ∃ g cap, v = .slice (some ⟨g, 0, none⟩) n cap ∧ w'.ownsRow B 5 1 (.slice (some ⟨g, 0, none⟩) n cap) n (bcells xs) ∧ Below B W w'
/-- The loop over the units: what it has laid. -/
def HexR (B : Nat) (W0 : World) (xs1 xs2 : List Int) (k : Nat) (v : Value) (wr : World) : Prop :=
  (k = 0 ∧ v = .slice none 0 0 ∧ W0 = wr) ∨ (k = 1 ∧ AppCut B W0 5 xs1 v wr) ∨ (k = 2 ∧ AppCut B W0 11 xs2 v wr)
theorem drew_Bs {w : World} {v : Value} {l : List Int} (h : Bs w v l) : Bs w.drew v l := h.below (Below.drew (Below.refl _ _))

end Go.Proofs.YtbajejhhmacflaaDoor.utf
