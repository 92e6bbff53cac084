/- awake answers true. -/
import Derived.Test.YtbajejhhmacflaaDoorUtfF
namespace Go.Proofs.YtbajejhhmacflaaDoor.utf
open Go.PlainAid Go.ChangeShapes Go.WideShapes Go.ChangeAt Go.RowKit

theorem Bs_two (w : World) (x y : Int) (T : TypeId) : Bs (w.alloc (.cells #[.int .u8 x, .int .u8 y] T)) (.slice (some ⟨w.heap.size, 0, none⟩) 2 2) [x, y] := by
  refine .inr ⟨w.heap.size, 0, 2, rfl, by simp, by simp, by simp, fun i hi => ?_⟩
  match i, hi with
  | 0, _ => simp [gl]
  | 1, _ => simp [gl]

set_option maxHeartbeats 2000000 in
theorem awake_any (w : World) (hF : Forms w) :
    Calls Tryd.prog 11 #[] w fun e w' => e = .returned (.bool true) ∧ Below w.heap.size w w' := by
  have hb0 : Below w.heap.size w (w.alloc (.cells #[.int .u8 195, .int .u8 169] 5)) := (Below.refl _ _).alloc (Nat.le_refl _) _
  have e1 : nxl [195, 169] = (233, 2) := by decide
  have H1 := Next_any _ [195, 169] _ (by intro x hx; simp at hx; omega) (by decide) (Bs_two w 195 169 5) (hF.below hb0 hF.size)
  rw [e1] at H1
  have H1 := Lib.hid H1
  have HF := Lib.hid hF
  clear hF e1
  go_enter Tryd.func11, Tryd.ntmps11
  go_wp2_with (go_at_call 12; refine H1.out.mono ?_; rintro e w1 ⟨rfl, hb1⟩)
  have z1 := hb1.size
  simp at z1
  refine (Quote_tab w1).mono ?_
  rintro e w2 ⟨rfl, hb2⟩
  have z2 := hb2.size
  have hb2' : Below w.heap.size w w2 := (hb0.trans (hb1.mono (by simp))).trans (hb2.mono (by omega))
  have hb3 : Below w2.heap.size w2 (w2.alloc (.cells #[.int .u8 97, .int .u8 200] 5)) := (Below.refl _ _).alloc (Nat.le_refl _) _
  have hb3' := hb2'.trans (hb3.mono (by omega))
  have e2 : chk [97, 200] = 1 := by decide
  have H2 := Check_any _ [97, 200] _ (by intro x hx; simp at hx; omega) (by decide) (Bs_two w2 97 200 5) (HF.out.below hb3' HF.out.size)
  rw [e2] at H2
  have H2 := Lib.hid H2
  clear e2
  go_wp2_with (go_at_call 16; refine H2.out.mono ?_; rintro e w3 ⟨rfl, hb4⟩)
  go_ret
  exact ⟨rfl, hb3'.trans (hb4.mono (by simp; omega))⟩
end Go.Proofs.YtbajejhhmacflaaDoor.utf
