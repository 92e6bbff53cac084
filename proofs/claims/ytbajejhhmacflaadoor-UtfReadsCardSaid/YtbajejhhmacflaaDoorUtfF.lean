/- The document's examples: awake answers true. -/
import Derived.Test.YtbajejhhmacflaaDoorUtfE
import Derived.Deep.RegionWith
namespace Go.Proofs.YtbajejhhmacflaaDoor.utf
open Go.PlainAid Go.ChangeShapes Go.WideShapes Go.ChangeAt Go.RowKit

/-- The letter of a control; 0: it has none. -/
def letter (c : Int) : Int := if c = 8 then 98 else if c = 9 then 116 else if c = 10 then 110 else if c = 12 then 102 else if c = 13 then 114 else 0
theorem letterOf_any (c : Int) (w : World) :
    Calls Tryd.prog 35 #[.int .u8 c] w fun e w' => e = .returned (.int .u8 (letter c)) ∧ w = w' := by
  by_cases h8 : c = 8
  · have e : letter c = 98 := if_pos h8
    have H := Lib.hid e
    have b8 : (c == 8) = true := by simp [h8]
    clear e h8
    go_enter Tryd.func35, Tryd.ntmps35
    go_wp2
    go_ret
    exact ⟨ret_int H.out.symm, rfl⟩
  have b8 : (c == 8) = false := by simp [h8]
  by_cases h9 : c = 9
  · have e : letter c = 116 := by unfold letter; rw [if_neg h8, if_pos h9]
    have H := Lib.hid e
    have b9 : (c == 9) = true := by simp [h9]
    clear e h8 h9
    go_enter Tryd.func35, Tryd.ntmps35
    go_wp2
    go_ret
    exact ⟨ret_int H.out.symm, rfl⟩
  have b9 : (c == 9) = false := by simp [h9]
  by_cases h10 : c = 10
  · have e : letter c = 110 := by unfold letter; rw [if_neg h8, if_neg h9, if_pos h10]
    have H := Lib.hid e
    have b10 : (c == 10) = true := by simp [h10]
    clear e h8 h9 h10
    go_enter Tryd.func35, Tryd.ntmps35
    go_wp2
    go_ret
    exact ⟨ret_int H.out.symm, rfl⟩
  have b10 : (c == 10) = false := by simp [h10]
  by_cases h12 : c = 12
  · have e : letter c = 102 := by unfold letter; rw [if_neg h8, if_neg h9, if_neg h10, if_pos h12]
    have H := Lib.hid e
    have b12 : (c == 12) = true := by simp [h12]
    clear e h8 h9 h10 h12
    go_enter Tryd.func35, Tryd.ntmps35
    go_wp2
    go_ret
    exact ⟨ret_int H.out.symm, rfl⟩
  have b12 : (c == 12) = false := by simp [h12]
  by_cases h13 : c = 13
  · have e : letter c = 114 := by unfold letter; rw [if_neg h8, if_neg h9, if_neg h10, if_neg h12, if_pos h13]
    have H := Lib.hid e
    have b13 : (c == 13) = true := by simp [h13]
    clear e h8 h9 h10 h12 h13
    go_enter Tryd.func35, Tryd.ntmps35
    go_wp2
    go_ret
    exact ⟨ret_int H.out.symm, rfl⟩
  have b13 : (c == 13) = false := by simp [h13]
  have e : letter c = 0 := by unfold letter; rw [if_neg h8, if_neg h9, if_neg h10, if_neg h12, if_neg h13]
  have H := Lib.hid e
  clear e h8 h9 h10 h12 h13
  go_enter Tryd.func35, Tryd.ntmps35
  go_wp2
  go_ret
  exact ⟨ret_int H.out.symm, rfl⟩

set_option maxHeartbeats 2000000 in
/-- A tabulator in signs. -/
theorem Quote_tab (w : World) :
    Calls Tryd.prog 20 #[.string ⟨#[9]⟩] w fun e w' => e = .returned (.string ⟨#[34, 92, 116, 34]⟩) ∧ Below w.heap.size w w' := by
  have hbk : (w.alloc (.cells #[.pointer none, .slice none 0 0] 45)).heap[w.heap.size]? = some (.cells #[.pointer none, .slice none 0 0] 45 (0, 0)) := heap_alloc_new w _
  have hgrow := Lib.hid (Tryd.Builder_Grow_fresh w.heap.size w.heap.size 3 _ (Nat.le_refl _) hbk (by simp) (by decide))
  have hb0 : Below w.heap.size w (w.alloc (.cells #[.pointer none, .slice none 0 0] 45)) := (Below.refl _ _).alloc (Nat.le_refl _) _
  clear hbk
  go_enter Tryd.func20, Tryd.ntmps20
  go_wp2_with (go_at_call 33; refine hgrow.out.mono ?_; rintro e w1 ⟨rfl, hB1, hb1⟩)
  have z1 := hb1.size
  simp at z1
  refine (WriteByte_any w.heap.size w.heap.size _ 34 w1 hB1 (by simp) (by omega)).mono ?_
  rintro e w2 ⟨rfl, hB2, hb2⟩
  have z2 := hb2.size
  go_wp2
  refine wp_loop_rounds 2 ?_
  rw [rounds_succ]
  go_wp2_with (go_at_call 34; refine (WriteByte_any w.heap.size w.heap.size _ 92 w2 hB2 (by simp) (by omega)).mono ?_; rintro e w3 ⟨rfl, hB3, hb3⟩)
  refine (letterOf_any _ w2).mono ?_
  rintro e w' ⟨rfl, rfl⟩
  have hl : letter (((⟨#[9]⟩ : ByteArray)[0]).toNat : Int) = 116 := by decide
  rw [hl]
  clear hl
  go_wp2_with (go_at_call 34; refine (WriteByte_any w.heap.size w.heap.size _ 92 w2 hB2 (by simp) (by omega)).mono ?_; rintro e w3 ⟨rfl, hB3, hb3⟩)
  have z3 := hb3.size
  refine (letterOf_any _ w3).mono ?_
  rintro e w' ⟨rfl, rfl⟩
  have hl : letter (((⟨#[9]⟩ : ByteArray)[0]).toNat : Int) = 116 := by decide
  rw [hl]
  clear hl
  go_wp2_with (go_at_call 34; refine (WriteByte_any w.heap.size w.heap.size _ 116 w3 hB3 (by simp) (by omega)).mono ?_; rintro e w4 ⟨rfl, hB4, hb4⟩)
  have z4 := hb4.size
  rw [rounds_succ]
  go_wp2_with (go_at_call 34; refine (WriteByte_any w.heap.size w.heap.size _ 34 w4 hB4 (by simp) (by omega)).mono ?_; rintro e w5 ⟨rfl, hB5, hb5⟩)
  have z5 := hb5.size
  have hS := Tryd.Builder_String_any w.heap.size w.heap.size [34, 92, 116, 34] w5 (.inr hB5) (by omega)
  refine hS.mono ?_
  rintro e w6 ⟨rfl, hb6⟩
  go_wp2
  go_ret
  exact ⟨rfl, ((((((hb0.trans hb1).trans hb2).trans hb3).trans hb4).trans hb5).trans hb6)⟩
end Go.Proofs.YtbajejhhmacflaaDoor.utf
