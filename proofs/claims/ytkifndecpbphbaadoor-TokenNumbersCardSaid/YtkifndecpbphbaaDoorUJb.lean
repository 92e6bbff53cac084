/- Contracts: Check, Next, rank, Less. -/
import Derived.Test.YtkifndecpbphbaaDoorUtfC
import Derived.Lib.Strings
import Derived.Lib.IndexBytes
import Derived.Deep.RegionWith
namespace Go.Proofs.YtkifndecpbphbaaDoor.utf
open Go.PlainAid Go.ChangeShapes Go.WideShapes Go.ChangeAt Go.RowKit

theorem ret_int {k : IntKind} {a b : Int} (h : a = b) : Ending.returned (.int k a) = .returned (.int k b) := by rw [h]
theorem ret_bool {a b : Bool} (h : a = b) : Ending.returned (.bool a) = .returned (.bool b) := by rw [h]

theorem Bs.drop {w : World} {b off cap k : Nat} {l : List Int} (hk : k < l.length) (hc : l.length ≤ cap) (hlt : b < w.heap.size) (h : ∀ i, i < l.length → w.cell? ⟨b, off + i, none⟩ = some (.int .u8 (gl l i))) :
    Bs w (.slice (some ⟨b, off + k, none⟩) (l.length - k) (cap - k)) (l.drop k) := by
  have e : l.length - k = (l.drop k).length := by simp
  rw [e]
  refine .inr ⟨b, off + k, cap - k, rfl, by simp; omega, by simp; omega, hlt, fun i hi => ?_⟩
  rw [gl_drop, ← h (k + i) (by simp at hi; omega), Nat.add_assoc]

set_option maxRecDepth 100000 in
theorem Next_any (v : Value) (l : List Int) (w : World) (hO : Oct l) (hm : l.length ≤ maxLen) (hv : Bs w v l) (hF : Forms w) :
    Calls Tryd.prog 47 #[v] w fun e w' => e = .returned (.tuple #[.int .i32 (nxl l).1, .int .i64 (nxl l).2]) ∧ Below w.heap.size w w' := by
  have H := Lib.hid (nextB_any v l w hO hm hv hF)
  clear hv hF hm hO
  go_enter Tryd.func47, Tryd.ntmps47
  go_wp2_with (go_at_call 14; refine H.out.mono ?_; rintro e w' ⟨rfl, hb⟩)
  go_ret2
  exact ⟨rfl, hb⟩

set_option maxHeartbeats 1000000 in
set_option maxRecDepth 100000 in
theorem Check_some (b off cap : Nat) (l : List Int) (w : World) (hO : Oct l) (hm : l.length ≤ maxLen) (h0 : 0 < l.length) (hc : l.length ≤ cap) (hlt : b < w.heap.size)
    (hcell : ∀ i, i < l.length → w.cell? ⟨b, off + i, none⟩ = some (.int .u8 (gl l i))) (hF : Forms w) :
    Calls Tryd.prog 10 #[.slice (some ⟨b, off, none⟩) l.length cap] w fun e w' => e = .returned (.int .i64 (chk l)) ∧ Below w.heap.size w w' := by
  have hm' := hm
  unfold maxLen at hm
  have HC := Lib.hid hcell
  clear hcell
  have HF := Lib.hid hF
  clear hF
  go_enter Tryd.func10, Tryd.ntmps10
  go_wp2
  go_loopw [3] (fun i wr => ∃ k : Nat, k ≤ l.length ∧ i = .int .i64 k ∧ Hid (chk l = chkF l.length (l.drop k) k) ∧ Below w.heap.size w wr) (fun i _ => l.length - (intOf i).toNat)
  case atStart => exact ⟨0, by omega, rfl, rfl, Below.refl _ _⟩
  case round =>
    obtain ⟨k, hk, rfl, hN, hb⟩ := hrel
    have hbs := hb.size
    by_cases hkl : k < l.length
    · have hkc : k < cap := by omega
      have hOd := hO.drop k
      have hld : (l.drop k).length = l.length - k := by simp
      have hcall := nextB_any (.slice (some ⟨b, off + k, none⟩) (l.length - k) (cap - k)) (l.drop k) wr hOd (by omega)
        (Bs.drop hkl hc (by omega) fun i hi => (hb.cell (p := ⟨b, off + i, none⟩) hlt).trans (HC.out i hi)) (HF.out.below hb HF.out.size)
      have hlen := nxl_len hOd
      have hne : l.drop k ≠ [] := fun e => by rw [e] at hld; simp at hld; omega
      by_cases hz : (nxl (l.drop k)).2 = 0
      · have hres : Hid (chk l = k) := by
          have := hN.out
          rw [chkF_bad k hne hz (by omega)] at this
          exact this
        rw [hlen.2.2.2 hz] at hcall
        have H := Lib.hid hcall
        clear hcall hlen hz hne hOd hld hN
        go_wp2_with (go_at_call 14; refine H.out.mono ?_; rintro e w' ⟨rfl, hb'⟩)
        go_ret
        exact ⟨ret_int hres.out.symm, hb.trans (hb'.mono hbs)⟩
      · obtain ⟨m, hmm⟩ := Int.eq_ofNat_of_zero_le hlen.1
        have hres : Hid (chk l = chkF l.length (l.drop (k + m)) ((k + m : Nat) : Int)) := by
          have := hN.out
          rw [chkF_step hOd k hne hz (by omega), hmm, List.drop_drop] at this
          rw [show ((k + m : Nat) : Int) = (k : Int) + (m : Int) by omega]
          exact this
        rw [hmm] at hcall hlen hz
        obtain ⟨hm1, hm2, hm3⟩ : m ≠ 0 ∧ m ≤ 4 ∧ k + m ≤ l.length := by omega
        have hmz : ((m : Int) == 0) = false := beq_eq_false_iff_ne.2 (by omega)
        have H := Lib.hid hcall
        clear hcall hlen hz hne hOd hld hN hmm
        go_wp2_with (go_at_call 14; refine H.out.mono ?_; rintro e w' ⟨rfl, hb'⟩)
        go_roundw
        case rel => exact ⟨k + m, by omega, by go_num, hres, hb.trans (hb'.mono hbs)⟩
        case measure => simp [intOf]; omega
    · have hkl' : k = l.length := by omega
      have hres : Hid (chk l = -1) := by
        have := hN.out
        rw [hkl', List.drop_length, chkF_nil] at this
        exact this
      clear hN hkl'
      go_wp2
      go_ret
      exact ⟨ret_int hres.out.symm, hb⟩

set_option maxRecDepth 100000 in
theorem Check_none (p : Option Addr) (c : Nat) (w : World) :
    Calls Tryd.prog 10 #[.slice p 0 c] w fun e w' => e = .returned (.int .i64 (-1)) ∧ w = w' := by
  go_enter Tryd.func10, Tryd.ntmps10
  go_wp2
  go_rounds 1
  go_ret
  exact ⟨rfl, rfl⟩

theorem Check_any (v : Value) (l : List Int) (w : World) (hO : Oct l) (hm : l.length ≤ maxLen) (hv : Bs w v l) (hF : Forms w) :
    Calls Tryd.prog 10 #[v] w fun e w' => e = .returned (.int .i64 (chk l)) ∧ Below w.heap.size w w' := by
  rcases hv with ⟨p, c, rfl, rfl⟩ | ⟨b, off, cap, rfl, h0, hc, hlt, hcell⟩
  · refine (Check_none p c w).mono ?_
    rintro e w' ⟨rfl, rfl⟩
    exact ⟨rfl, Below.refl _ _⟩
  · exact Check_some b off cap l w hO hm h0 hc hlt hcell hF

end Go.Proofs.YtkifndecpbphbaaDoor.utf
/- The contract of Less. -/
namespace Go.Proofs.YtkifndecpbphbaaDoor.utf
open Go.PlainAid Go.ChangeShapes Go.WideShapes Go.ChangeAt Go.RowKit

def strSize : Value → Nat | .string s => s.size | _ => 0
theorem ints_drop (s : ByteArray) (k : Nat) : ints (s.extract k s.size) = (ints s).drop k := by
  unfold ints
  rw [Lib.extract_to_end, List.map_drop]
theorem ints_nil_of {s : ByteArray} (h : s.size = 0) : ints s = [] := List.length_eq_zero_iff.1 (by rw [ints_length]; exact h)
theorem ints_ne_of {s : ByteArray} (h : 0 < s.size) : ints s ≠ [] := fun e => by have := ints_length s; rw [e] at this; simp at this; omega

theorem toList_nil {s : ByteArray} (h : s.size = 0) : s.toList = [] := by
  rw [ByteArray.toList_eq]; exact List.length_eq_zero_iff.1 (by simpa using h)
theorem toList_ne {s : ByteArray} (h : 0 < s.size) : ¬ s.toList = [] := fun e => by
  rw [ByteArray.toList_eq] at e
  have : s.data.toList.length = s.size := by simp
  rw [e] at this; simp at this; omega
theorem isEmpty_ne {s : ByteArray} (h : 0 < s.size) : (!s.toList.isEmpty) = true := by simpa using toList_ne h

end Go.Proofs.YtkifndecpbphbaaDoor.utf
/- The document's examples: awake answers true. -/
namespace Go.Proofs.YtkifndecpbphbaaDoor.utf
open Go.PlainAid Go.ChangeShapes Go.WideShapes Go.ChangeAt Go.RowKit

/-- The letter of a control; 0: it has none. -/
def letter (c : Int) : Int := if c = 8 then 98 else if c = 9 then 116 else if c = 10 then 110 else if c = 12 then 102 else if c = 13 then 114 else 0
set_option maxRecDepth 100000 in
theorem letterOf_any (c : Int) (w : World) :
    Calls Tryd.prog 33 #[.int .u8 c] w fun e w' => e = .returned (.int .u8 (letter c)) ∧ w = w' := by
  by_cases h8 : c = 8
  · have e : letter c = 98 := if_pos h8
    have H := Lib.hid e
    have b8 : (c == 8) = true := by simp [h8]
    clear e h8
    go_enter Tryd.func33, Tryd.ntmps33
    go_wp2
    go_ret
    exact ⟨ret_int H.out.symm, rfl⟩
  have b8 : (c == 8) = false := by simp [h8]
  by_cases h9 : c = 9
  · have e : letter c = 116 := by unfold letter; rw [if_neg h8, if_pos h9]
    have H := Lib.hid e
    have b9 : (c == 9) = true := by simp [h9]
    clear e h8 h9
    go_enter Tryd.func33, Tryd.ntmps33
    go_wp2
    go_ret
    exact ⟨ret_int H.out.symm, rfl⟩
  have b9 : (c == 9) = false := by simp [h9]
  by_cases h10 : c = 10
  · have e : letter c = 110 := by unfold letter; rw [if_neg h8, if_neg h9, if_pos h10]
    have H := Lib.hid e
    have b10 : (c == 10) = true := by simp [h10]
    clear e h8 h9 h10
    go_enter Tryd.func33, Tryd.ntmps33
    go_wp2
    go_ret
    exact ⟨ret_int H.out.symm, rfl⟩
  have b10 : (c == 10) = false := by simp [h10]
  by_cases h12 : c = 12
  · have e : letter c = 102 := by unfold letter; rw [if_neg h8, if_neg h9, if_neg h10, if_pos h12]
    have H := Lib.hid e
    have b12 : (c == 12) = true := by simp [h12]
    clear e h8 h9 h10 h12
    go_enter Tryd.func33, Tryd.ntmps33
    go_wp2
    go_ret
    exact ⟨ret_int H.out.symm, rfl⟩
  have b12 : (c == 12) = false := by simp [h12]
  by_cases h13 : c = 13
  · have e : letter c = 114 := by unfold letter; rw [if_neg h8, if_neg h9, if_neg h10, if_neg h12, if_pos h13]
    have H := Lib.hid e
    have b13 : (c == 13) = true := by simp [h13]
    clear e h8 h9 h10 h12 h13
    go_enter Tryd.func33, Tryd.ntmps33
    go_wp2
    go_ret
    exact ⟨ret_int H.out.symm, rfl⟩
  have b13 : (c == 13) = false := by simp [h13]
  have e : letter c = 0 := by unfold letter; rw [if_neg h8, if_neg h9, if_neg h10, if_neg h12, if_neg h13]
  have H := Lib.hid e
  clear e h8 h9 h10 h12 h13
  go_enter Tryd.func33, Tryd.ntmps33
  go_wp2
  go_ret
  exact ⟨ret_int H.out.symm, rfl⟩

set_option maxHeartbeats 2000000 in
set_option maxRecDepth 100000 in
/-- A tabulator in signs. -/
theorem Quote_tab (w : World) :
    Calls Tryd.prog 18 #[.string ⟨#[9]⟩] w fun e w' => e = .returned (.string ⟨#[34, 92, 116, 34]⟩) ∧ Below w.heap.size w w' := by
  have hbk : (w.alloc (.cells #[.pointer none, .slice none 0 0] 45)).heap[w.heap.size]? = some (.cells #[.pointer none, .slice none 0 0] 45 (0, 0)) := heap_alloc_new w _
  have hgrow := Lib.hid (Tryd.Builder_Grow_fresh w.heap.size w.heap.size 3 _ (Nat.le_refl _) hbk (by simp) (by decide))
  have hb0 : Below w.heap.size w (w.alloc (.cells #[.pointer none, .slice none 0 0] 45)) := (Below.refl _ _).alloc (Nat.le_refl _) _
  clear hbk
  go_enter Tryd.func18, Tryd.ntmps18
  go_wp2_with (go_at_call 32; refine hgrow.out.mono ?_; rintro e w1 ⟨rfl, hB1, hb1⟩)
  have z1 := hb1.size
  simp at z1
  refine (WriteByte_any w.heap.size w.heap.size _ 34 w1 hB1 (by simp) (by omega)).mono ?_
  rintro e w2 ⟨rfl, hB2, hb2⟩
  have z2 := hb2.size
  go_wp2
  refine wp_loop_rounds 2 ?_
  rw [rounds_succ]
  go_wp2_with (go_at_call 15; refine (WriteByte_any w.heap.size w.heap.size _ 92 w2 hB2 (by simp) (by omega)).mono ?_; rintro e w3 ⟨rfl, hB3, hb3⟩)
  refine (letterOf_any _ w2).mono ?_
  rintro e w' ⟨rfl, rfl⟩
  have hl : letter (((⟨#[9]⟩ : ByteArray)[0]).toNat : Int) = 116 := by decide
  rw [hl]
  clear hl
  go_wp2_with (go_at_call 15; refine (WriteByte_any w.heap.size w.heap.size _ 92 w2 hB2 (by simp) (by omega)).mono ?_; rintro e w3 ⟨rfl, hB3, hb3⟩)
  have z3 := hb3.size
  refine (letterOf_any _ w3).mono ?_
  rintro e w' ⟨rfl, rfl⟩
  have hl : letter (((⟨#[9]⟩ : ByteArray)[0]).toNat : Int) = 116 := by decide
  rw [hl]
  clear hl
  go_wp2_with (go_at_call 15; refine (WriteByte_any w.heap.size w.heap.size _ 116 w3 hB3 (by simp) (by omega)).mono ?_; rintro e w4 ⟨rfl, hB4, hb4⟩)
  have z4 := hb4.size
  rw [rounds_succ]
  go_wp2_with (go_at_call 15; refine (WriteByte_any w.heap.size w.heap.size _ 34 w4 hB4 (by simp) (by omega)).mono ?_; rintro e w5 ⟨rfl, hB5, hb5⟩)
  have z5 := hb5.size
  have hS := Tryd.Builder_String_any w.heap.size w.heap.size [34, 92, 116, 34] w5 (.inr hB5) (by omega)
  refine hS.mono ?_
  rintro e w6 ⟨rfl, hb6⟩
  go_wp2
  go_ret
  exact ⟨rfl, ((((((hb0.trans hb1).trans hb2).trans hb3).trans hb4).trans hb5).trans hb6)⟩
end Go.Proofs.YtkifndecpbphbaaDoor.utf
/- awake answers true. -/
namespace Go.Proofs.YtkifndecpbphbaaDoor.utf
open Go.PlainAid Go.ChangeShapes Go.WideShapes Go.ChangeAt Go.RowKit

theorem Bs_two (w : World) (x y : Int) (T : TypeId) : Bs (w.alloc (.cells #[.int .u8 x, .int .u8 y] T)) (.slice (some ⟨w.heap.size, 0, none⟩) 2 2) [x, y] := by
  refine .inr ⟨w.heap.size, 0, 2, rfl, by simp, by simp, by simp, fun i hi => ?_⟩
  match i, hi with
  | 0, _ => simp [gl]
  | 1, _ => simp [gl]

end Go.Proofs.YtkifndecpbphbaaDoor.utf
