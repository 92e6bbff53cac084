/- The part that bytes begin with: the document's answer, any. -/
import Derived.Test.YtebhbcbcnjdgjaaDoorCM
import Derived.Test.YtebhbcbcnjdgjaaDoorCN
namespace Go.Proofs.YtebhbcbcnjdgjaaDoor.dk
open Go.PlainAid Go.ChangeShapes Go.WideShapes Go.ChangeAt Go.RowKit

set_option maxHeartbeats 2000000 in
set_option maxRecDepth 100000 in
theorem first_ref (w : World) (g off n c : Nat) (l : List Int) (hR : Rd w (some ⟨g, off, none⟩) n l) (hy : Bys l) (h1 : 1 ≤ n) (hnc : n ≤ c) (hn : n ≤ 100000) :
    Calls Tryd.prog 28 #[.slice (some ⟨g, off, none⟩) n c] w (FPost w (fpart l)) := by
  have hlen := hR.1
  have hbw : Below w.heap.size w (w.alloc (.cells #[.int .i64 0, .bool false, .bool false, .string ⟨#[]⟩, .int .i64 0, .string ⟨#[]⟩, .int .i64 0] 46)) := (Below.refl _ _).alloc (Nat.le_refl _) _
  have hrow := heap_alloc_new w (.cells #[.int .i64 0, .bool false, .bool false, .string ⟨#[]⟩, .int .i64 0, .string ⟨#[]⟩, .int .i64 0] 46)
  have hRa := hR.below hbw
  have a0 := hRa.cell 0 (by omega)
  rw [Nat.add_zero] at a0
  have hi0 : (0 : Int) < (n : Int) := by omega
  have hi0n : 0 < n := h1
  obtain ⟨wa, hwa⟩ : ∃ wa, wa = w.alloc (.cells #[.int .i64 0, .bool false, .bool false, .string ⟨#[]⟩, .int .i64 0, .string ⟨#[]⟩, .int .i64 0] 46) := ⟨_, rfl⟩
  have hsz : wa.heap.size = w.heap.size + 1 := by rw [hwa, box_size]
  by_cases h16 : l.getD 0 0 = 16
  · rw [h16] at a0
    rw [show fpart l = some (⟨0, false, false, ⟨#[]⟩, 0, ⟨#[]⟩, 0⟩, 1) by unfold fpart; rw [if_pos h16]]
    clear hrow hbw hR hRa hwa hsz
    go_enter Tryd.func28, Tryd.ntmps28
    go_wp2_with fail
    refine bodyPost_ret (results_row_tmp rfl _ _ w.heap.size _ _ _ _ rfl (heap_alloc_new w _) Tryd.underlying46 rfl (by kernel_rfl)) rfl ⟨(Below.refl _ _).alloc (Nat.le_refl _) _, rfl⟩
  have f16 : (l.getD 0 0 == 16) = false := beq_eq_false_iff_ne.2 h16
  by_cases h32 : l.getD 0 0 = 32
  · rw [h32] at a0
    rw [show fpart l = some (⟨1, false, false, ⟨#[]⟩, 0, ⟨#[]⟩, 0⟩, 1) by unfold fpart; rw [if_neg h16, if_pos h32]]
    clear hrow hbw hR hRa hwa hsz
    go_enter Tryd.func28, Tryd.ntmps28
    go_wp2_with fail
    refine bodyPost_ret (results_row_tmp rfl _ _ w.heap.size _ _ _ _ rfl (heap_alloc_new w _) Tryd.underlying46 rfl (by kernel_rfl)) rfl ⟨(Below.refl _ _).alloc (Nat.le_refl _) _, rfl⟩
  have f32 : (l.getD 0 0 == 32) = false := beq_eq_false_iff_ne.2 h32
  by_cases h33 : l.getD 0 0 = 33
  · rw [h33] at a0
    rw [show fpart l = some (⟨1, true, false, ⟨#[]⟩, 0, ⟨#[]⟩, 0⟩, 1) by unfold fpart; rw [if_neg h16, if_neg h32, if_pos h33]]
    clear hrow hbw hR hRa hwa hsz
    go_enter Tryd.func28, Tryd.ntmps28
    go_wp2_with fail
    refine bodyPost_ret (results_row_tmp rfl _ _ w.heap.size _ _ _ _ rfl (heap_alloc_new w _) Tryd.underlying46 rfl (by kernel_rfl)) rfl ⟨(Below.refl _ _).alloc (Nat.le_refl _) _, rfl⟩
  have f33 : (l.getD 0 0 == 33) = false := beq_eq_false_iff_ne.2 h33
  by_cases h49 : l.getD 0 0 = 49
  · rw [h49] at a0
    rw [show fpart l = some (⟨2, false, false, ⟨#[]⟩, 0, ⟨#[]⟩, 0⟩, 1) by unfold fpart; rw [if_neg h16, if_neg h32, if_neg h33, if_pos h49]]
    clear hrow hbw hR hRa hwa hsz
    go_enter Tryd.func28, Tryd.ntmps28
    go_wp2_with fail
    refine bodyPost_ret (results_row_tmp rfl _ _ w.heap.size _ _ _ _ rfl (heap_alloc_new w _) Tryd.underlying46 rfl (by kernel_rfl)) rfl ⟨(Below.refl _ _).alloc (Nat.le_refl _) _, rfl⟩
  have f49 : (l.getD 0 0 == 49) = false := beq_eq_false_iff_ne.2 h49
  by_cases h48 : l.getD 0 0 = 48
  · exact first_num_true w g off n c l hR hy h1 hnc hn h16 h32 h33 h49 h48
  have f48 : (l.getD 0 0 == 48) = false := beq_eq_false_iff_ne.2 h48
  by_cases h50 : l.getD 0 0 = 50
  · exact first_num_false w g off n c l hR hy h1 hnc hn h16 h32 h33 h49 h48 h50
  have f50 : (l.getD 0 0 == 50) = false := beq_eq_false_iff_ne.2 h50
  by_cases h64 : l.getD 0 0 = 64
  · rw [h64] at a0
    rw [← hwa] at hrow hbw hRa
    have HBw := Lib.hid hbw
    have HRow := Lib.hid hrow
    have HWa := Lib.hid hwa
    have HSz := Lib.hid hsz
    have hnc' : 1 ≤ c := by omega
    have hnci : (1 : Int) ≤ (n : Int) := by omega
    by_cases hc1 : c = 1
    · subst hc1
      obtain rfl : n = 1 := by omega
      have hd0 : l.drop 1 = [] := List.drop_eq_nil_of_le (by omega)
      have hcut : Rd wa (some ⟨g, off, none⟩) 0 (l.drop 1) := ⟨by rw [hd0]; rfl, fun h => absurd h (by omega)⟩
      have HC := Lib.hid (text_ref wa (some ⟨g, off, none⟩) 0 0 (l.drop 1) hcut (by omega))
      cases hT : txt (l.drop 1) [] 0 with
      | none =>
        rw [hT] at HC
        have HFn : Hid (fpart l = none) := Lib.hid (by unfold fpart; rw [if_neg h16, if_neg h32, if_neg h33, if_neg h49, if_neg h48, if_neg h50, if_pos h64, txt_shift, hT]; rfl)
        clear hT hcut hR hRa hbw hrow hwa hsz
        go_enter Tryd.func28, Tryd.ntmps28
        go_wp2_with fail
        rw [← HWa.out]
        with_reducible refine HC.out.mono ?_
        clear HC
        rintro e w1 ⟨hb1, rfl⟩
        have hrow1 := (hb1.block w.heap.size (by have := HSz.out; omega)).trans HRow.out
        have hbw1 := HBw.out.trans (hb1.mono (by have := HSz.out; omega))
        obtain ⟨⟨z0, z1, z2, z3, z4, z5, z6⟩, y0, y1, y2, y3, y4, y5, y6⟩ := row7 hrow1
        dsimp only
        have hS := set7 (v0 := .int .i64 0) (v1 := .bool false) (v2 := .bool false) (v3 := .string ⟨#[]⟩) (v4 := .int .i64 0) (v5 := .string ⟨#[]⟩) (v6 := .int .i64 0) hrow1 (Nat.le_refl _) hbw1
        have HS := Lib.hid hS
        clear hS hrow1 hbw1 hb1
        go_wp2_with fail
        refine bodyPost_ret (results_row_tmp rfl _ _ w.heap.size _ _ _ _ rfl HS.out.1 Tryd.underlying46 rfl (by kernel_rfl)) rfl ⟨HS.out.2, ?_⟩
        rw [HFn.out]
        rfl
      | some r =>
        obtain ⟨s, k⟩ := r
        rw [hT] at HC
        have hk := txt_le _ _ _ _ _ hT
        have HFn : Hid (fpart l = some (⟨3, false, false, ⟨#[]⟩, 0, strOf s, 0⟩, k + 1)) := Lib.hid (by unfold fpart; rw [if_neg h16, if_neg h32, if_neg h33, if_neg h49, if_neg h48, if_neg h50, if_pos h64, txt_shift, hT]; rfl)
        have hk0 : ((k : Int) == 0) = false := beq_eq_false_iff_ne.2 (by omega)
        have hk0n : (k == 0) = false := beq_eq_false_iff_ne.2 (by omega)
        have hkb : k ≤ 200000 := by have := hk.2; rw [List.length_drop] at this; omega
        clear hT hcut hR hRa hbw hrow hwa hsz hk
        go_enter Tryd.func28, Tryd.ntmps28
        go_wp2_with fail
        rw [← HWa.out]
        with_reducible refine HC.out.mono ?_
        clear HC
        rintro e w1 ⟨hb1, rfl⟩
        have hrow1 := (hb1.block w.heap.size (by have := HSz.out; omega)).trans HRow.out
        have hbw1 := HBw.out.trans (hb1.mono (by have := HSz.out; omega))
        obtain ⟨⟨z0, z1, z2, z3, z4, z5, z6⟩, y0, y1, y2, y3, y4, y5, y6⟩ := row7 hrow1
        dsimp only
        have hS := set7 (v0 := .int .i64 3) (v1 := .bool false) (v2 := .bool false) (v3 := .string ⟨#[]⟩) (v4 := .int .i64 0) (v5 := .string (strOf s)) (v6 := .int .i64 0) hrow1 (Nat.le_refl _) hbw1
        have HS := Lib.hid hS
        clear hS hrow1 hbw1 hb1
        go_wp2_with fail
        refine bodyPost_ret (results_row_tmp rfl _ _ w.heap.size _ _ _ _ rfl HS.out.1 Tryd.underlying46 rfl (by kernel_rfl)) rfl ⟨HS.out.2, ?_⟩
        rw [HFn.out]
        dsimp only
        rw [show ((k + 1 : Nat) : Int) = (k : Int) + 1 by omega]
        rfl
    · have hcut := hRa.cut 1 (n - 1) (by omega)
      rw [List.take_of_length_le (by rw [List.length_drop]; omega)] at hcut
      have hc2 : ¬ (1 = c) := fun e => hc1 e.symm
      have hci : (1 : Int) ≤ (c : Int) := by omega
      have HC := Lib.hid (text_ref wa (some ⟨g, off + 1, none⟩) (n - 1) (c - 1) (l.drop 1) hcut (by omega))
      cases hT : txt (l.drop 1) [] 0 with
      | none =>
        rw [hT] at HC
        have HFn : Hid (fpart l = none) := Lib.hid (by unfold fpart; rw [if_neg h16, if_neg h32, if_neg h33, if_neg h49, if_neg h48, if_neg h50, if_pos h64, txt_shift, hT]; rfl)
        clear hT hcut hR hRa hbw hrow hwa hsz
        go_enter Tryd.func28, Tryd.ntmps28
        go_wp2_with fail
        rw [← HWa.out]
        with_reducible refine HC.out.mono ?_
        clear HC
        rintro e w1 ⟨hb1, rfl⟩
        have hrow1 := (hb1.block w.heap.size (by have := HSz.out; omega)).trans HRow.out
        have hbw1 := HBw.out.trans (hb1.mono (by have := HSz.out; omega))
        obtain ⟨⟨z0, z1, z2, z3, z4, z5, z6⟩, y0, y1, y2, y3, y4, y5, y6⟩ := row7 hrow1
        dsimp only
        have hS := set7 (v0 := .int .i64 0) (v1 := .bool false) (v2 := .bool false) (v3 := .string ⟨#[]⟩) (v4 := .int .i64 0) (v5 := .string ⟨#[]⟩) (v6 := .int .i64 0) hrow1 (Nat.le_refl _) hbw1
        have HS := Lib.hid hS
        clear hS hrow1 hbw1 hb1
        go_wp2_with fail
        refine bodyPost_ret (results_row_tmp rfl _ _ w.heap.size _ _ _ _ rfl HS.out.1 Tryd.underlying46 rfl (by kernel_rfl)) rfl ⟨HS.out.2, ?_⟩
        rw [HFn.out]
        rfl
      | some r =>
        obtain ⟨s, k⟩ := r
        rw [hT] at HC
        have hk := txt_le _ _ _ _ _ hT
        have HFn : Hid (fpart l = some (⟨3, false, false, ⟨#[]⟩, 0, strOf s, 0⟩, k + 1)) := Lib.hid (by unfold fpart; rw [if_neg h16, if_neg h32, if_neg h33, if_neg h49, if_neg h48, if_neg h50, if_pos h64, txt_shift, hT]; rfl)
        have hk0 : ((k : Int) == 0) = false := beq_eq_false_iff_ne.2 (by omega)
        have hk0n : (k == 0) = false := beq_eq_false_iff_ne.2 (by omega)
        have hkb : k ≤ 200000 := by have := hk.2; rw [List.length_drop] at this; omega
        clear hT hcut hR hRa hbw hrow hwa hsz hk
        go_enter Tryd.func28, Tryd.ntmps28
        go_wp2_with fail
        rw [← HWa.out]
        with_reducible refine HC.out.mono ?_
        clear HC
        rintro e w1 ⟨hb1, rfl⟩
        have hrow1 := (hb1.block w.heap.size (by have := HSz.out; omega)).trans HRow.out
        have hbw1 := HBw.out.trans (hb1.mono (by have := HSz.out; omega))
        obtain ⟨⟨z0, z1, z2, z3, z4, z5, z6⟩, y0, y1, y2, y3, y4, y5, y6⟩ := row7 hrow1
        dsimp only
        have hS := set7 (v0 := .int .i64 3) (v1 := .bool false) (v2 := .bool false) (v3 := .string ⟨#[]⟩) (v4 := .int .i64 0) (v5 := .string (strOf s)) (v6 := .int .i64 0) hrow1 (Nat.le_refl _) hbw1
        have HS := Lib.hid hS
        clear hS hrow1 hbw1 hb1
        go_wp2_with fail
        refine bodyPost_ret (results_row_tmp rfl _ _ w.heap.size _ _ _ _ rfl HS.out.1 Tryd.underlying46 rfl (by kernel_rfl)) rfl ⟨HS.out.2, ?_⟩
        rw [HFn.out]
        dsimp only
        rw [show ((k + 1 : Nat) : Int) = (k : Int) + 1 by omega]
        rfl
  have f64 : (l.getD 0 0 == 64) = false := beq_eq_false_iff_ne.2 h64
  by_cases h80 : l.getD 0 0 = 80
  · rw [h80] at a0
    by_cases h4 : 4 < n
    · rw [show fpart l = some (⟨9, false, false, ⟨#[]⟩, 0, ⟨#[]⟩, l.getD 1 0 * 16777216 + l.getD 2 0 * 65536 + l.getD 3 0 * 256 + l.getD 4 0⟩, 5) by unfold fpart; rw [if_neg h16, if_neg h32, if_neg h33, if_neg h49, if_neg h48, if_neg h50, if_neg h64, if_pos h80, if_pos (by omega)]]
      have hb1 : 0 ≤ l.getD 1 0 ∧ l.getD 1 0 ≤ 255 := bys_at hy (by omega)
      have hb2 : 0 ≤ l.getD 2 0 ∧ l.getD 2 0 ≤ 255 := bys_at hy (by omega)
      have hb3 : 0 ≤ l.getD 3 0 ∧ l.getD 3 0 ≤ 255 := bys_at hy (by omega)
      have hb4 : 0 ≤ l.getD 4 0 ∧ l.getD 4 0 ≤ 255 := bys_at hy (by omega)
      have a1 := hRa.cell 1 (by omega)
      have a2 := hRa.cell 2 (by omega)
      have a3 := hRa.cell 3 (by omega)
      have a4 := hRa.cell 4 (by omega)
      have hor := or32 _ _ _ _ hb1 hb2 hb3 hb4
      generalize l.getD 1 0 = b1 at a1 hb1 hor ⊢
      generalize l.getD 2 0 = b2 at a2 hb2 hor ⊢
      generalize l.getD 3 0 = b3 at a3 hb3 hor ⊢
      generalize l.getD 4 0 = b4 at a4 hb4 hor ⊢
      have d4 : decide ((n : Int) < 5) = false := decide_eq_false (by omega)
      have d4n : decide (n < 5) = false := decide_eq_false (by omega)
      have hrow2 := hrow
      have hbw2 := hbw
      have HRa := Lib.hid hRa
      clear hrow hbw hR hsz hRa
      go_enter Tryd.func28, Tryd.ntmps28
      go_upto_region 23 with fail
      have hroww := hrow2
      generalize (w.alloc (.cells #[.int .i64 0, .bool false, .bool false, .string ⟨#[]⟩, .int .i64 0, .string ⟨#[]⟩, .int .i64 0] 46)) = wx at a0 a1 a2 a3 a4 hroww hbw2 ⊢
      obtain ⟨⟨z0, z1, z2, z3, z4, z5, z6⟩, y0, y1, y2, y3, y4, y5, y6⟩ := row7 hroww
      have HX := Lib.hid (And.intro hroww hbw2)
      clear hroww hbw2 hrow2 HRa hwa
      go_region
      have hS := set7 (v0 := .int .i64 9) (v1 := .bool false) (v2 := .bool false) (v3 := .string ⟨#[]⟩) (v4 := .int .i64 0) (v5 := .string ⟨#[]⟩) (v6 := .int .i64 (b1 * 16777216 + b2 * 65536 + b3 * 256 + b4)) HX.out.1 (Nat.le_refl _) HX.out.2
      have hS2 := drew_pair hS
      clear hS HX z0 z1 z2 z3 z4 z5 z6 y0 y1 y2 y3 y4 y5 y6
      generalize World.drew (((((((wx.setCell ⟨w.heap.size, 0, none⟩ (.int .i64 9)).setCell ⟨w.heap.size, 1, none⟩ (.bool false)).setCell ⟨w.heap.size, 2, none⟩ (.bool false)).setCell ⟨w.heap.size, 3, none⟩ (.string ⟨#[]⟩)).setCell ⟨w.heap.size, 4, none⟩ (.int .i64 0)).setCell ⟨w.heap.size, 5, none⟩ (.string ⟨#[]⟩)).setCell ⟨w.heap.size, 6, none⟩ (.int .i64 (b1 * 16777216 + b2 * 65536 + b3 * 256 + b4))) = wy at hS2 ⊢
      have HS := Lib.hid hS2
      clear hS2
      go_wp2_with fail
      refine bodyPost_ret (results_row_tmp rfl _ _ w.heap.size _ _ _ _ rfl HS.out.1 Tryd.underlying46 rfl (by kernel_rfl)) rfl ⟨HS.out.2, rfl⟩
    · rw [show fpart l = none by unfold fpart; rw [if_neg h16, if_neg h32, if_neg h33, if_neg h49, if_neg h48, if_neg h50, if_neg h64, if_pos h80, if_neg (by omega)]]
      have d4 : decide ((n : Int) < 5) = true := decide_eq_true (by omega)
      have d4n : decide (n < 5) = true := decide_eq_true (by omega)
      unfold FPost pzero
      dsimp only
      clear hrow hbw hR hwa hsz hRa
      go_enter Tryd.func28, Tryd.ntmps28
      go_wp2_with fail
      refine bodyPost_ret (results_row_tmp rfl _ _ w.heap.size _ _ _ _ rfl (heap_alloc_new w _) Tryd.underlying46 rfl (by kernel_rfl)) rfl ⟨(Below.refl _ _).alloc (Nat.le_refl _) _, rfl⟩
  have f80 : (l.getD 0 0 == 80) = false := beq_eq_false_iff_ne.2 h80
  rw [show fpart l = none by unfold fpart; rw [if_neg h16, if_neg h32, if_neg h33, if_neg h49, if_neg h48, if_neg h50, if_neg h64, if_neg h80]]
  unfold FPost pzero
  dsimp only
  generalize l.getD 0 0 = x0 at *
  clear hrow hbw hR hwa hsz hRa
  go_enter Tryd.func28, Tryd.ntmps28
  go_wp2_with fail
  refine bodyPost_ret (results_row_tmp rfl _ _ w.heap.size _ _ _ _ rfl (heap_alloc_new w _) Tryd.underlying46 rfl (by kernel_rfl)) rfl ⟨(Below.refl _ _).alloc (Nat.le_refl _) _, rfl⟩
end Go.Proofs.YtebhbcbcnjdgjaaDoor.dk
/- Decode: the document's answer. -/
namespace Go.Proofs.YtebhbcbcnjdgjaaDoor.dk
open Go.PlainAid Go.ChangeShapes Go.WideShapes Go.ChangeAt Go.RowKit

/-- What the document's Decode answers. -/
def DRPost (w : World) (b : List Int) (e : Ending) (w' : World) : Prop :=
  Below w.heap.size w w' ∧
  ((∃ qs p2 c2, Dc b qs [] ∧ qs.length ≤ 16 ∧ e = .returned (.tuple #[.slice p2 qs.length c2, .int .i64 0]) ∧ RdP w' p2 qs.length qs) ∨
   (∃ qs r, Dc b qs r ∧ r ≠ [] ∧ fpart r = none ∧ qs.length ≤ 16 ∧ e = .returned (.tuple #[.slice none 0 0, .int .i64 2])) ∨
   (∃ qs r q k, Dc b qs r ∧ r ≠ [] ∧ fpart r = some (q, k) ∧ qs.length = 16 ∧ e = .returned (.tuple #[.slice none 0 0, .int .i64 4])))
structure RI (w : World) (b : List Int) (qs : List Pt) (rest : List Int) (p1 : Option Addr) (n1 c1 : Nat) (p2 : Option Addr) (c2 : Nat) (wr : World) : Prop where
  rd : Rd w p1 n1 rest
  bys : Bys rest
  nc : n1 ≤ c1
  le : n1 ≤ 100000
  dc : Dc b qs rest
  l16 : qs.length ≤ 16
  own : wr.ownsRow w.heap.size 46 7 (.slice p2 qs.length c2) qs.length (pcells qs)
  b : Below w.heap.size w wr
set_option maxHeartbeats 2000000 in
set_option maxRecDepth 100000 in
theorem Decode_ref (w : World) (p : Option Addr) (n c : Nat) (l : List Int) (hR : Rd w p n l) (hy : Bys l) (hnc : n ≤ c) (hn : n ≤ 100000) :
    Calls Tryd.prog 14 #[.slice p n c] w (DRPost w l) := by
  have hI0 : RI w l [] l p n c none 0 w := ⟨hR, hy, hnc, hn, .nil, by simp, ⟨rfl, .inl ⟨rfl, rfl⟩⟩, Below.refl _ _⟩
  have HI0 := Lib.hid hI0
  clear hR hy hnc hn hI0
  go_enter Tryd.func14, Tryd.ntmps14
  go_wp2_with fail
  go_loopw [0, 4] (fun v0 v4 wr => ∃ (qs : List Pt) (rest : List Int) (p1 : Option Addr) (n1 c1 : Nat) (p2 : Option Addr) (c2 : Nat), v0 = .slice p1 n1 c1 ∧ v4 = .slice p2 qs.length c2 ∧ Hid (RI w l qs rest p1 n1 c1 p2 c2 wr)) (fun v0 _ _ => match v0 with | .slice _ k _ => k | _ => 0)
  case atStart => exact ⟨[], l, p, n, c, none, 0, rfl, rfl, HI0⟩
  case round =>
    clear HI0
    obtain ⟨qs, rest, p1, n1, c1, p2, c2, rfl, rfl, HI⟩ := hrel
    by_cases hn0 : 0 < n1
    · obtain ⟨g, off, rfl, hg⟩ := HI.out.rd.form hn0
      have d0 : decide ((0 : Int) < (n1 : Int)) = true := decide_eq_true (by omega)
      have d0n : decide (0 < n1) = true := decide_eq_true hn0
      have hne : rest ≠ [] := fun e => by have := HI.out.rd.1; rw [e] at this; simp at this; omega
      have HF := Lib.hid (first_ref wr g off n1 c1 rest (HI.out.rd.below HI.out.b) HI.out.bys hn0 HI.out.nc HI.out.le)
      cases hf : fpart rest with
      | none =>
        rw [hf] at HF
        have HFn := Lib.hid (And.intro hne hf)
        clear hf hne
        go_wp2_with fail
        with_reducible refine HF.out.mono ?_
        clear HF
        rintro e w2 ⟨hb2, rfl⟩
        have HB2 := Lib.hid (HI.out.b.trans (hb2.mono HI.out.b.size))
        clear hb2
        dsimp only
        unfold pzero
        go_wp2_with fail
        go_ret2
        exact ⟨HB2.out.alloc HB2.out.size _, .inr (.inl ⟨qs, rest, HI.out.dc, HFn.out.1, HFn.out.2, HI.out.l16, rfl⟩)⟩
      | some qk =>
        obtain ⟨q, k⟩ := qk
        rw [hf] at HF
        have hk := fpart_le hne hf
        rw [HI.out.rd.1] at hk
        have hdc := Dc.step HI.out.dc hne hf
        have hk0 : ((k : Int) == 0) = false := beq_eq_false_iff_ne.2 (by omega)
        have hk0n : (k == 0) = false := beq_eq_false_iff_ne.2 (by omega)
        have HFn := Lib.hid (And.intro hne hf)
        have HDc := Lib.hid hdc
        clear hf hne hdc
        go_wp2_with fail
        with_reducible refine HF.out.mono ?_
        clear HF
        rintro e w2 ⟨hb2, rfl⟩
        have hbw2 := HI.out.b.trans (hb2.mono HI.out.b.size)
        have hl16 := HI.out.l16
        by_cases h16 : qs.length = 16
        · have d16 : ((qs.length : Int) == 16) = true := beq_iff_eq.2 (by omega)
          have d16n : (qs.length == 16) = true := beq_iff_eq.2 h16
          have HB2 := Lib.hid hbw2
          have H16 := Lib.hid h16
          clear hb2 hbw2 h16 hl16
          obtain ⟨k9, x, neg, dg, ex, s, i⟩ := q
          dsimp only [parr]
          go_wp2_with fail
          go_ret2
          exact ⟨HB2.out.alloc HB2.out.size _, .inr (.inr ⟨qs, rest, _, k, HI.out.dc, HFn.out.1, HFn.out.2, H16.out, rfl⟩)⟩
        · have d16 : ((qs.length : Int) == 16) = false := beq_eq_false_iff_ne.2 (by omega)
          have d16n : (qs.length == 16) = false := beq_eq_false_iff_ne.2 h16
          have hb3 : Below w2.heap.size w2 (w2.alloc (.cells (parr q) 46)) := (Below.refl _ _).alloc (Nat.le_refl _) _
          have hs3 : (w2.alloc (.cells (parr q) 46)).heap.size = w2.heap.size + 1 := box_size _ _
          obtain ⟨w3, hw3⟩ : ∃ w3, w3 = w2.alloc (.cells (parr q) 46) := ⟨_, rfl⟩
          rw [← hw3] at hb3 hs3
          have hb4 : Below w3.heap.size w3 (w3.alloc (.cells (parr q) 46)) := (Below.refl _ _).alloc (Nat.le_refl _) _
          have hbt := hb2.trans ((hb3.mono hb2.size).trans (hb4.mono (Nat.le_trans hb2.size hb3.size)))
          have hown := owned_keeps HI.out.own fun k hk => hbt.block k (HI.out.own.lt k hk).2
          have hbw4 := HI.out.b.trans (hbt.mono HI.out.b.size)
          obtain ⟨p5, c5, w5, hr5, ho5, hb5, _⟩ := appendR_some (cc := 1) hown (rdP_new w3 q 46) (by decide) (by omega) (by decide) hbw4.size
          have hlen : (qs ++ [q]).length = qs.length + 1 := by rw [List.length_append]; rfl
          have HO5 := Lib.hid (And.intro ho5 (hbw4.trans hb5))
          have hkn : (k : Int) ≤ (n1 : Int) := by omega
          have hnc := HI.out.nc
          have hkc : (k : Int) ≤ (c1 : Int) := by omega
          rw [hs3, hw3] at hr5
          have HR5 := Lib.hid hr5
          have HLn := Lib.hid hlen
          clear hb2 hbw2 hb3 hs3 hw3 hb4 hbt hown hbw4 hr5 ho5 hb5 hlen
          generalize hl2 : (qs ++ [q]).length = l2 at HR5
          have HL2 := Lib.hid hl2
          clear hl2
          by_cases hkc1 : k = c1
          · obtain rfl : k = n1 := by omega
            subst hkc1
            have hri : ∀ V, Below w5.heap.size w5 V → True := fun _ _ => trivial
            have HRN : Hid (RI w l (qs ++ [q]) (rest.drop k) (some ⟨g, off, none⟩) 0 0 p5 c5 w5) := Lib.hid ⟨⟨by rw [List.length_drop, HI.out.rd.1]; omega, fun h => absurd h (by omega)⟩, HI.out.bys.drop k, Nat.le_refl _, by omega, HDc.out, by rw [HLn.out]; omega, HO5.out.1, HO5.out.2⟩
            clear hri HI
            obtain ⟨k9, x, neg, dg, ex, s, i⟩ := q
            dsimp only [parr] at HR5 ⊢
            go_wp2_with (at_builtin; refine wpList_append_run rfl _ _ _ rfl _ _ _ _ rfl rfl HR5.out ?_; clear HR5)
            exact ⟨⟨_, _, _, 0, 0, p5, c5, rfl, by rw [HL2.out], HRN⟩, by show 0 < k; omega⟩
          · have hkc2 : ¬ (c1 = k) := fun e => hkc1 e.symm
            have hcut := HI.out.rd.cut k (n1 - k) (by omega)
            rw [List.take_of_length_le (by rw [List.length_drop, HI.out.rd.1]; omega)] at hcut
            have HRN : Hid (RI w l (qs ++ [q]) (rest.drop k) (some ⟨g, off + k, none⟩) (n1 - k) (c1 - k) p5 c5 w5) := Lib.hid ⟨hcut, HI.out.bys.drop k, by omega, by have := HI.out.le; omega, HDc.out, by rw [HLn.out]; omega, HO5.out.1, HO5.out.2⟩
            clear hcut HI
            obtain ⟨k9, x, neg, dg, ex, s, i⟩ := q
            dsimp only [parr] at HR5 ⊢
            go_wp2_with (at_builtin; refine wpList_append_run rfl _ _ _ rfl _ _ _ _ rfl rfl HR5.out ?_; clear HR5)
            exact ⟨⟨_, _, _, _, _, p5, c5, rfl, by rw [HL2.out], HRN⟩, by show n1 - k < n1; omega⟩
    · have d0 : decide ((0 : Int) < (n1 : Int)) = false := decide_eq_false (by omega)
      obtain rfl : n1 = 0 := by omega
      have hr : rest = [] := List.length_eq_zero_iff.1 HI.out.rd.1
      subst hr
      go_wp2_with fail
      go_ret2
      exact ⟨HI.out.b, .inl ⟨qs, p2, c2, HI.out.dc, HI.out.l16, rfl, owned_rdP HI.out.own⟩⟩
theorem dc_inv {b : List Int} {l : List Pt} {r : List Int} (h : Dc b l r) : (l = [] ∧ r = b) ∨ ∃ l0 r0 q k, l = l0 ++ [q] ∧ r = r0.drop k ∧ Dc b l0 r0 ∧ r0 ≠ [] ∧ fpart r0 = some (q, k) := by
  cases h with
  | nil => exact .inl ⟨rfl, rfl⟩
  | step h1 h2 h3 => exact .inr ⟨_, _, _, _, rfl, rfl, h1, h2, h3⟩
/-- Two ways of reading the same bytes. -/
theorem dc_same {b : List Int} : ∀ {l l' : List Pt} {r r' : List Int}, Dc b l r → Dc b l' r' → l.length ≤ l'.length → ∃ s, l' = l ++ s ∧ (s = [] → r = r') ∧ (s ≠ [] → r ≠ [] ∧ ∃ q k, fpart r = some (q, k)) := by
  intro l l' r r' h h'
  induction h' generalizing l r with
  | nil =>
    intro hl
    have hl0 : l = [] := List.length_eq_zero_iff.1 (by simpa using hl)
    rcases dc_inv h with ⟨rfl, rfl⟩ | ⟨l0, r0, q, k, e, _⟩
    · exact ⟨[], rfl, fun _ => rfl, fun h => absurd rfl h⟩
    · rw [e] at hl0; simp at hl0
  | step h2 hne hf ih =>
    rename_i l2 r2 q k
    intro hl
    rw [List.length_append] at hl
    by_cases he : l.length ≤ l2.length
    · obtain ⟨s, e1, e2, e3⟩ := ih h he
      refine ⟨s ++ [q], by rw [e1, List.append_assoc], fun h => by simp at h, fun _ => ?_⟩
      by_cases hs : s = []
      · rw [e2 hs]
        exact ⟨hne, q, k, hf⟩
      · exact e3 hs
    · have hll : l.length = l2.length + 1 := by simp at hl; omega
      rcases dc_inv h with ⟨rfl, rfl⟩ | ⟨l3, r3, q3, k3, rfl, rfl, h3, hne3, hf3⟩
      · simp at hll
      · rw [List.length_append] at hll
        obtain ⟨s, e1, e2, e3⟩ := ih h3 (by simp at hll; omega)
        have hs : s = [] := by
          have := congrArg List.length e1
          rw [List.length_append] at this
          simp at hll
          exact List.length_eq_zero_iff.1 (by omega)
        subst hs
        rw [List.append_nil] at e1
        subst e1
        have := e2 rfl
        subst this
        rw [hf] at hf3
        simp only [Option.some.injEq, Prod.mk.injEq] at hf3
        obtain ⟨rfl, rfl⟩ := hf3
        exact ⟨[], by simp, fun _ => rfl, fun h => absurd rfl h⟩
end Go.Proofs.YtebhbcbcnjdgjaaDoor.dk
/- After: the document's answer. -/
namespace Go.Proofs.YtebhbcbcnjdgjaaDoor.dk
open Go.PlainAid Go.ChangeShapes Go.WideShapes Go.ChangeAt Go.RowKit

set_option maxHeartbeats 4000000 in
set_option maxRecDepth 100000 in
theorem After_ref_none (w : World) (p : Option Addr) (n c : Nat) (l : List Int) (hR : Rd w p n l) (hn : n ≤ 100000) (h0 : stripN l n = 0) :
    Calls Tryd.prog 20 #[.slice p n c] w fun e w' => e = .returned (.slice none 0 0) ∧ w = w' := by
  have HR := Lib.hid hR
  have hl := hR.1
  have H0 := Lib.hid h0
  clear hR h0
  go_enter Tryd.func20, Tryd.ntmps20
  go_wp2_with fail
  go_loopw [3] (fun v wr => ∃ j : Nat, v = .int .i64 (j : Int) ∧ j ≤ n ∧ wr = w ∧ stripN l j = 0) (fun v _ => (intOf v).toNat)
  case atStart => exact ⟨n, rfl, Nat.le_refl _, rfl, H0.out⟩
  case round =>
    obtain ⟨j, rfl, hj, rfl, hs⟩ := hrel
    cases j with
    | zero =>
      go_wp2_with fail
      go_ret
      exact ⟨rfl, rfl⟩
    | succ j =>
      have h255 : l.getD j 0 = 255 := by
        rw [stripN] at hs
        split at hs
        · assumption
        · omega
      have hs2 : stripN l j = 0 := by rw [stripN, if_pos h255] at hs; exact hs
      obtain ⟨gb, off, rfl, _⟩ := HR.out.form (by omega)
      have c0 := HR.out.cell j (by omega)
      rw [h255] at c0
      have d0 : decide (0 < j + 1) = true := decide_eq_true (by omega)
      have wj : IntKind.i64.wrap ((j : Int) + 1 - 1) = (j : Int) := by rw [IntKind.wrap_i64]; omega
      have hcast : ((j + 1 : Nat) : Int) = (j : Int) + 1 := by omega
      rw [hcast]
      have dj : decide ((0 : Int) < (j : Int) + 1) = true := decide_eq_true (by omega)
      have HS2 := Lib.hid hs2
      clear hs hs2 h255
      go_wp2_with fail
      exact ⟨⟨j, rfl, by omega, trivial, HS2.out⟩, by show (j : Int).toNat < ((j : Int) + 1).toNat; omega⟩
set_option maxHeartbeats 4000000 in
set_option maxRecDepth 100000 in
theorem After_ref_some (w : World) (gb off n c : Nat) (l : List Int) (hR : Rd w (some ⟨gb, off, none⟩) n l) (hby : Bys l) (hnc : n ≤ c) (hn : n ≤ 100000) (h0 : stripN l n ≠ 0) :
    Calls Tryd.prog 20 #[.slice (some ⟨gb, off, none⟩) n c] w (OwnPost w (aft l)) := by
  have HR := Lib.hid hR
  have hl := hR.1
  have H0 := Lib.hid h0
  have HBy := Lib.hid hby
  clear hR h0 hby
  go_enter Tryd.func20, Tryd.ntmps20
  go_wp2_with fail
  go_loopw [3] (fun v wr => ∃ j : Nat, v = .int .i64 (j : Int) ∧ j ≤ n ∧ wr = w ∧ stripN l j = stripN l n) (fun v _ => (intOf v).toNat)
  case atStart => exact ⟨n, rfl, Nat.le_refl _, rfl, rfl⟩
  case round =>
    obtain ⟨j, rfl, hj, rfl, hs⟩ := hrel
    cases j with
    | zero => exact absurd hs.symm H0.out
    | succ j =>
      have c0 := HR.out.cell j (by omega)
      have d0 : decide (0 < j + 1) = true := decide_eq_true (by omega)
      have wj : IntKind.i64.wrap ((j : Int) + 1 - 1) = (j : Int) := by rw [IntKind.wrap_i64]; omega
      have hcast : ((j + 1 : Nat) : Int) = (j : Int) + 1 := by omega
      rw [hcast]
      have dj : decide ((0 : Int) < (j : Int) + 1) = true := decide_eq_true (by omega)
      by_cases h255 : l.getD j 0 = 255
      · have hs2 : stripN l j = stripN l n := by rw [stripN, if_pos h255] at hs; exact hs
        rw [h255] at c0
        have HS2 := Lib.hid hs2
        clear hs hs2 h255
        go_wp2_with fail
        exact ⟨⟨j, rfl, by omega, trivial, HS2.out⟩, by show (j : Int).toNat < ((j : Int) + 1).toNat; omega⟩
      · have hs2 : stripN l n = j + 1 := by rw [stripN, if_neg h255] at hs; exact hs.symm
        have hx : 0 ≤ l.getD j 0 ∧ l.getD j 0 ≤ 255 := by
          rw [List.getD_eq_getElem?_getD, List.getElem?_eq_getElem (by omega)]
          exact HBy.out _ (List.getElem_mem _)
        have hset := aft_set l j (by rw [hl]; exact hs2)
        have hbV : Below wr.heap.size wr (wr.alloc (.cells #[] 5)) := (Below.refl _ _).alloc (Nat.le_refl _) _
        have hown0 := row_owned (B := wr.heap.size) (k := 0) (l := []) (heap_alloc_new wr (.cells #[] 5)) rfl (Nat.le_refl _) (by omega)
        have hcut : Rd (wr.alloc (.cells #[] 5)) (some ⟨gb, off, none⟩) (j + 1) (l.take (j + 1)) := by
          have := (HR.out.cut 0 (j + 1) (by omega)).below hbV
          simpa using this
        obtain ⟨p, cc, w2, hru, ho, hb2⟩ := append_any (cc := c) hown0 hcut (by simp) (by omega) hbV.size
        rw [List.nil_append] at hru ho
        have hb := hbV.trans hb2
        have hlt : (l.take (j + 1)).length = j + 1 := by rw [List.length_take]; omega
        have hg : (l.take (j + 1)).getD j 0 = l.getD j 0 := by rw [List.getD_eq_getElem?_getD, List.getElem?_take, if_pos (by omega), List.getD_eq_getElem?_getD]
        have de : (l.getD j 0 == 255) = false := beq_eq_false_iff_ne.2 h255
        have wu : IntKind.u8.wrap (l.getD j 0 + 1) = l.getD j 0 + 1 := by rw [IntKind.wrap_u8]; omega
        have HSet := Lib.hid hset
        have HG := Lib.hid hg
        have HLt := Lib.hid hlt
        have HS2 := Lib.hid hs2
        have dz : ((j : Int) + 1 == 0) = false := beq_eq_false_iff_ne.2 (by omega)
        have hjc : (j : Int) + 1 ≤ (c : Int) := by omega
        rw [hlt] at ho hru
        have HO := Lib.hid (And.intro ho hb)
        have HRu := Lib.hid hru
        clear hset hg hlt hs hs2 h255 ho hb hru hb2 hbV hown0 hcut
        generalize l.getD j 0 = x at c0 hx de wu HSet HG
        obtain ⟨ho, hb⟩ := HO.out
        clear HO
        have hg0 : ∃ g, p = some ⟨g, 0, none⟩ := by
          rcases ho.2 with ⟨_, h⟩ | ⟨g, cap, cur, hv, _⟩
          · omega
          · injection hv with h1
            exact ⟨g, h1⟩
        obtain ⟨g, rfl⟩ := hg0
        have hrd := owned_rd ho
        have c1 := hrd.cell j (by omega)
        rw [HG.out, Nat.zero_add] at c1
        have f1 : w2.frozen? ⟨g, j, none⟩ = false := by
          obtain ⟨cur, hc⟩ := owned_type ho (g := g) rfl
          exact frozen_of_row _ _ _ _ _ hc
        obtain ⟨s1, s2, s3, s4⟩ := own_set ho j (.int .u8 (x + 1))
        rw [bcells_set, HSet.out] at s1
        have hal : (aft l).length = j + 1 := by rw [← HSet.out, List.length_set]; exact HLt.out
        have hFin : Hid (OwnPost wr (aft l) (.returned (.slice (some ⟨g, 0, none⟩) (j + 1) cc)) (w2.setCell ⟨g, j, none⟩ (.int .u8 (x + 1)))) := ⟨_, cc, by rw [hal], by rw [hal]; exact s1, hb.trans s4⟩
        clear ho hb hrd s1 s2 s3 s4 hal HSet
        go_wp2_with (at_builtin; refine wpList_append_run rfl _ _ _ rfl _ _ _ _ rfl rfl HRu.out ?_; clear HRu)
        go_ret
        exact hFin.out
end Go.Proofs.YtebhbcbcnjdgjaaDoor.dk
/- KeysCode: what both sides answer. -/
namespace Go.Proofs.YtebhbcbcnjdgjaaDoor.dk
open Go.PlainAid Go.ChangeShapes Go.WideShapes Go.ChangeAt Go.RowKit

/-- Parts as bytes, and the error. -/
def encR (l : List Pt) : List Int × Int := if l.length ≤ 16 ∧ l.all psane = true then (encOf l, 0) else ([], if l.length ≤ 16 then 1 else 4)
def EB (w : World) (R : List Int × Int) (e : Ending) (w' : World) : Prop :=
  Below w.heap.size w w' ∧ ∃ p2 c2, e = .returned (.tuple #[.slice p2 R.1.length c2, .int .i64 R.2]) ∧ Rd w' p2 R.1.length R.1
theorem eb_of {w w' : World} {n : Nat} {l : List Pt} {e : Ending} (hl : l.length = n) (h : EPost w n l e w') : EB w (encR l) e w' := by
  obtain ⟨hb, ⟨h1, h2, p2, c2, rfl, ho⟩ | ⟨h1, rfl⟩⟩ := h
  · have e : encR l = (encOf l, 0) := by unfold encR; rw [if_pos ⟨by omega, h2⟩]
    rw [e]
    exact ⟨hb, p2, c2, rfl, owned_rd ho⟩
  · have e : encR l = ([], if n ≤ 16 then 1 else 4) := by unfold encR; rw [if_neg (by rw [hl]; exact h1), hl]
    rw [e]
    exact ⟨hb, none, 0, rfl, rfl, fun h => absurd h (Nat.lt_irrefl 0)⟩
/-- Bytes as parts, and the error. -/
def DecRel (b : List Int) (qs : List Pt) (ec : Int) : Prop :=
  (ec = 0 ∧ Dc b qs [] ∧ qs.length ≤ 16) ∨ (ec = 2 ∧ qs = [] ∧ ∃ qs' r, Dc b qs' r ∧ r ≠ [] ∧ fpart r = none ∧ qs'.length ≤ 16) ∨ (ec = 4 ∧ qs = [] ∧ ∃ qs' r q k, Dc b qs' r ∧ r ≠ [] ∧ fpart r = some (q, k) ∧ qs'.length = 16)
theorem dc_end {b : List Int} {l l' : List Pt} {r' : List Int} (h : Dc b l []) (h' : Dc b l' r') : l'.length ≤ l.length := by
  rcases Nat.lt_or_ge l.length l'.length with hlt | hge
  · obtain ⟨s, e1, _, e3⟩ := dc_same h h' (by omega)
    exact absurd rfl (e3 (fun e => by rw [e, List.append_nil] at e1; rw [e1] at hlt; omega)).1
  · exact hge
theorem dc_stop {b : List Int} {l l' : List Pt} {r r' : List Int} (h : Dc b l r) (hn : fpart r = none) (h' : Dc b l' r') : l'.length ≤ l.length := by
  rcases Nat.lt_or_ge l.length l'.length with hlt | hge
  · obtain ⟨s, e1, _, e3⟩ := dc_same h h' (by omega)
    obtain ⟨_, q, k, hf⟩ := e3 (fun e => by rw [e, List.append_nil] at e1; rw [e1] at hlt; omega)
    rw [hn] at hf
    cases hf
  · exact hge
theorem dc_eq {b : List Int} {l l' : List Pt} {r r' : List Int} (h : Dc b l r) (h' : Dc b l' r') (hl : l.length = l'.length) : l = l' ∧ r = r' := by
  obtain ⟨s, e1, e2, _⟩ := dc_same h h' (by omega)
  have hs : s = [] := by
    have := congrArg List.length e1
    rw [List.length_append] at this
    exact List.length_eq_zero_iff.1 (by omega)
  rw [hs, List.append_nil] at e1
  exact ⟨e1.symm, e2 hs⟩
theorem dec_one {b : List Int} {qs qs' : List Pt} {ec ec' : Int} (h : DecRel b qs ec) (h' : DecRel b qs' ec') : qs = qs' ∧ ec = ec' := by
  rcases h with ⟨rfl, h1, h2⟩ | ⟨rfl, rfl, l, r, h1, h2, h3, h4⟩ | ⟨rfl, rfl, l, r, q, k, h1, h2, h3, h4⟩ <;> rcases h' with ⟨rfl, g1, g2⟩ | ⟨rfl, rfl, l', r', g1, g2, g3, g4⟩ | ⟨rfl, rfl, l', r', q', k', g1, g2, g3, g4⟩
  · have := dc_end h1 g1
    have := dc_end g1 h1
    exact ⟨(dc_eq h1 g1 (by omega)).1, rfl⟩
  · have := dc_end h1 g1
    have := dc_stop g1 g3 h1
    exact absurd (dc_eq h1 g1 (by omega)).2.symm g2
  · have := dc_end h1 g1
    exact absurd (dc_eq h1 g1 (by omega)).2.symm g2
  · have := dc_end g1 h1
    have := dc_stop h1 h3 g1
    exact absurd (dc_eq h1 g1 (by omega)).2 h2
  · exact ⟨rfl, rfl⟩
  · have := dc_stop h1 h3 g1
    obtain ⟨_, e⟩ := dc_eq h1 g1 (by omega)
    rw [e, g3] at h3
    cases h3
  · have := dc_end g1 h1
    exact absurd (dc_eq h1 g1 (by omega)).2 h2
  · have := dc_stop g1 g3 h1
    obtain ⟨_, e⟩ := dc_eq h1 g1 (by omega)
    rw [e, g3] at h3
    cases h3
  · exact ⟨rfl, rfl⟩
def DB2 (w : World) (b : List Int) (e : Ending) (w' : World) : Prop :=
  Below w.heap.size w w' ∧ ∃ qs p2 c2 ec, DecRel b qs ec ∧ e = .returned (.tuple #[.slice p2 qs.length c2, .int .i64 ec]) ∧ RdP w' p2 qs.length qs
theorem rdP_nil (w : World) (p : Option Addr) : RdP w p 0 [] := ⟨rfl, fun h => absurd h (by omega)⟩
theorem db2_ours {w w' : World} {b : List Int} {e : Ending} (h : DPost w b e w') : DB2 w b e w' := by
  obtain ⟨hb, ⟨qs, p2, c2, h1, h2, rfl, h4⟩ | ⟨qs, r, h1, h2, h3, h4, rfl⟩ | ⟨qs, r, q, k, h1, h2, h3, h4, rfl⟩⟩ := h
  · exact ⟨hb, qs, p2, c2, 0, .inl ⟨rfl, h1, h2⟩, rfl, owned_rdP h4⟩
  · exact ⟨hb, [], none, 0, 2, .inr (.inl ⟨rfl, rfl, qs, r, h1, h2, h3, h4⟩), rfl, rdP_nil _ _⟩
  · exact ⟨hb, [], none, 0, 4, .inr (.inr ⟨rfl, rfl, qs, r, q, k, h1, h2, h3, h4⟩), rfl, rdP_nil _ _⟩
theorem db2_ref {w w' : World} {b : List Int} {e : Ending} (h : DRPost w b e w') : DB2 w b e w' := by
  obtain ⟨hb, ⟨qs, p2, c2, h1, h2, rfl, h4⟩ | ⟨qs, r, h1, h2, h3, h4, rfl⟩ | ⟨qs, r, q, k, h1, h2, h3, h4, rfl⟩⟩ := h
  · exact ⟨hb, qs, p2, c2, 0, .inl ⟨rfl, h1, h2⟩, rfl, h4⟩
  · exact ⟨hb, [], none, 0, 2, .inr (.inl ⟨rfl, rfl, qs, r, h1, h2, h3, h4⟩), rfl, rdP_nil _ _⟩
  · exact ⟨hb, [], none, 0, 4, .inr (.inr ⟨rfl, rfl, qs, r, q, k, h1, h2, h3, h4⟩), rfl, rdP_nil _ _⟩
theorem decRel_len {b : List Int} {qs : List Pt} {ec : Int} (h : DecRel b qs ec) : qs.length ≤ 16 := by
  rcases h with ⟨_, _, h⟩ | ⟨_, rfl, _⟩ | ⟨_, rfl, _⟩
  · exact h
  · simp
  · simp
/-- The bytes behind others. -/
def AB (w : World) (b : List Int) (e : Ending) (w' : World) : Prop :=
  Below w.heap.size w w' ∧ ∃ p2 c2, e = .returned (.slice p2 (aft b).length c2) ∧ Rd w' p2 (aft b).length (aft b)
theorem aft_nil {b : List Int} (h : stripN b b.length = 0) : aft b = [] := by unfold aft; rw [if_pos h]
theorem After_ours (w : World) (p : Option Addr) (n c : Nat) (b : List Int) (hR : Rd w p n b) (hy : Bys b) (hnc : n ≤ c) (hn : n ≤ 100000) : Calls Tryd.prog 19 #[.slice p n c] w (AB w b) := by
  have hl := hR.1
  by_cases h : stripN b n = 0
  · refine (After_none w p n c b hR hn h).mono ?_
    rintro e w' ⟨rfl, rfl⟩
    rw [← hl] at h
    unfold AB
    rw [aft_nil h]
    exact ⟨Below.refl _ _, none, 0, rfl, rfl, fun h => absurd h (by decide)⟩
  · have h0 : 0 < n := by
      rcases Nat.eq_zero_or_pos n with h0 | h0
      · rw [h0] at h; exact absurd rfl h
      · exact h0
    obtain ⟨g, off, rfl, _⟩ := hR.form h0
    refine (After_some w g off n c b hR hy hnc hn h).mono ?_
    rintro e w' ⟨p2, c2, rfl, ho, hb⟩
    exact ⟨hb, p2, c2, rfl, owned_rd ho⟩
theorem After_ref (w : World) (p : Option Addr) (n c : Nat) (b : List Int) (hR : Rd w p n b) (hy : Bys b) (hnc : n ≤ c) (hn : n ≤ 100000) : Calls Tryd.prog 20 #[.slice p n c] w (AB w b) := by
  have hl := hR.1
  by_cases h : stripN b n = 0
  · refine (After_ref_none w p n c b hR hn h).mono ?_
    rintro e w' ⟨rfl, rfl⟩
    rw [← hl] at h
    unfold AB
    rw [aft_nil h]
    exact ⟨Below.refl _ _, none, 0, rfl, rfl, fun h => absurd h (by decide)⟩
  · have h0 : 0 < n := by
      rcases Nat.eq_zero_or_pos n with h0 | h0
      · rw [h0] at h; exact absurd rfl h
      · exact h0
    obtain ⟨g, off, rfl, _⟩ := hR.form h0
    refine (After_ref_some w g off n c b hR hy hnc hn h).mono ?_
    rintro e w' ⟨p2, c2, rfl, ho, hb⟩
    exact ⟨hb, p2, c2, rfl, owned_rd ho⟩
end Go.Proofs.YtebhbcbcnjdgjaaDoor.dk
