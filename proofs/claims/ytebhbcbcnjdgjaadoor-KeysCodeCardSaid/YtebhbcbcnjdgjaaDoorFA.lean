/- The part that bytes begin with. -/
import Derived.Test.YtebhbcbcnjdgjaaDoorN5
namespace Go.Proofs.YtebhbcbcnjdgjaaDoor.dk
open Go.PlainAid Go.ChangeShapes Go.WideShapes Go.ChangeAt Go.RowKit

/-- The part that bytes begin with, and how many they are. -/
def fpart (l : List Int) : Option (Pt × Nat) :=
  if l.getD 0 0 = 16 then some (⟨0, false, false, ⟨#[]⟩, 0, ⟨#[]⟩, 0⟩, 1)
  else if l.getD 0 0 = 32 then some (⟨1, false, false, ⟨#[]⟩, 0, ⟨#[]⟩, 0⟩, 1)
  else if l.getD 0 0 = 33 then some (⟨1, true, false, ⟨#[]⟩, 0, ⟨#[]⟩, 0⟩, 1)
  else if l.getD 0 0 = 49 then some (⟨2, false, false, ⟨#[]⟩, 0, ⟨#[]⟩, 0⟩, 1)
  else if l.getD 0 0 = 48 then (fnum l).map fun r => (⟨2, false, r.1, strOf r.2.1, r.2.2.1, ⟨#[]⟩, 0⟩, r.2.2.2)
  else if l.getD 0 0 = 50 then (fnum l).map fun r => (⟨2, false, r.1, strOf r.2.1, r.2.2.1, ⟨#[]⟩, 0⟩, r.2.2.2)
  else if l.getD 0 0 = 64 then (txt (l.drop 1) [] 1).map fun r => (⟨3, false, false, ⟨#[]⟩, 0, strOf r.1, 0⟩, r.2)
  else if l.getD 0 0 = 80 then (if 4 < l.length then some (⟨9, false, false, ⟨#[]⟩, 0, ⟨#[]⟩, l.getD 1 0 * 16777216 + l.getD 2 0 * 65536 + l.getD 3 0 * 256 + l.getD 4 0⟩, 5) else none)
  else none
/-- What is answered of it. -/
def FPost (w : World) (R : Option (Pt × Nat)) (e : Ending) (w' : World) : Prop :=
  Below w.heap.size w w' ∧ e = .returned (match R with | some (q, k) => .tuple #[.agg (parr q), .int .i64 (k : Int)] | none => .tuple #[.agg pzero, .int .i64 0])
theorem drew_pair {W W0 : World} {A B : Nat} {o : Obj} (h : W.heap[A]? = some o ∧ Below B W0 W) : W.drew.heap[A]? = some o ∧ Below B W0 W.drew := ⟨h.1, h.2.drew⟩
theorem bys_at {l : List Int} (h : Bys l) {i : Nat} (hi : i < l.length) : 0 ≤ l.getD i 0 ∧ l.getD i 0 ≤ 255 := by
  rw [List.getD_eq_getElem?_getD, List.getElem?_eq_getElem hi]
  exact h _ (List.getElem_mem _)
theorem or32 (a b c d : Int) (ha : 0 ≤ a ∧ a ≤ 255) (hb : 0 ≤ b ∧ b ≤ 255) (hc : 0 ≤ c ∧ c ≤ 255) (hd : 0 ≤ d ∧ d ≤ 255) :
    bits .or .i64 (bits .or .i64 (bits .or .i64 (a * 16777216) (b * 65536)) (c * 256)) d = a * 16777216 + b * 65536 + c * 256 + d := by
  have h1 : bits .or .i64 (a * 16777216) (b * 65536) = a * 16777216 + b * 65536 := bits_join .i64 63 (by decide) (fun m a b => by rw [IntKind.wrap_i64]; omega) 24 (a * 16777216) (b * 65536) (by omega) (by omega) (by omega) (by omega) (by omega) (by omega)
  have h2 : bits .or .i64 (a * 16777216 + b * 65536) (c * 256) = a * 16777216 + b * 65536 + c * 256 := bits_join .i64 63 (by decide) (fun m a b => by rw [IntKind.wrap_i64]; omega) 16 (a * 16777216 + b * 65536) (c * 256) (by omega) (by omega) (by omega) (by omega) (by omega) (by omega)
  have h3 : bits .or .i64 (a * 16777216 + b * 65536 + c * 256) d = a * 16777216 + b * 65536 + c * 256 + d := bits_join .i64 63 (by decide) (fun m a b => by rw [IntKind.wrap_i64]; omega) 8 _ d (by omega) (by omega) (by omega) (by omega) (by omega) (by omega)
  rw [h1, h2, h3]
set_option maxHeartbeats 2000000 in
set_option maxRecDepth 100000 in
theorem first_any (w : World) (g off n c : Nat) (l : List Int) (hR : Rd w (some ⟨g, off, none⟩) n l) (hy : Bys l) (h1 : 1 ≤ n) (hnc : n ≤ c) (hn : n ≤ 100000) :
    Calls Tryd.prog 39 #[.slice (some ⟨g, off, none⟩) n c] w (FPost w (fpart l)) := by
  have hlen := hR.1
  have hbw : Below w.heap.size w (w.alloc (.cells #[.int .i64 0, .bool false, .bool false, .string ⟨#[]⟩, .int .i64 0, .string ⟨#[]⟩, .int .i64 0] 43)) := (Below.refl _ _).alloc (Nat.le_refl _) _
  have hrow := heap_alloc_new w (.cells #[.int .i64 0, .bool false, .bool false, .string ⟨#[]⟩, .int .i64 0, .string ⟨#[]⟩, .int .i64 0] 43)
  have hRa := hR.below hbw
  have a0 := hRa.cell 0 (by omega)
  rw [Nat.add_zero] at a0
  have hi0 : (0 : Int) < (n : Int) := by omega
  have hi0n : 0 < n := h1
  obtain ⟨wa, hwa⟩ : ∃ wa, wa = w.alloc (.cells #[.int .i64 0, .bool false, .bool false, .string ⟨#[]⟩, .int .i64 0, .string ⟨#[]⟩, .int .i64 0] 43) := ⟨_, rfl⟩
  have hsz : wa.heap.size = w.heap.size + 1 := by rw [hwa, box_size]
  by_cases h16 : l.getD 0 0 = 16
  · rw [h16] at a0
    rw [show fpart l = some (⟨0, false, false, ⟨#[]⟩, 0, ⟨#[]⟩, 0⟩, 1) by unfold fpart; rw [if_pos h16]]
    clear hrow hbw hR hRa hwa hsz
    go_enter Tryd.func39, Tryd.ntmps39
    go_wp2_with fail
    refine bodyPost_ret (results_row_tmp rfl _ _ w.heap.size _ _ _ _ rfl (heap_alloc_new w _) Tryd.underlying43 rfl (by kernel_rfl)) rfl ⟨(Below.refl _ _).alloc (Nat.le_refl _) _, rfl⟩
  have f16 : (l.getD 0 0 == 16) = false := beq_eq_false_iff_ne.2 h16
  by_cases h32 : l.getD 0 0 = 32
  · rw [h32] at a0
    rw [show fpart l = some (⟨1, false, false, ⟨#[]⟩, 0, ⟨#[]⟩, 0⟩, 1) by unfold fpart; rw [if_neg h16, if_pos h32]]
    clear hrow hbw hR hRa hwa hsz
    go_enter Tryd.func39, Tryd.ntmps39
    go_wp2_with fail
    refine bodyPost_ret (results_row_tmp rfl _ _ w.heap.size _ _ _ _ rfl (heap_alloc_new w _) Tryd.underlying43 rfl (by kernel_rfl)) rfl ⟨(Below.refl _ _).alloc (Nat.le_refl _) _, rfl⟩
  have f32 : (l.getD 0 0 == 32) = false := beq_eq_false_iff_ne.2 h32
  by_cases h33 : l.getD 0 0 = 33
  · rw [h33] at a0
    rw [show fpart l = some (⟨1, true, false, ⟨#[]⟩, 0, ⟨#[]⟩, 0⟩, 1) by unfold fpart; rw [if_neg h16, if_neg h32, if_pos h33]]
    clear hrow hbw hR hRa hwa hsz
    go_enter Tryd.func39, Tryd.ntmps39
    go_wp2_with fail
    refine bodyPost_ret (results_row_tmp rfl _ _ w.heap.size _ _ _ _ rfl (heap_alloc_new w _) Tryd.underlying43 rfl (by kernel_rfl)) rfl ⟨(Below.refl _ _).alloc (Nat.le_refl _) _, rfl⟩
  have f33 : (l.getD 0 0 == 33) = false := beq_eq_false_iff_ne.2 h33
  by_cases h49 : l.getD 0 0 = 49
  · rw [h49] at a0
    rw [show fpart l = some (⟨2, false, false, ⟨#[]⟩, 0, ⟨#[]⟩, 0⟩, 1) by unfold fpart; rw [if_neg h16, if_neg h32, if_neg h33, if_pos h49]]
    clear hrow hbw hR hRa hwa hsz
    go_enter Tryd.func39, Tryd.ntmps39
    go_wp2_with fail
    refine bodyPost_ret (results_row_tmp rfl _ _ w.heap.size _ _ _ _ rfl (heap_alloc_new w _) Tryd.underlying43 rfl (by kernel_rfl)) rfl ⟨(Below.refl _ _).alloc (Nat.le_refl _) _, rfl⟩
  have f49 : (l.getD 0 0 == 49) = false := beq_eq_false_iff_ne.2 h49
  by_cases h48 : l.getD 0 0 = 48
  · rw [h48] at a0
    rw [← hwa] at hrow hbw hRa
    rw [show fpart l = (fnum l).map fun r => (⟨2, false, r.1, strOf r.2.1, r.2.2.1, ⟨#[]⟩, 0⟩, r.2.2.2) by unfold fpart; rw [if_neg h16, if_neg h32, if_neg h33, if_neg h49, if_pos h48]]
    have HC := Lib.hid (firstNumber_full wa g off n c l hRa hy h1 hnc hn)
    have HR := Lib.hid hR
    have HBw := Lib.hid hbw
    have HRow := Lib.hid hrow
    have HWa := Lib.hid hwa
    have HSz := Lib.hid hsz
    clear hR hbw hrow hwa hsz
    go_enter Tryd.func39, Tryd.ntmps39
    go_wp2_with fail
    rw [← HWa.out]
    with_reducible refine HC.out.mono ?_
    clear HC
    rintro e w1 ⟨hb1, rfl⟩
    have hrow1 := (hb1.block w.heap.size (by have := HSz.out; omega)).trans HRow.out
    have hbw1 := HBw.out.trans (hb1.mono (by have := HSz.out; omega))
    obtain ⟨⟨z0, z1, z2, z3, z4, z5, z6⟩, y0, y1, y2, y3, y4, y5, y6⟩ := row7 hrow1
    cases hfn : fnum l with
    | none =>
      dsimp only [Option.map]
      unfold pzero
      have hS := set7 (v0 := .int .i64 0) (v1 := .bool false) (v2 := .bool false) (v3 := .string ⟨#[]⟩) (v4 := .int .i64 0) (v5 := .string ⟨#[]⟩) (v6 := .int .i64 0) hrow1 (Nat.le_refl _) hbw1
      have HS := Lib.hid hS
      clear hS hrow1 hbw1 hb1
      have HFn := Lib.hid hfn
      clear hfn
      go_wp2_with fail
      refine bodyPost_ret (results_row_tmp rfl _ _ w.heap.size _ _ _ _ rfl HS.out.1 Tryd.underlying43 rfl (by kernel_rfl)) rfl ⟨HS.out.2, by rw [HFn.out]; rfl⟩
    | some r =>
      obtain ⟨neg, dg, ex, k⟩ := r
      dsimp only [Option.map]
      have hS := set7 (v0 := .int .i64 2) (v1 := .bool false) (v2 := .bool neg) (v3 := .string (strOf dg)) (v4 := .int .i64 ex) (v5 := .string ⟨#[]⟩) (v6 := .int .i64 0) hrow1 (Nat.le_refl _) hbw1
      have HS := Lib.hid hS
      clear hS hrow1 hbw1 hb1
      have HFn := Lib.hid hfn
      clear hfn
      go_wp2_with fail
      refine bodyPost_ret (results_row_tmp rfl _ _ w.heap.size _ _ _ _ rfl HS.out.1 Tryd.underlying43 rfl (by kernel_rfl)) rfl ⟨HS.out.2, by rw [HFn.out]; rfl⟩
  have f48 : (l.getD 0 0 == 48) = false := beq_eq_false_iff_ne.2 h48
  by_cases h50 : l.getD 0 0 = 50
  · rw [h50] at a0
    rw [← hwa] at hrow hbw hRa
    rw [show fpart l = (fnum l).map fun r => (⟨2, false, r.1, strOf r.2.1, r.2.2.1, ⟨#[]⟩, 0⟩, r.2.2.2) by unfold fpart; rw [if_neg h16, if_neg h32, if_neg h33, if_neg h49, if_neg h48, if_pos h50]]
    have HC := Lib.hid (firstNumber_full wa g off n c l hRa hy h1 hnc hn)
    have HR := Lib.hid hR
    have HBw := Lib.hid hbw
    have HRow := Lib.hid hrow
    have HWa := Lib.hid hwa
    have HSz := Lib.hid hsz
    clear hR hbw hrow hwa hsz
    go_enter Tryd.func39, Tryd.ntmps39
    go_wp2_with fail
    rw [← HWa.out]
    with_reducible refine HC.out.mono ?_
    clear HC
    rintro e w1 ⟨hb1, rfl⟩
    have hrow1 := (hb1.block w.heap.size (by have := HSz.out; omega)).trans HRow.out
    have hbw1 := HBw.out.trans (hb1.mono (by have := HSz.out; omega))
    obtain ⟨⟨z0, z1, z2, z3, z4, z5, z6⟩, y0, y1, y2, y3, y4, y5, y6⟩ := row7 hrow1
    cases hfn : fnum l with
    | none =>
      dsimp only [Option.map]
      unfold pzero
      have hS := set7 (v0 := .int .i64 0) (v1 := .bool false) (v2 := .bool false) (v3 := .string ⟨#[]⟩) (v4 := .int .i64 0) (v5 := .string ⟨#[]⟩) (v6 := .int .i64 0) hrow1 (Nat.le_refl _) hbw1
      have HS := Lib.hid hS
      clear hS hrow1 hbw1 hb1
      have HFn := Lib.hid hfn
      clear hfn
      go_wp2_with fail
      refine bodyPost_ret (results_row_tmp rfl _ _ w.heap.size _ _ _ _ rfl HS.out.1 Tryd.underlying43 rfl (by kernel_rfl)) rfl ⟨HS.out.2, by rw [HFn.out]; rfl⟩
    | some r =>
      obtain ⟨neg, dg, ex, k⟩ := r
      dsimp only [Option.map]
      have hS := set7 (v0 := .int .i64 2) (v1 := .bool false) (v2 := .bool neg) (v3 := .string (strOf dg)) (v4 := .int .i64 ex) (v5 := .string ⟨#[]⟩) (v6 := .int .i64 0) hrow1 (Nat.le_refl _) hbw1
      have HS := Lib.hid hS
      clear hS hrow1 hbw1 hb1
      have HFn := Lib.hid hfn
      clear hfn
      go_wp2_with fail
      refine bodyPost_ret (results_row_tmp rfl _ _ w.heap.size _ _ _ _ rfl HS.out.1 Tryd.underlying43 rfl (by kernel_rfl)) rfl ⟨HS.out.2, by rw [HFn.out]; rfl⟩
  have f50 : (l.getD 0 0 == 50) = false := beq_eq_false_iff_ne.2 h50
  by_cases h64 : l.getD 0 0 = 64
  · rw [h64] at a0
    rw [← hwa] at hrow hbw hRa
    rw [show fpart l = (txt (l.drop 1) [] 1).map fun r => (⟨3, false, false, ⟨#[]⟩, 0, strOf r.1, 0⟩, r.2) by unfold fpart; rw [if_neg h16, if_neg h32, if_neg h33, if_neg h49, if_neg h48, if_neg h50, if_pos h64]]
    have HC := Lib.hid (firstText_any wa _ n c l hRa hn)
    have HR := Lib.hid hR
    have HBw := Lib.hid hbw
    have HRow := Lib.hid hrow
    have HWa := Lib.hid hwa
    have HSz := Lib.hid hsz
    clear hR hbw hrow hwa hsz
    go_enter Tryd.func39, Tryd.ntmps39
    go_wp2_with fail
    rw [← HWa.out]
    with_reducible refine HC.out.mono ?_
    clear HC
    rintro e w1 ⟨hb1, rfl⟩
    have hrow1 := (hb1.block w.heap.size (by have := HSz.out; omega)).trans HRow.out
    have hbw1 := HBw.out.trans (hb1.mono (by have := HSz.out; omega))
    obtain ⟨⟨z0, z1, z2, z3, z4, z5, z6⟩, y0, y1, y2, y3, y4, y5, y6⟩ := row7 hrow1
    cases hfn : txt (l.drop 1) [] 1 with
    | none =>
      dsimp only [Option.map]
      unfold pzero
      have hS := set7 (v0 := .int .i64 0) (v1 := .bool false) (v2 := .bool false) (v3 := .string ⟨#[]⟩) (v4 := .int .i64 0) (v5 := .string ⟨#[]⟩) (v6 := .int .i64 0) hrow1 (Nat.le_refl _) hbw1
      have HS := Lib.hid hS
      clear hS hrow1 hbw1 hb1
      have HFn := Lib.hid hfn
      clear hfn
      go_wp2_with fail
      refine bodyPost_ret (results_row_tmp rfl _ _ w.heap.size _ _ _ _ rfl HS.out.1 Tryd.underlying43 rfl (by kernel_rfl)) rfl ⟨HS.out.2, by rw [HFn.out]; rfl⟩
    | some r =>
      obtain ⟨s, k⟩ := r
      dsimp only [Option.map]
      have hS := set7 (v0 := .int .i64 3) (v1 := .bool false) (v2 := .bool false) (v3 := .string ⟨#[]⟩) (v4 := .int .i64 0) (v5 := .string (strOf s)) (v6 := .int .i64 0) hrow1 (Nat.le_refl _) hbw1
      have HS := Lib.hid hS
      clear hS hrow1 hbw1 hb1
      have HFn := Lib.hid hfn
      clear hfn
      go_wp2_with fail
      refine bodyPost_ret (results_row_tmp rfl _ _ w.heap.size _ _ _ _ rfl HS.out.1 Tryd.underlying43 rfl (by kernel_rfl)) rfl ⟨HS.out.2, by rw [HFn.out]; rfl⟩
  have f64 : (l.getD 0 0 == 64) = false := beq_eq_false_iff_ne.2 h64
  by_cases h80 : l.getD 0 0 = 80
  · rw [h80] at a0
    by_cases h4 : 4 < n
    · rw [show fpart l = some (⟨9, false, false, ⟨#[]⟩, 0, ⟨#[]⟩, l.getD 1 0 * 16777216 + l.getD 2 0 * 65536 + l.getD 3 0 * 256 + l.getD 4 0⟩, 5) by unfold fpart; rw [if_neg h16, if_neg h32, if_neg h33, if_neg h49, if_neg h48, if_neg h50, if_neg h64, if_pos h80, if_pos (by omega)]]
      have hb1 : 0 ≤ l.getD 1 0 ∧ l.getD 1 0 ≤ 255 := bys_at hy (by omega)
      have hb2 : 0 ≤ l.getD 2 0 ∧ l.getD 2 0 ≤ 255 := bys_at hy (by omega)
      have hb3 : 0 ≤ l.getD 3 0 ∧ l.getD 3 0 ≤ 255 := bys_at hy (by omega)
      have hb4 : 0 ≤ l.getD 4 0 ∧ l.getD 4 0 ≤ 255 := bys_at hy (by omega)
      have a1 := hRa.cell 1 (by omega)
      have a2 := hRa.cell 2 (by omega)
      have a3 := hRa.cell 3 (by omega)
      have a4 := hRa.cell 4 (by omega)
      have hor := or32 _ _ _ _ hb1 hb2 hb3 hb4
      generalize l.getD 1 0 = b1 at a1 hb1 hor ⊢
      generalize l.getD 2 0 = b2 at a2 hb2 hor ⊢
      generalize l.getD 3 0 = b3 at a3 hb3 hor ⊢
      generalize l.getD 4 0 = b4 at a4 hb4 hor ⊢
      have d4 : decide ((4 : Int) < (n : Int)) = true := decide_eq_true (by omega)
      have d4n : decide (4 < n) = true := decide_eq_true h4
      have hrow2 := hrow
      have hbw2 := hbw
      have HRa := Lib.hid hRa
      clear hrow hbw hR hsz hRa
      go_enter Tryd.func39, Tryd.ntmps39
      go_upto_region 16 with fail
      have hroww := hrow2
      generalize (w.alloc (.cells #[.int .i64 0, .bool false, .bool false, .string ⟨#[]⟩, .int .i64 0, .string ⟨#[]⟩, .int .i64 0] 43)) = wx at a0 a1 a2 a3 a4 hroww hbw2 ⊢
      obtain ⟨⟨z0, z1, z2, z3, z4, z5, z6⟩, y0, y1, y2, y3, y4, y5, y6⟩ := row7 hroww
      have HX := Lib.hid (And.intro hroww hbw2)
      clear hroww hbw2 hrow2 HRa hwa
      go_region
      have hS := set7 (v0 := .int .i64 9) (v1 := .bool false) (v2 := .bool false) (v3 := .string ⟨#[]⟩) (v4 := .int .i64 0) (v5 := .string ⟨#[]⟩) (v6 := .int .i64 (b1 * 16777216 + b2 * 65536 + b3 * 256 + b4)) HX.out.1 (Nat.le_refl _) HX.out.2
      have hS2 := drew_pair hS
      clear hS HX z0 z1 z2 z3 z4 z5 z6 y0 y1 y2 y3 y4 y5 y6
      generalize World.drew (((((((wx.setCell ⟨w.heap.size, 0, none⟩ (.int .i64 9)).setCell ⟨w.heap.size, 1, none⟩ (.bool false)).setCell ⟨w.heap.size, 2, none⟩ (.bool false)).setCell ⟨w.heap.size, 3, none⟩ (.string ⟨#[]⟩)).setCell ⟨w.heap.size, 4, none⟩ (.int .i64 0)).setCell ⟨w.heap.size, 5, none⟩ (.string ⟨#[]⟩)).setCell ⟨w.heap.size, 6, none⟩ (.int .i64 (b1 * 16777216 + b2 * 65536 + b3 * 256 + b4))) = wy at hS2 ⊢
      have HS := Lib.hid hS2
      clear hS2
      go_wp2_with fail
      refine bodyPost_ret (results_row_tmp rfl _ _ w.heap.size _ _ _ _ rfl HS.out.1 Tryd.underlying43 rfl (by kernel_rfl)) rfl ⟨HS.out.2, rfl⟩
    · rw [show fpart l = none by unfold fpart; rw [if_neg h16, if_neg h32, if_neg h33, if_neg h49, if_neg h48, if_neg h50, if_neg h64, if_pos h80, if_neg (by omega)]]
      have d4 : decide ((4 : Int) < (n : Int)) = false := decide_eq_false (by omega)
      have d4n : decide (4 < n) = false := decide_eq_false h4
      unfold FPost pzero
      dsimp only
      clear hrow hbw hR hwa hsz hRa
      go_enter Tryd.func39, Tryd.ntmps39
      go_wp2_with fail
      refine bodyPost_ret (results_row_tmp rfl _ _ w.heap.size _ _ _ _ rfl (heap_alloc_new w _) Tryd.underlying43 rfl (by kernel_rfl)) rfl ⟨(Below.refl _ _).alloc (Nat.le_refl _) _, rfl⟩
  have f80 : (l.getD 0 0 == 80) = false := beq_eq_false_iff_ne.2 h80
  rw [show fpart l = none by unfold fpart; rw [if_neg h16, if_neg h32, if_neg h33, if_neg h49, if_neg h48, if_neg h50, if_neg h64, if_neg h80]]
  unfold FPost pzero
  dsimp only
  generalize l.getD 0 0 = x0 at *
  clear hrow hbw hR hwa hsz hRa
  go_enter Tryd.func39, Tryd.ntmps39
  go_wp2_with fail
  refine bodyPost_ret (results_row_tmp rfl _ _ w.heap.size _ _ _ _ rfl (heap_alloc_new w _) Tryd.underlying43 rfl (by kernel_rfl)) rfl ⟨(Below.refl _ _).alloc (Nat.le_refl _) _, rfl⟩
end Go.Proofs.YtebhbcbcnjdgjaaDoor.dk
