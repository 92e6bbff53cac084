/- The walk of utf.next over bytes: what they begin with. -/
import Derived.Test.YtkifndecpbphbaaDoorUtfS
namespace Go.Proofs.YtkifndecpbphbaaDoor.utf
open Go.PlainAid Go.ChangeShapes Go.WideShapes Go.ChangeAt Go.RowKit

set_option maxRecDepth 100000 in
theorem nextB_nil (c : Nat) (p : Option Addr) (w : World) :
    Calls Tryd.prog 14 #[.slice p 0 c] w fun e w' => e = .returned (.tuple #[.int .i32 0, .int .i64 0]) ∧ w = w' := by
  go_enter Tryd.func14, Tryd.ntmps14
  go_wp2
  go_ret2
  exact ⟨rfl, rfl⟩

set_option maxRecDepth 100000 in
theorem nextB_ascii (b off len cap : Nat) (b0 : Int) (w : World) (hs : 0 < len) (hm : len ≤ maxLen) (e1 : 0 ≤ b0) (h : b0 < 128)
    (hc : w.cell? ⟨b, off, none⟩ = some (.int .u8 b0)) :
    Calls Tryd.prog 14 #[.slice (some ⟨b, off, none⟩) len cap] w fun e w' => e = .returned (.tuple #[.int .i32 b0, .int .i64 1]) ∧ w = w' := by
  unfold maxLen at hm
  have h0 : ((len : Int) == 0) = false := beq_eq_false_iff_ne.2 (by omega)
  go_enter Tryd.func14, Tryd.ntmps14
  go_wp2
  go_ret2
  exact ⟨rfl, rfl⟩

set_option maxRecDepth 100000 in
set_option maxHeartbeats 4000000 in
theorem nextB_rest (b off len cap : Nat) (b0 b1 b2 b3 : Int) (w : World) (hs : 0 < len) (hm : len ≤ maxLen) (h : ¬ b0 < 128) (e2 : b0 ≤ 255)
    (hb1 : 1 < len → 0 ≤ b1 ∧ b1 ≤ 255) (hb2 : 2 < len → 0 ≤ b2 ∧ b2 ≤ 255) (hb3 : 3 < len → 0 ≤ b3 ∧ b3 ≤ 255)
    (hblt : b < w.heap.size) (hc0 : w.cell? ⟨b, off, none⟩ = some (.int .u8 b0))
    (hc1 : 1 < len → w.cell? ⟨b, off + 1, none⟩ = some (.int .u8 b1)) (hc2 : 2 < len → w.cell? ⟨b, off + 2, none⟩ = some (.int .u8 b2)) (hc3 : 3 < len → w.cell? ⟨b, off + 3, none⟩ = some (.int .u8 b3))
    (hF : Forms w) (r : Int × Int) (hr : r = nx len b0 b1 b2 b3) :
    Calls Tryd.prog 14 #[.slice (some ⟨b, off, none⟩) len cap] w fun e w' => e = .returned (.tuple #[.int .i32 r.1, .int .i64 r.2]) ∧ Below w.heap.size w w' := by
  unfold maxLen at hm
  have h0 : ((len : Int) == 0) = false := beq_eq_false_iff_ne.2 (by omega)
  have hNX : Hid (r = scan len b0 b1 b2 b3 (fcell.drop 0)) := by
    show r = _
    rw [hr]
    unfold nx
    rw [if_neg (by omega), if_neg h]; rfl
  clear hr
  obtain ⟨t, fr, hg⟩ := hF
  go_enter Tryd.func14, Tryd.ntmps14
  go_wp2_with (refine wpList_load_row rfl 61 _ rfl 0 rfl t _ fr _ hg Tryd.underlying61 rfl forms_info ?_)
  go_loopw [20] (fun i wr => ∃ k : Nat, k ≤ 8 ∧ i = .int .i64 k ∧ Hid (r = scan len b0 b1 b2 b3 (fcell.drop k)) ∧ Below w.heap.size w wr) (fun i _ => 8 - (intOf i).toNat)
  case atStart => exact ⟨0, by omega, rfl, hNX, Below.refl _ _⟩
  case round =>
    clear hNX
    obtain ⟨k, hk, rfl, hN, hb⟩ := hrel
    have hbs := hb.size
    have hblt' : b < wr.heap.size := by omega
    have hd0 := (hb.cell (p := ⟨b, off, none⟩) hblt).trans hc0
    have hd1 : Hid (1 < len → wr.cell? ⟨b, off + 1, none⟩ = some (.int .u8 b1)) := fun h => (hb.cell (p := ⟨b, off + 1, none⟩) hblt).trans (hc1 h)
    have hd2 : Hid (2 < len → wr.cell? ⟨b, off + 2, none⟩ = some (.int .u8 b2)) := fun h => (hb.cell (p := ⟨b, off + 2, none⟩) hblt).trans (hc2 h)
    have hd3 : Hid (3 < len → wr.cell? ⟨b, off + 3, none⟩ = some (.int .u8 b3)) := fun h => (hb.cell (p := ⟨b, off + 3, none⟩) hblt).trans (hc3 h)
    clear hc0 hc1 hc2 hc3 hg
    by_cases hlt : k < 8
    · obtain ⟨lead, last, size, low, high, hd, b1', b2', b3', b4, b5, b6, b7, b8, b9, b10, hi⟩ := index_forms k hlt
      have hN' : Hid (r = if b0 < lead then scan len b0 b1 b2 b3 (fcell.drop (k + 1)) else if last < b0 then scan len b0 b1 b2 b3 (fcell.drop (k + 1)) else body len b0 b1 b2 b3 size low high) := by
        have := hN.out; rw [hd] at this; exact this
      clear hN hd
      have e1 : 0 ≤ b0 := by omega
      by_cases c1 : b0 < lead
      · have d1 : decide (b0 < lead) = true := by simpa using c1
        have hE : Hid (r = scan len b0 b1 b2 b3 (fcell.drop (k + 1))) := by have := hN'.out; rw [if_pos c1] at this; exact this
        clear hN'
        go_wp2
        go_quiet (fail)
        go_wp2
        go_roundw
        case rel => exact ⟨k + 1, by omega, by go_num, hE, by repeat (first | exact hb.alloc hbs _ | refine below_drewN ?_ _)⟩
        case measure => simp [intOf]; omega
      have d1 : decide (b0 < lead) = false := by simpa using c1
      by_cases c2 : last < b0
      · have d2 : decide (last < b0) = true := by simpa using c2
        have hE : Hid (r = scan len b0 b1 b2 b3 (fcell.drop (k + 1))) := by have := hN'.out; rw [if_neg c1, if_pos c2] at this; exact this
        clear hN'
        go_wp2
        go_quiet (fail)
        go_wp2
        go_roundw
        case rel => exact ⟨k + 1, by omega, by go_num, hE, by repeat (first | exact hb.alloc hbs _ | refine below_drewN ?_ _)⟩
        case measure => simp [intOf]; omega
      have d2 : decide (last < b0) = false := by simpa using c2
      have hE : Hid (r = body len b0 b1 b2 b3 size low high) := by have := hN'.out; rw [if_neg c1, if_neg c2] at this; exact this
      clear hN'
      by_cases c3 : (len : Int) < size
      · have d3 : decide ((len : Int) < size) = true := by simpa using c3
        have hZ : Hid (r = (0, 0)) := by have := hE.out; unfold body at this; rw [if_pos c3] at this; exact this
        clear hE
        go_wp2
        go_quiet (fail)
        go_wp2
        go_quiet (fail)
        go_wp2
        go_ret2
        exact ⟨ret_two hZ.out.symm, by repeat (first | exact hb.alloc hbs _ | refine below_drewN ?_ _)⟩
      have d3 : decide ((len : Int) < size) = false := by simpa using c3
      have hs1 : 1 < len := by omega
      have hs1' : (1 : Int) < (len : Int) := by omega
      obtain ⟨e3, e4⟩ := hb1 hs1
      have hd1' := hd1.out hs1
      by_cases c4 : b1 < low
      · have d4 : decide (b1 < low) = true := by simpa using c4
        have hZ : Hid (r = (0, 0)) := by have := hE.out; unfold body at this; rw [if_neg c3, if_pos c4] at this; exact this
        clear hE
        go_wp2
        go_quiet (fail)
        go_wp2
        go_quiet (fail)
        go_wp2
        go_ret2
        exact ⟨ret_two hZ.out.symm, by repeat (first | exact hb.alloc hbs _ | refine below_drewN ?_ _)⟩
      have d4 : decide (b1 < low) = false := by simpa using c4
      by_cases c5 : high < b1
      · have d5 : decide (high < b1) = true := by simpa using c5
        have hZ : Hid (r = (0, 0)) := by have := hE.out; unfold body at this; rw [if_neg c3, if_neg c4, if_pos c5] at this; exact this
        clear hE
        go_wp2
        go_quiet (fail)
        go_wp2
        go_quiet (fail)
        go_wp2
        go_ret2
        exact ⟨ret_two hZ.out.symm, by repeat (first | exact hb.alloc hbs _ | refine below_drewN ?_ _)⟩
      have d5 : decide (high < b1) = false := by simpa using c5
      have hE' : Hid (r = if cont b1 = false then ((0 : Int), (0 : Int)) else if size = 2 then (b0 % (32 : Int) * (64 : Int) + b1 % (64 : Int), 2) else
          if cont (b2) = false then (0, 0) else if size = 3 then ((b0 % (16 : Int) * (64 : Int) + b1 % (64 : Int)) * 64 + b2 % 64, 3) else
          if cont (b3) = false then (0, 0) else (((b0 % (8 : Int) * (64 : Int) + b1 % (64 : Int)) * 64 + b2 % 64) * 64 + b3 % 64, 4)) := by
        have := hE.out; unfold body at this; rw [if_neg c3, if_neg c4, if_neg c5] at this; exact this
      clear hE
      have a1 := and192 b1 e3 e4
      obtain hz | hz | hz : size = 2 ∨ size = 3 ∨ size = 4 := by omega
      · subst hz
        by_cases y1 : cont b1 = false
        · rw [y1] at a1
          have x1 : (bits BinOp.and IntKind.u8 b1 192 != 128) = true := a1
          have hZ : Hid (r = (0, 0)) := by have := hE'.out; rw [if_pos y1] at this; exact this
          clear hE' a1 y1
          go_wp2
          go_quiet (fail)
          go_wp2
          go_quiet (fail)
          go_wp2
          go_quiet (fail)
          go_wp2
          go_rounds 1
          go_ret2
          exact ⟨ret_two hZ.out.symm, by repeat (first | exact hb.alloc hbs _ | refine below_drewN ?_ _)⟩
        have y1 : cont b1 = true := by simpa using y1
        rw [y1] at a1
        have x1 : (bits BinOp.and IntKind.u8 b1 192 != 128) = false := a1
        clear a1
        have hZ : Hid (r = (bits .or .i32 (wrap32 ((bits .and .i32 b0 31) * 64)) (b1 % (64 : Int)), 2)) := by
          have := hE'.out; rw [y1, if_neg (show ¬ (true = false) by decide), if_pos rfl] at this; rw [and31 b0 e1 e2, or64 (b0 % (32 : Int)) (b1 % (64 : Int)) (by omega) (by omega) (by omega) (by omega)]; exact this
        clear hE' y1
        go_wp2
        go_quiet (fail)
        go_wp2
        go_quiet (fail)
        go_wp2
        go_quiet (fail)
        go_wp2
        go_rounds 2
        go_quiet (fail)
        go_wp2
        go_ret2
        exact ⟨ret_two hZ.out.symm, by repeat (first | exact hb.alloc hbs _ | refine below_drewN ?_ _)⟩
      · subst hz
        have hs2 : 2 < len := by omega
        have hs2' : (2 : Int) < (len : Int) := by omega
        obtain ⟨g2, k2⟩ := hb2 hs2
        have hd2' := hd2.out hs2
        have a2 := and192 b2 g2 k2
        by_cases y1 : cont b1 = false
        · rw [y1] at a1
          have x1 : (bits BinOp.and IntKind.u8 b1 192 != 128) = true := a1
          have hZ : Hid (r = (0, 0)) := by have := hE'.out; rw [if_pos y1] at this; exact this
          clear hE' a1 y1
          go_wp2
          go_quiet (fail)
          go_wp2
          go_quiet (fail)
          go_wp2
          go_quiet (fail)
          go_wp2
          go_rounds 1
          go_ret2
          exact ⟨ret_two hZ.out.symm, by repeat (first | exact hb.alloc hbs _ | refine below_drewN ?_ _)⟩
        have y1 : cont b1 = true := by simpa using y1
        rw [y1] at a1
        have x1 : (bits BinOp.and IntKind.u8 b1 192 != 128) = false := a1
        clear a1
        by_cases y2 : cont b2 = false
        · rw [y2] at a2
          have x2 : (bits BinOp.and IntKind.u8 b2 192 != 128) = true := a2
          have hZ : Hid (r = (0, 0)) := by have := hE'.out; rw [y1, if_neg (show ¬ (true = false) by decide), if_neg (show ¬ ((3 : Int) = 2) by decide), if_pos y2] at this; exact this
          clear hE' a2 y2
          go_wp2
          go_quiet (fail)
          go_wp2
          go_quiet (fail)
          go_wp2
          go_quiet (fail)
          go_wp2
          go_rounds 2
          go_ret2
          exact ⟨ret_two hZ.out.symm, by repeat (first | exact hb.alloc hbs _ | refine below_drewN ?_ _)⟩
        have y2 : cont b2 = true := by simpa using y2
        rw [y2] at a2
        have x2 : (bits BinOp.and IntKind.u8 b2 192 != 128) = false := a2
        clear a2
        have hZ : Hid (r = (bits .or .i32 (wrap32 ((bits .or .i32 (wrap32 ((bits .and .i32 b0 15) * 64)) (b1 % (64 : Int))) * 64)) (b2 % (64 : Int)), 3)) := by
          have := hE'.out; rw [y1, if_neg (show ¬ (true = false) by decide), if_neg (show ¬ ((3 : Int) = 2) by decide), y2, if_neg (show ¬ (true = false) by decide), if_pos rfl] at this; rw [and15 b0 e1 e2, or64 (b0 % (16 : Int)) (b1 % (64 : Int)) (by omega) (by omega) (by omega) (by omega), or64 ((b0 % (16 : Int)) * (64 : Int) + b1 % (64 : Int)) (b2 % (64 : Int)) (by omega) (by omega) (by omega) (by omega)]; exact this
        clear hE' y1 y2
        go_wp2
        go_quiet (fail)
        go_wp2
        go_quiet (fail)
        go_wp2
        go_quiet (fail)
        go_wp2
        go_rounds 3
        go_quiet (fail)
        go_wp2
        go_ret2
        exact ⟨ret_two hZ.out.symm, by repeat (first | exact hb.alloc hbs _ | refine below_drewN ?_ _)⟩
      · subst hz
        have hs2 : 2 < len := by omega
        have hs2' : (2 : Int) < (len : Int) := by omega
        obtain ⟨g2, k2⟩ := hb2 hs2
        have hd2' := hd2.out hs2
        have a2 := and192 b2 g2 k2
        have hs3 : 3 < len := by omega
        have hs3' : (3 : Int) < (len : Int) := by omega
        obtain ⟨g3, k3⟩ := hb3 hs3
        have hd3' := hd3.out hs3
        have a3 := and192 b3 g3 k3
        by_cases y1 : cont b1 = false
        · rw [y1] at a1
          have x1 : (bits BinOp.and IntKind.u8 b1 192 != 128) = true := a1
          have hZ : Hid (r = (0, 0)) := by have := hE'.out; rw [if_pos y1] at this; exact this
          clear hE' a1 y1
          go_wp2
          go_quiet (fail)
          go_wp2
          go_quiet (fail)
          go_wp2
          go_quiet (fail)
          go_wp2
          go_rounds 1
          go_ret2
          exact ⟨ret_two hZ.out.symm, by repeat (first | exact hb.alloc hbs _ | refine below_drewN ?_ _)⟩
        have y1 : cont b1 = true := by simpa using y1
        rw [y1] at a1
        have x1 : (bits BinOp.and IntKind.u8 b1 192 != 128) = false := a1
        clear a1
        by_cases y2 : cont b2 = false
        · rw [y2] at a2
          have x2 : (bits BinOp.and IntKind.u8 b2 192 != 128) = true := a2
          have hZ : Hid (r = (0, 0)) := by have := hE'.out; rw [y1, if_neg (show ¬ (true = false) by decide), if_neg (show ¬ ((4 : Int) = 2) by decide), if_pos y2] at this; exact this
          clear hE' a2 y2
          go_wp2
          go_quiet (fail)
          go_wp2
          go_quiet (fail)
          go_wp2
          go_quiet (fail)
          go_wp2
          go_rounds 2
          go_ret2
          exact ⟨ret_two hZ.out.symm, by repeat (first | exact hb.alloc hbs _ | refine below_drewN ?_ _)⟩
        have y2 : cont b2 = true := by simpa using y2
        rw [y2] at a2
        have x2 : (bits BinOp.and IntKind.u8 b2 192 != 128) = false := a2
        clear a2
        by_cases y3 : cont b3 = false
        · rw [y3] at a3
          have x3 : (bits BinOp.and IntKind.u8 b3 192 != 128) = true := a3
          have hZ : Hid (r = (0, 0)) := by have := hE'.out; rw [y1, if_neg (show ¬ (true = false) by decide), if_neg (show ¬ ((4 : Int) = 2) by decide), y2, if_neg (show ¬ (true = false) by decide), if_neg (show ¬ ((4 : Int) = 3) by decide), if_pos y3] at this; exact this
          clear hE' a3 y3
          go_wp2
          go_quiet (fail)
          go_wp2
          go_quiet (fail)
          go_wp2
          go_quiet (fail)
          go_wp2
          go_rounds 3
          go_ret2
          exact ⟨ret_two hZ.out.symm, by repeat (first | exact hb.alloc hbs _ | refine below_drewN ?_ _)⟩
        have y3 : cont b3 = true := by simpa using y3
        rw [y3] at a3
        have x3 : (bits BinOp.and IntKind.u8 b3 192 != 128) = false := a3
        clear a3
        have hZ : Hid (r = (bits .or .i32 (wrap32 ((bits .or .i32 (wrap32 ((bits .or .i32 (wrap32 ((bits .and .i32 b0 7) * 64)) (b1 % (64 : Int))) * 64)) (b2 % (64 : Int))) * 64)) (b3 % (64 : Int)), 4)) := by
          have := hE'.out; rw [y1, if_neg (show ¬ (true = false) by decide), if_neg (show ¬ ((4 : Int) = 2) by decide), y2, if_neg (show ¬ (true = false) by decide), if_neg (show ¬ ((4 : Int) = 3) by decide), y3, if_neg (show ¬ (true = false) by decide)] at this; rw [and7 b0 e1 e2, or64 (b0 % (8 : Int)) (b1 % (64 : Int)) (by omega) (by omega) (by omega) (by omega), or64 ((b0 % (8 : Int)) * (64 : Int) + b1 % (64 : Int)) (b2 % (64 : Int)) (by omega) (by omega) (by omega) (by omega), or64 (((b0 % (8 : Int)) * (64 : Int) + b1 % (64 : Int)) * (64 : Int) + b2 % (64 : Int)) (b3 % (64 : Int)) (by omega) (by omega) (by omega) (by omega)]; exact this
        clear hE' y1 y2 y3
        go_wp2
        go_quiet (fail)
        go_wp2
        go_quiet (fail)
        go_wp2
        go_quiet (fail)
        go_wp2
        go_rounds 4
        go_quiet (fail)
        go_wp2
        go_ret2
        exact ⟨ret_two hZ.out.symm, by repeat (first | exact hb.alloc hbs _ | refine below_drewN ?_ _)⟩
    · have hk8 : k = 8 := by omega
      have hZ : Hid (r = (0, 0)) := by have := hN.out; rw [hk8] at this; exact this
      clear hN hk8
      go_wp2
      go_ret2
      exact ⟨ret_two hZ.out.symm, hb⟩
end Go.Proofs.YtkifndecpbphbaaDoor.utf
