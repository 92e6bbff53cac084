/- The walk of utf.next over a string: what its bytes begin with, for every string. -/
import Derived.Test.YtbajejhhmacflaaDoorRows
import Derived.Test.YtbajejhhmacflaaDoorUtfM
import Derived.WalkKit
import Derived.ProofKit
import Derived.OpenShut
import Derived.Handy
import Derived.PlainAid
import Derived.Deep.QuietTactic
import Derived.BigQuiet
import Derived.WalkLawsBesides
import Derived.WalkSpells
import Derived.Lib.Hide
import Derived.Laws.Rows
namespace Go.Proofs.YtbajejhhmacflaaDoor.utf
open Go.PlainAid Go.ChangeShapes Go.WideShapes Go.ChangeAt Go.RowKit

def formsCells : Array Value := #[.int .u8 194, .int .u8 223, .int .i64 2, .int .u8 128, .int .u8 191, .int .u8 224, .int .u8 224, .int .i64 3, .int .u8 160, .int .u8 191, .int .u8 225, .int .u8 236, .int .i64 3, .int .u8 128, .int .u8 191, .int .u8 237, .int .u8 237, .int .i64 3, .int .u8 128, .int .u8 159, .int .u8 238, .int .u8 239, .int .i64 3, .int .u8 128, .int .u8 191, .int .u8 240, .int .u8 240, .int .i64 4, .int .u8 144, .int .u8 191, .int .u8 241, .int .u8 243, .int .i64 4, .int .u8 128, .int .u8 191, .int .u8 244, .int .u8 244, .int .i64 4, .int .u8 128, .int .u8 143]

/-- The table of forms lies in its variable. -/
def Forms (w : World) : Prop := ∃ t fr, w.heap[0]? = some (.cells formsCells t fr)
theorem Forms.below {w w' : World} {B : Nat} (h : Forms w) (hb : Below B w w') (hB : 0 < B) : Forms w' := by
  obtain ⟨t, fr, h⟩ := h
  exact ⟨t, fr, (hb.block _ hB).trans h⟩
theorem Forms.size {w : World} (h : Forms w) : 0 < w.heap.size := by
  obtain ⟨t, fr, h⟩ := h
  rcases Nat.lt_or_ge 0 w.heap.size with hk | hk
  · exact hk
  · simp [Array.getElem?_eq_none hk] at h

theorem forms_info : (Tryd.prog.info? 61).map (·.size) = some formsCells.size := by kernel_rfl

/-- The k-th form is read out of the table. -/
theorem index_forms (k : Nat) (h : k < 8) : ∃ lead last size low high : Int, fcell.drop k = (lead, last, size, low, high) :: fcell.drop (k + 1) ∧ 0 ≤ lead ∧ lead ≤ 255 ∧ 0 ≤ last ∧ last ≤ 255 ∧ 2 ≤ size ∧ size ≤ 4 ∧ 0 ≤ low ∧ low ≤ 255 ∧ 0 ≤ high ∧ high ≤ 255 ∧
    ∀ w, (Instr.index 61 (.agg formsCells) (.int .i64 k)).run Tryd.prog w = .ok (.agg #[.int .u8 lead, .int .u8 last, .int .i64 size, .int .u8 low, .int .u8 high]) w := by
  match k, h with
  | 0, _ => exact ⟨194, 223, 2, 128, 191, rfl, by decide, by decide, by decide, by decide, by decide, by decide, by decide, by decide, by decide, by decide, fun _ => by kernel_rfl⟩
  | 1, _ => exact ⟨224, 224, 3, 160, 191, rfl, by decide, by decide, by decide, by decide, by decide, by decide, by decide, by decide, by decide, by decide, fun _ => by kernel_rfl⟩
  | 2, _ => exact ⟨225, 236, 3, 128, 191, rfl, by decide, by decide, by decide, by decide, by decide, by decide, by decide, by decide, by decide, by decide, fun _ => by kernel_rfl⟩
  | 3, _ => exact ⟨237, 237, 3, 128, 159, rfl, by decide, by decide, by decide, by decide, by decide, by decide, by decide, by decide, by decide, by decide, fun _ => by kernel_rfl⟩
  | 4, _ => exact ⟨238, 239, 3, 128, 191, rfl, by decide, by decide, by decide, by decide, by decide, by decide, by decide, by decide, by decide, by decide, fun _ => by kernel_rfl⟩
  | 5, _ => exact ⟨240, 240, 4, 144, 191, rfl, by decide, by decide, by decide, by decide, by decide, by decide, by decide, by decide, by decide, by decide, fun _ => by kernel_rfl⟩
  | 6, _ => exact ⟨241, 243, 4, 128, 191, rfl, by decide, by decide, by decide, by decide, by decide, by decide, by decide, by decide, by decide, by decide, fun _ => by kernel_rfl⟩
  | 7, _ => exact ⟨244, 244, 4, 128, 143, rfl, by decide, by decide, by decide, by decide, by decide, by decide, by decide, by decide, by decide, by decide, fun _ => by kernel_rfl⟩

theorem ret_two {a a' b b' : Int} (h : (a, b) = (a', b')) : Ending.returned (.tuple #[.int .i32 a, .int .i64 b]) = .returned (.tuple #[.int .i32 a', .int .i64 b']) := by
  cases h; rfl

/-- What a string begins with. -/
def NX (s : ByteArray) : Int × Int := nx s.size (bt s 0) (bt s 1) (bt s 2) (bt s 3)

theorem nextS_empty (s : ByteArray) (w : World) (hs : s.size = 0) :
    Calls Tryd.prog 32 #[.string s] w fun e w' => e = .returned (.tuple #[.int .i32 0, .int .i64 0]) ∧ w = w' := by
  have h0 : ((s.size : Int) == 0) = true := by simp [hs]
  clear hs
  go_enter Tryd.func32, Tryd.ntmps32
  go_wp2
  go_ret2
  exact ⟨rfl, rfl⟩

theorem nextS_ascii (s : ByteArray) (w : World) (hs : 0 < s.size) (hm : s.size ≤ maxLen) (h : (s[0].toNat : Int) < 128) :
    Calls Tryd.prog 32 #[.string s] w fun e w' => e = .returned (.tuple #[.int .i32 s[0].toNat, .int .i64 1]) ∧ w = w' := by
  unfold maxLen at hm
  have h0 : ((s.size : Int) == 0) = false := beq_eq_false_iff_ne.2 (by omega)
  go_enter Tryd.func32, Tryd.ntmps32
  go_wp2
  go_ret2
  exact ⟨rfl, rfl⟩

set_option maxHeartbeats 4000000 in
theorem nextS_rest (s : ByteArray) (w : World) (hs : 0 < s.size) (hm : s.size ≤ maxLen) (h : ¬ (s[0].toNat : Int) < 128) (hF : Forms w) :
    Calls Tryd.prog 32 #[.string s] w fun e w' => e = .returned (.tuple #[.int .i32 (NX s).1, .int .i64 (NX s).2]) ∧ Below w.heap.size w w' := by
  unfold maxLen at hm
  have h0 : ((s.size : Int) == 0) = false := beq_eq_false_iff_ne.2 (by omega)
  have hNX : Hid (NX s = scan s.size (s[0].toNat : Int) (bt s 1) (bt s 2) (bt s 3) (fcell.drop 0)) := by
    show NX s = _
    unfold NX nx
    rw [← get_bt s 0 hs, if_neg (by omega), if_neg h]; rfl
  obtain ⟨t, fr, hg⟩ := hF
  go_enter Tryd.func32, Tryd.ntmps32
  go_wp2_with (refine wpList_load_row rfl 61 _ rfl 0 rfl t _ fr _ hg Tryd.underlying61 rfl forms_info ?_)
  go_loopw [18] (fun i wr => ∃ k : Nat, k ≤ 8 ∧ i = .int .i64 k ∧ Hid (NX s = scan s.size (s[0].toNat : Int) (bt s 1) (bt s 2) (bt s 3) (fcell.drop k)) ∧ Below w.heap.size w wr) (fun i _ => 8 - (intOf i).toNat)
  case atStart => exact ⟨0, by omega, rfl, hNX, Below.refl _ _⟩
  case round =>
    clear hNX
    obtain ⟨k, hk, rfl, hN, hb⟩ := hrel
    have hbs := hb.size
    by_cases hlt : k < 8
    · obtain ⟨lead, last, size, low, high, hd, b1, b2, b3, b4, b5, b6, b7, b8, b9, b10, hi⟩ := index_forms k hlt
      have hN' : Hid (NX s = if (s[0].toNat : Int) < lead then scan s.size (s[0].toNat : Int) (bt s 1) (bt s 2) (bt s 3) (fcell.drop (k + 1)) else if last < (s[0].toNat : Int) then scan s.size (s[0].toNat : Int) (bt s 1) (bt s 2) (bt s 3) (fcell.drop (k + 1)) else body s.size (s[0].toNat : Int) (bt s 1) (bt s 2) (bt s 3) size low high) := by
        have := hN.out; rw [hd] at this; exact this
      clear hN hd
      obtain ⟨e1, e2⟩ : 0 ≤ (s[0].toNat : Int) ∧ (s[0].toNat : Int) ≤ 255 := by have := s[0].toNat_lt; omega
      by_cases c1 : (s[0].toNat : Int) < lead
      · have d1 : decide ((s[0].toNat : Int) < lead) = true := by simpa using c1
        have hE : Hid (NX s = scan s.size (s[0].toNat : Int) (bt s 1) (bt s 2) (bt s 3) (fcell.drop (k + 1))) := by have := hN'.out; rw [if_pos c1] at this; exact this
        clear hN'
        go_wp2
        go_quiet (fail)
        go_wp2
        go_roundw
        case rel => exact ⟨k + 1, by omega, by go_num, hE, by repeat (first | exact hb.alloc hbs _ | refine below_drewN ?_ _)⟩
        case measure => simp [intOf]; omega
      have d1 : decide ((s[0].toNat : Int) < lead) = false := by simpa using c1
      by_cases c2 : last < (s[0].toNat : Int)
      · have d2 : decide (last < (s[0].toNat : Int)) = true := by simpa using c2
        have hE : Hid (NX s = scan s.size (s[0].toNat : Int) (bt s 1) (bt s 2) (bt s 3) (fcell.drop (k + 1))) := by have := hN'.out; rw [if_neg c1, if_pos c2] at this; exact this
        clear hN'
        go_wp2
        go_quiet (fail)
        go_wp2
        go_roundw
        case rel => exact ⟨k + 1, by omega, by go_num, hE, by repeat (first | exact hb.alloc hbs _ | refine below_drewN ?_ _)⟩
        case measure => simp [intOf]; omega
      have d2 : decide (last < (s[0].toNat : Int)) = false := by simpa using c2
      have hE : Hid (NX s = body s.size (s[0].toNat : Int) (bt s 1) (bt s 2) (bt s 3) size low high) := by have := hN'.out; rw [if_neg c1, if_neg c2] at this; exact this
      clear hN'
      by_cases c3 : (s.size : Int) < size
      · have d3 : decide ((s.size : Int) < size) = true := by simpa using c3
        have hZ : Hid (NX s = (0, 0)) := by have := hE.out; unfold body at this; rw [if_pos c3] at this; exact this
        clear hE
        go_wp2
        go_quiet (fail)
        go_wp2
        go_quiet (fail)
        go_wp2
        go_ret2
        exact ⟨ret_two hZ.out.symm, by repeat (first | exact hb.alloc hbs _ | refine below_drewN ?_ _)⟩
      have d3 : decide ((s.size : Int) < size) = false := by simpa using c3
      have hs1 : 1 < s.size := by omega
      have hs1' : (1 : Int) < (s.size : Int) := by omega
      obtain ⟨e3, e4⟩ : 0 ≤ (s[1].toNat : Int) ∧ (s[1].toNat : Int) ≤ 255 := by have := s[1].toNat_lt; omega
      rw [← get_bt s 1 hs1] at hE
      by_cases c4 : (s[1].toNat : Int) < low
      · have d4 : decide ((s[1].toNat : Int) < low) = true := by simpa using c4
        have hZ : Hid (NX s = (0, 0)) := by have := hE.out; unfold body at this; rw [if_neg c3, if_pos c4] at this; exact this
        clear hE
        go_wp2
        go_quiet (fail)
        go_wp2
        go_quiet (fail)
        go_wp2
        go_ret2
        exact ⟨ret_two hZ.out.symm, by repeat (first | exact hb.alloc hbs _ | refine below_drewN ?_ _)⟩
      have d4 : decide ((s[1].toNat : Int) < low) = false := by simpa using c4
      by_cases c5 : high < (s[1].toNat : Int)
      · have d5 : decide (high < (s[1].toNat : Int)) = true := by simpa using c5
        have hZ : Hid (NX s = (0, 0)) := by have := hE.out; unfold body at this; rw [if_neg c3, if_neg c4, if_pos c5] at this; exact this
        clear hE
        go_wp2
        go_quiet (fail)
        go_wp2
        go_quiet (fail)
        go_wp2
        go_ret2
        exact ⟨ret_two hZ.out.symm, by repeat (first | exact hb.alloc hbs _ | refine below_drewN ?_ _)⟩
      have d5 : decide (high < (s[1].toNat : Int)) = false := by simpa using c5
      have hE' : Hid (NX s = if cont (s[1].toNat : Int) = false then ((0 : Int), (0 : Int)) else if size = 2 then ((s[0].toNat : Int) % (32 : Int) * (64 : Int) + (s[1].toNat : Int) % (64 : Int), 2) else
          if cont (bt s 2) = false then (0, 0) else if size = 3 then (((s[0].toNat : Int) % (16 : Int) * (64 : Int) + (s[1].toNat : Int) % (64 : Int)) * 64 + bt s 2 % 64, 3) else
          if cont (bt s 3) = false then (0, 0) else ((((s[0].toNat : Int) % (8 : Int) * (64 : Int) + (s[1].toNat : Int) % (64 : Int)) * 64 + bt s 2 % 64) * 64 + bt s 3 % 64, 4)) := by
        have := hE.out; unfold body at this; rw [if_neg c3, if_neg c4, if_neg c5] at this; exact this
      clear hE
      have a1 := and192 (s[1].toNat : Int) e3 e4
      obtain hz | hz | hz : size = 2 ∨ size = 3 ∨ size = 4 := by omega
      · subst hz
        by_cases y1 : cont (s[1].toNat : Int) = false
        · rw [y1] at a1
          have x1 : (bits BinOp.and IntKind.u8 (s[1].toNat : Int) 192 != 128) = true := a1
          have hZ : Hid (NX s = (0, 0)) := by have := hE'.out; rw [if_pos y1] at this; exact this
          clear hE' a1 y1
          go_wp2
          go_quiet (fail)
          go_wp2
          go_quiet (fail)
          go_wp2
          go_quiet (fail)
          go_wp2
          go_rounds 1
          go_ret2
          exact ⟨ret_two hZ.out.symm, by repeat (first | exact hb.alloc hbs _ | refine below_drewN ?_ _)⟩
        have y1 : cont (s[1].toNat : Int) = true := by simpa using y1
        rw [y1] at a1
        have x1 : (bits BinOp.and IntKind.u8 (s[1].toNat : Int) 192 != 128) = false := a1
        clear a1
        have hZ : Hid (NX s = (bits .or .i32 (wrap32 ((bits .and .i32 (s[0].toNat : Int) 31) * 64)) ((s[1].toNat : Int) % (64 : Int)), 2)) := by
          have := hE'.out; rw [y1, if_neg (show ¬ (true = false) by decide), if_pos rfl] at this; rw [and31 (s[0].toNat : Int) e1 e2, or64 ((s[0].toNat : Int) % (32 : Int)) ((s[1].toNat : Int) % (64 : Int)) (by omega) (by omega) (by omega) (by omega)]; exact this
        clear hE' y1
        go_wp2
        go_quiet (fail)
        go_wp2
        go_quiet (fail)
        go_wp2
        go_quiet (fail)
        go_wp2
        go_rounds 2
        go_quiet (fail)
        go_wp2
        go_ret2
        exact ⟨ret_two hZ.out.symm, by repeat (first | exact hb.alloc hbs _ | refine below_drewN ?_ _)⟩
      · subst hz
        have hs2 : 2 < s.size := by omega
        have hs2' : (2 : Int) < (s.size : Int) := by omega
        obtain ⟨g2, k2⟩ : 0 ≤ (s[2].toNat : Int) ∧ (s[2].toNat : Int) ≤ 255 := by have := s[2].toNat_lt; omega
        rw [← get_bt s 2 hs2] at hE'
        have a2 := and192 (s[2].toNat : Int) g2 k2
        by_cases y1 : cont (s[1].toNat : Int) = false
        · rw [y1] at a1
          have x1 : (bits BinOp.and IntKind.u8 (s[1].toNat : Int) 192 != 128) = true := a1
          have hZ : Hid (NX s = (0, 0)) := by have := hE'.out; rw [if_pos y1] at this; exact this
          clear hE' a1 y1
          go_wp2
          go_quiet (fail)
          go_wp2
          go_quiet (fail)
          go_wp2
          go_quiet (fail)
          go_wp2
          go_rounds 1
          go_ret2
          exact ⟨ret_two hZ.out.symm, by repeat (first | exact hb.alloc hbs _ | refine below_drewN ?_ _)⟩
        have y1 : cont (s[1].toNat : Int) = true := by simpa using y1
        rw [y1] at a1
        have x1 : (bits BinOp.and IntKind.u8 (s[1].toNat : Int) 192 != 128) = false := a1
        clear a1
        by_cases y2 : cont (s[2].toNat : Int) = false
        · rw [y2] at a2
          have x2 : (bits BinOp.and IntKind.u8 (s[2].toNat : Int) 192 != 128) = true := a2
          have hZ : Hid (NX s = (0, 0)) := by have := hE'.out; rw [y1, if_neg (show ¬ (true = false) by decide), if_neg (show ¬ ((3 : Int) = 2) by decide), if_pos y2] at this; exact this
          clear hE' a2 y2
          go_wp2
          go_quiet (fail)
          go_wp2
          go_quiet (fail)
          go_wp2
          go_quiet (fail)
          go_wp2
          go_rounds 2
          go_ret2
          exact ⟨ret_two hZ.out.symm, by repeat (first | exact hb.alloc hbs _ | refine below_drewN ?_ _)⟩
        have y2 : cont (s[2].toNat : Int) = true := by simpa using y2
        rw [y2] at a2
        have x2 : (bits BinOp.and IntKind.u8 (s[2].toNat : Int) 192 != 128) = false := a2
        clear a2
        have hZ : Hid (NX s = (bits .or .i32 (wrap32 ((bits .or .i32 (wrap32 ((bits .and .i32 (s[0].toNat : Int) 15) * 64)) ((s[1].toNat : Int) % (64 : Int))) * 64)) ((s[2].toNat : Int) % (64 : Int)), 3)) := by
          have := hE'.out; rw [y1, if_neg (show ¬ (true = false) by decide), if_neg (show ¬ ((3 : Int) = 2) by decide), y2, if_neg (show ¬ (true = false) by decide), if_pos rfl] at this; rw [and15 (s[0].toNat : Int) e1 e2, or64 ((s[0].toNat : Int) % (16 : Int)) ((s[1].toNat : Int) % (64 : Int)) (by omega) (by omega) (by omega) (by omega), or64 (((s[0].toNat : Int) % (16 : Int)) * (64 : Int) + (s[1].toNat : Int) % (64 : Int)) ((s[2].toNat : Int) % (64 : Int)) (by omega) (by omega) (by omega) (by omega)]; exact this
        clear hE' y1 y2
        go_wp2
        go_quiet (fail)
        go_wp2
        go_quiet (fail)
        go_wp2
        go_quiet (fail)
        go_wp2
        go_rounds 3
        go_quiet (fail)
        go_wp2
        go_ret2
        exact ⟨ret_two hZ.out.symm, by repeat (first | exact hb.alloc hbs _ | refine below_drewN ?_ _)⟩
      · subst hz
        have hs2 : 2 < s.size := by omega
        have hs2' : (2 : Int) < (s.size : Int) := by omega
        obtain ⟨g2, k2⟩ : 0 ≤ (s[2].toNat : Int) ∧ (s[2].toNat : Int) ≤ 255 := by have := s[2].toNat_lt; omega
        rw [← get_bt s 2 hs2] at hE'
        have a2 := and192 (s[2].toNat : Int) g2 k2
        have hs3 : 3 < s.size := by omega
        have hs3' : (3 : Int) < (s.size : Int) := by omega
        obtain ⟨g3, k3⟩ : 0 ≤ (s[3].toNat : Int) ∧ (s[3].toNat : Int) ≤ 255 := by have := s[3].toNat_lt; omega
        rw [← get_bt s 3 hs3] at hE'
        have a3 := and192 (s[3].toNat : Int) g3 k3
        by_cases y1 : cont (s[1].toNat : Int) = false
        · rw [y1] at a1
          have x1 : (bits BinOp.and IntKind.u8 (s[1].toNat : Int) 192 != 128) = true := a1
          have hZ : Hid (NX s = (0, 0)) := by have := hE'.out; rw [if_pos y1] at this; exact this
          clear hE' a1 y1
          go_wp2
          go_quiet (fail)
          go_wp2
          go_quiet (fail)
          go_wp2
          go_quiet (fail)
          go_wp2
          go_rounds 1
          go_ret2
          exact ⟨ret_two hZ.out.symm, by repeat (first | exact hb.alloc hbs _ | refine below_drewN ?_ _)⟩
        have y1 : cont (s[1].toNat : Int) = true := by simpa using y1
        rw [y1] at a1
        have x1 : (bits BinOp.and IntKind.u8 (s[1].toNat : Int) 192 != 128) = false := a1
        clear a1
        by_cases y2 : cont (s[2].toNat : Int) = false
        · rw [y2] at a2
          have x2 : (bits BinOp.and IntKind.u8 (s[2].toNat : Int) 192 != 128) = true := a2
          have hZ : Hid (NX s = (0, 0)) := by have := hE'.out; rw [y1, if_neg (show ¬ (true = false) by decide), if_neg (show ¬ ((4 : Int) = 2) by decide), if_pos y2] at this; exact this
          clear hE' a2 y2
          go_wp2
          go_quiet (fail)
          go_wp2
          go_quiet (fail)
          go_wp2
          go_quiet (fail)
          go_wp2
          go_rounds 2
          go_ret2
          exact ⟨ret_two hZ.out.symm, by repeat (first | exact hb.alloc hbs _ | refine below_drewN ?_ _)⟩
        have y2 : cont (s[2].toNat : Int) = true := by simpa using y2
        rw [y2] at a2
        have x2 : (bits BinOp.and IntKind.u8 (s[2].toNat : Int) 192 != 128) = false := a2
        clear a2
        by_cases y3 : cont (s[3].toNat : Int) = false
        · rw [y3] at a3
          have x3 : (bits BinOp.and IntKind.u8 (s[3].toNat : Int) 192 != 128) = true := a3
          have hZ : Hid (NX s = (0, 0)) := by have := hE'.out; rw [y1, if_neg (show ¬ (true = false) by decide), if_neg (show ¬ ((4 : Int) = 2) by decide), y2, if_neg (show ¬ (true = false) by decide), if_neg (show ¬ ((4 : Int) = 3) by decide), if_pos y3] at this; exact this
          clear hE' a3 y3
          go_wp2
          go_quiet (fail)
          go_wp2
          go_quiet (fail)
          go_wp2
          go_quiet (fail)
          go_wp2
          go_rounds 3
          go_ret2
          exact ⟨ret_two hZ.out.symm, by repeat (first | exact hb.alloc hbs _ | refine below_drewN ?_ _)⟩
        have y3 : cont (s[3].toNat : Int) = true := by simpa using y3
        rw [y3] at a3
        have x3 : (bits BinOp.and IntKind.u8 (s[3].toNat : Int) 192 != 128) = false := a3
        clear a3
        have hZ : Hid (NX s = (bits .or .i32 (wrap32 ((bits .or .i32 (wrap32 ((bits .or .i32 (wrap32 ((bits .and .i32 (s[0].toNat : Int) 7) * 64)) ((s[1].toNat : Int) % (64 : Int))) * 64)) ((s[2].toNat : Int) % (64 : Int))) * 64)) ((s[3].toNat : Int) % (64 : Int)), 4)) := by
          have := hE'.out; rw [y1, if_neg (show ¬ (true = false) by decide), if_neg (show ¬ ((4 : Int) = 2) by decide), y2, if_neg (show ¬ (true = false) by decide), if_neg (show ¬ ((4 : Int) = 3) by decide), y3, if_neg (show ¬ (true = false) by decide)] at this; rw [and7 (s[0].toNat : Int) e1 e2, or64 ((s[0].toNat : Int) % (8 : Int)) ((s[1].toNat : Int) % (64 : Int)) (by omega) (by omega) (by omega) (by omega), or64 (((s[0].toNat : Int) % (8 : Int)) * (64 : Int) + (s[1].toNat : Int) % (64 : Int)) ((s[2].toNat : Int) % (64 : Int)) (by omega) (by omega) (by omega) (by omega), or64 ((((s[0].toNat : Int) % (8 : Int)) * (64 : Int) + (s[1].toNat : Int) % (64 : Int)) * (64 : Int) + (s[2].toNat : Int) % (64 : Int)) ((s[3].toNat : Int) % (64 : Int)) (by omega) (by omega) (by omega) (by omega)]; exact this
        clear hE' y1 y2 y3
        go_wp2
        go_quiet (fail)
        go_wp2
        go_quiet (fail)
        go_wp2
        go_quiet (fail)
        go_wp2
        go_rounds 4
        go_quiet (fail)
        go_wp2
        go_ret2
        exact ⟨ret_two hZ.out.symm, by repeat (first | exact hb.alloc hbs _ | refine below_drewN ?_ _)⟩
    · have hk8 : k = 8 := by omega
      have hZ : Hid (NX s = (0, 0)) := by have := hN.out; rw [hk8] at this; exact this
      clear hN hk8
      go_wp2
      go_ret2
      exact ⟨ret_two hZ.out.symm, hb⟩
end Go.Proofs.YtbajejhhmacflaaDoor.utf
