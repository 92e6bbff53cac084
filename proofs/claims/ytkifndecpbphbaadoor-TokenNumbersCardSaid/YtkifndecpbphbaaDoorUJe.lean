/- Plain facts about digits of sixteen. -/
import Derived.Test.YtkifndecpbphbaaDoorUJd
import Derived.Test.YtkifndecpbphbaaDoorUJc
import Derived.Lib.AppendStr
import Derived.Test.YtkifndecpbphbaaDoorUJa
import Derived.Lib.ConvBytes
namespace Go.Proofs.YtkifndecpbphbaaDoor.utf
open Go.PlainAid Go.ChangeShapes Go.WideShapes Go.ChangeAt Go.RowKit

/-- A digit's byte. -/
def hx (g : Bool) (d : Int) : Int := if d < 10 then 48 + d else (if g then 55 else 87) + d
theorem hexv_hx (g : Bool) (d : Int) (h0 : 0 ≤ d) (h1 : d < 16) : hexv (hx g d) = d := by
  unfold hx
  by_cases h : d < 10
  · rw [if_pos h]; unfold hexv; rw [if_pos (by omega)]; omega
  · rw [if_neg h]
    cases g
    · rw [if_neg (by decide)]; unfold hexv; rw [if_neg (by omega), if_pos (by omega)]; omega
    · rw [if_pos rfl]; unfold hexv; rw [if_neg (by omega), if_neg (by omega), if_pos (by omega)]; omega
theorem hx_range (g : Bool) (d : Int) (h0 : 0 ≤ d) (h1 : d < 16) : 0 ≤ hx g d ∧ hx g d ≤ 255 := by
  unfold hx
  by_cases h : d < 10
  · rw [if_pos h]; omega
  · rw [if_neg h]
    cases g
    · rw [if_neg (by decide)]; omega
    · rw [if_pos rfl]; omega
/-- u and four digits. -/
def ub (g : Bool) (u : Int) : List Int := [117, hx g (u / 4096 % 16), hx g (u / 256 % 16), hx g (u / 16 % 16), hx g (u % 16)]
theorem ub_oct (g : Bool) (u : Int) : Oct (ub g u) := by
  intro x h
  unfold ub at h
  simp only [List.mem_cons, List.not_mem_nil, or_false] at h
  rcases h with rfl | rfl | rfl | rfl | rfl
  · omega
  all_goals exact hx_range _ _ (by omega) (by omega)
theorem dig_ub (g : Bool) (u : Int) (h0 : 0 ≤ u) (h1 : u ≤ 65535) (rest : List Int) : dig (ub g u ++ rest) = (u, true) := by
  have e1 : gl (ub g u ++ rest) 1 = hx g (u / 4096 % 16) := rfl
  have e2 : gl (ub g u ++ rest) 2 = hx g (u / 256 % 16) := rfl
  have e3 : gl (ub g u ++ rest) 3 = hx g (u / 16 % 16) := rfl
  have e4 : gl (ub g u ++ rest) 4 = hx g (u % 16) := rfl
  have v1 := hexv_hx g (u / 4096 % 16) (by omega) (by omega)
  have v2 := hexv_hx g (u / 256 % 16) (by omega) (by omega)
  have v3 := hexv_hx g (u / 16 % 16) (by omega) (by omega)
  have v4 := hexv_hx g (u % 16) (by omega) (by omega)
  have k1 : hxk (ub g u ++ rest) 1 = some (u / 4096 % 16) := by
    simp only [hxk, e1, v1, Option.bind_some]; rw [if_neg (by omega)]; congr 1; omega
  have k2 : hxk (ub g u ++ rest) 2 = some (u / 4096 % 16 * 16 + u / 256 % 16) := by
    show (hxk _ 1).bind _ = _
    simp only [k1, e2, v2, Option.bind_some]; rw [if_neg (by omega)]
  have k3 : hxk (ub g u ++ rest) 3 = some ((u / 4096 % 16 * 16 + u / 256 % 16) * 16 + u / 16 % 16) := by
    show (hxk _ 2).bind _ = _
    simp only [k2, e3, v3, Option.bind_some]; rw [if_neg (by omega)]
  have k4 : hxk (ub g u ++ rest) 4 = some u := by
    show (hxk _ 3).bind _ = _
    simp only [k3, e4, v4, Option.bind_some]; rw [if_neg (by omega)]; congr 1; omega
  have hl : (ub g u ++ rest).length = 5 + rest.length := by unfold ub; simp; omega
  have h5 : gl (ub g u ++ rest) 0 = 117 := rfl
  unfold dig
  rw [if_neg (by omega), if_neg (by rw [h5]; decide), k4]

/-- The two tables of digits. -/
def hs (g : Bool) : ByteArray := if g then ⟨#[48, 49, 50, 51, 52, 53, 54, 55, 56, 57, 65, 66, 67, 68, 69, 70]⟩ else ⟨#[48, 49, 50, 51, 52, 53, 54, 55, 56, 57, 97, 98, 99, 100, 101, 102]⟩
theorem index_hs_any (g : Bool) (d : Int) (h0 : 0 ≤ d) (h1 : d < 16) (w : World) : (Instr.index 9 (.string (hs g)) (.int .i64 d)).run Tryd.prog w = .ok (.int .u8 (hx g d)) w := by
  have hd : d = 0 ∨ d = 1 ∨ d = 2 ∨ d = 3 ∨ d = 4 ∨ d = 5 ∨ d = 6 ∨ d = 7 ∨ d = 8 ∨ d = 9 ∨ d = 10 ∨ d = 11 ∨ d = 12 ∨ d = 13 ∨ d = 14 ∨ d = 15 := by omega
  rcases hd with rfl | rfl | rfl | rfl | rfl | rfl | rfl | rfl | rfl | rfl | rfl | rfl | rfl | rfl | rfl | rfl <;> cases g <;> (clear h0 h1; show _ = _; kernel_rfl)
theorem index_false (d : Int) (h0 : 0 ≤ d) (h1 : d < 16) (w : World) : (Instr.index 9 (.string ⟨#[48, 49, 50, 51, 52, 53, 54, 55, 56, 57, 97, 98, 99, 100, 101, 102]⟩) (.int .i64 d)).run Tryd.prog w = .ok (.int .u8 (hx false d)) w := index_hs_any false d h0 h1 w
theorem index_true (d : Int) (h0 : 0 ≤ d) (h1 : d < 16) (w : World) : (Instr.index 9 (.string ⟨#[48, 49, 50, 51, 52, 53, 54, 55, 56, 57, 65, 66, 67, 68, 69, 70]⟩) (.int .i64 d)).run Tryd.prog w = .ok (.int .u8 (hx true d)) w := index_hs_any true d h0 h1 w
theorem byte_false (d : Int) (h0 : 0 ≤ d) (h1 : d < 16) (h : d.toNat < (⟨#[48, 49, 50, 51, 52, 53, 54, 55, 56, 57, 97, 98, 99, 100, 101, 102]⟩ : ByteArray).size) : (((⟨#[48, 49, 50, 51, 52, 53, 54, 55, 56, 57, 97, 98, 99, 100, 101, 102]⟩ : ByteArray)[d.toNat]'h).toNat : Int) = hx false d := by
  have hd : d = 0 ∨ d = 1 ∨ d = 2 ∨ d = 3 ∨ d = 4 ∨ d = 5 ∨ d = 6 ∨ d = 7 ∨ d = 8 ∨ d = 9 ∨ d = 10 ∨ d = 11 ∨ d = 12 ∨ d = 13 ∨ d = 14 ∨ d = 15 := by omega
  rcases hd with rfl | rfl | rfl | rfl | rfl | rfl | rfl | rfl | rfl | rfl | rfl | rfl | rfl | rfl | rfl | rfl <;> rfl
theorem byte_true (d : Int) (h0 : 0 ≤ d) (h1 : d < 16) (h : d.toNat < (⟨#[48, 49, 50, 51, 52, 53, 54, 55, 56, 57, 65, 66, 67, 68, 69, 70]⟩ : ByteArray).size) : (((⟨#[48, 49, 50, 51, 52, 53, 54, 55, 56, 57, 65, 66, 67, 68, 69, 70]⟩ : ByteArray)[d.toNat]'h).toNat : Int) = hx true d := by
  have hd : d = 0 ∨ d = 1 ∨ d = 2 ∨ d = 3 ∨ d = 4 ∨ d = 5 ∨ d = 6 ∨ d = 7 ∨ d = 8 ∨ d = 9 ∨ d = 10 ∨ d = 11 ∨ d = 12 ∨ d = 13 ∨ d = 14 ∨ d = 15 := by omega
  rcases hd with rfl | rfl | rfl | rfl | rfl | rfl | rfl | rfl | rfl | rfl | rfl | rfl | rfl | rfl | rfl | rfl <;> rfl
end Go.Proofs.YtkifndecpbphbaaDoor.utf
/- WriteString behind whatever was written. -/
namespace Go.Proofs.YtkifndecpbphbaaDoor.utf
open Go.PlainAid Go.ChangeShapes Go.WideShapes Go.ChangeAt Go.RowKit

set_option maxHeartbeats 1000000 in
set_option maxRecDepth 100000 in
theorem WriteString_any (B b : Nat) (bs : List Value) (s : ByteArray) (hs0 : 0 < s.size) (w : World) (h : Lib.BuilderAt 45 5 B b (.pointer (some ⟨b, 0, none⟩)) bs w) (hlen : bs.length + s.size ≤ 140737488355328) (hBw : B ≤ w.heap.size) :
    Calls Tryd.prog 16 #[.pointer (some ⟨b, 0, none⟩), .string s] w fun e w' => e = .returned (.tuple #[.int .i64 s.size, .nilIface]) ∧ (Lib.BuilderAt 45 5 B b (.pointer (some ⟨b, 0, none⟩)) (bs ++ Lib.strCells s) w' ∧ Below B w w') := by
  obtain ⟨i0, hi, hz0, hz1, hz2⟩ := info_parts infoByte
  have k0 := h.cell0
  obtain ⟨hB, v, hbk, hown, hne⟩ := h
  have c1 : w.cell? ⟨b, 1, none⟩ = some v := by rw [Lib.cell_of_heap hbk]; rfl
  go_enter Tryd.func16, Tryd.ntmps16
  go_wp2_with (go_at_call 24; refine (copyCheck_used b _ k0).mono ?_)
  rintro e w1 ⟨rfl, rfl⟩
  go_wp2_with (at_builtin; refine Lib.wpList_append_own_string _ rfl _ _ 33 9 rfl B 5 i0 Tryd.underlying33 Tryd.underlying9 hi hz0 hz1 hz2 _ _ _ rfl hown s rfl ?c3 ?c4 ?c5 ?_)
  case c3 => unfold maxLen; omega
  case c4 => omega
  case c5 => omega
  intro v' w2 hown' hgrow _
  have hlt : b < w.heap.size := by
    rcases Nat.lt_or_ge b w.heap.size with h' | h'
    · exact h'
    · simp [Array.getElem?_eq_none h'] at hbk
  have hb2 : w2.heap[b]? = some (.cells #[.pointer (some ⟨b, 0, none⟩), v] 45 (0, 0)) := by
    rw [hgrow.block b (by omega) (fun e => hne e.symm)]
    exact hbk
  have d0 : w2.cell? ⟨b, 0, none⟩ = some (.pointer (some ⟨b, 0, none⟩)) := by rw [Lib.cell_of_heap hb2]; rfl
  have d1 : w2.cell? ⟨b, 1, none⟩ = some v := by rw [Lib.cell_of_heap hb2]; rfl
  have f1 : w2.frozen? ⟨b, 1, none⟩ = false := Lib.frozen_of_heap hb2 1
  obtain ⟨g, cap, rfl⟩ : ∃ g cap, v' = .slice (some ⟨g, 0, none⟩) (bs.length + s.size) cap := by
    rcases hown'.2 with ⟨_, h0⟩ | ⟨g, cap, cur, hv, _⟩
    · omega
    · exact ⟨g, cap, hv⟩
  go_wp2
  go_ret2
  have hl : (bs ++ Lib.strCells s).length = bs.length + s.size := by rw [List.length_append, Lib.strCells_length]
  refine ⟨rfl, ?_, ?_⟩
  · exact Lib.BuilderAt.put (T := 45) (e := 5) hB hb2 (bs' := bs ++ Lib.strCells s) (by rw [hl]; exact hown') (by decide)
  · exact (((Below.refl B w).grown hgrow hBw (fun k hk => (hown.lt k hk).1))).setCell (p := ⟨b, 1, none⟩) hB _
end Go.Proofs.YtkifndecpbphbaaDoor.utf
/- The contract of Quote. -/
namespace Go.Proofs.YtkifndecpbphbaaDoor.utf
open Go.PlainAid Go.ChangeShapes Go.WideShapes Go.ChangeAt Go.RowKit

/-- A byte in signs. -/
def qb (c : Int) : List Int := if c = 34 ∨ c = 92 then [92, c] else if 32 ≤ c then [c] else if letter c ≠ 0 then [92, letter c] else [92, 117, 48, 48, 48 + c / 16, hx false (c % 16)]
def qs (l : List Int) : List Int := l.flatMap qb
theorem qs_drop {l : List Int} {k : Nat} (h : k < l.length) : qs (l.drop k) = qb (gl l k) ++ qs (l.drop (k + 1)) := by
  rw [List.drop_eq_getElem_cons h]
  have e1 : gl l k = l[k] := by unfold gl; rw [List.getD_eq_getElem?_getD, List.getElem?_eq_getElem h]; rfl
  rw [e1]
  rfl
theorem letter_is (c : Int) : letter c = 0 ∨ (c = 8 ∧ letter c = 98) ∨ (c = 9 ∧ letter c = 116) ∨ (c = 10 ∧ letter c = 110) ∨ (c = 12 ∧ letter c = 102) ∨ (c = 13 ∧ letter c = 114) := by
  unfold letter
  split
  · exact .inr (.inl ⟨by assumption, rfl⟩)
  split
  · exact .inr (.inr (.inl ⟨by assumption, rfl⟩))
  split
  · exact .inr (.inr (.inr (.inl ⟨by assumption, rfl⟩)))
  split
  · exact .inr (.inr (.inr (.inr (.inl ⟨by assumption, rfl⟩))))
  split
  · exact .inr (.inr (.inr (.inr (.inr ⟨by assumption, rfl⟩))))
  · exact .inl rfl
theorem qb_oct {c : Int} (h0 : 0 ≤ c) (h1 : c ≤ 255) : Oct (qb c) := by
  have hl := letter_is c
  have hh := hx_range false (c % 16) (by omega) (by omega)
  intro x h
  unfold qb at h
  split at h
  · simp only [List.mem_cons, List.not_mem_nil, or_false] at h; omega
  split at h
  · simp only [List.mem_cons, List.not_mem_nil, or_false] at h; omega
  split at h
  · simp only [List.mem_cons, List.not_mem_nil, or_false] at h; omega
  · simp only [List.mem_cons, List.not_mem_nil, or_false] at h; omega
theorem qb_len (c : Int) : 1 ≤ (qb c).length ∧ (qb c).length ≤ 6 := by
  unfold qb
  split
  · exact ⟨by simp, by simp⟩
  split
  · exact ⟨by simp, by simp⟩
  split
  · exact ⟨by simp, by simp⟩
  · exact ⟨by simp, by simp⟩

theorem qs_oct {l : List Int} (h : Oct l) : Oct (qs l) := by
  intro x hx
  obtain ⟨c, hc, hx⟩ := List.mem_flatMap.1 hx
  exact qb_oct (h c hc).1 (h c hc).2 x hx
theorem hex_at (y : Int) (h0 : 0 ≤ y) (h1 : y < 16) (p : y.toNat < (⟨#[48, 49, 50, 51, 52, 53, 54, 55, 56, 57, 97, 98, 99, 100, 101, 102]⟩ : ByteArray).size) : ((((⟨#[48, 49, 50, 51, 52, 53, 54, 55, 56, 57, 97, 98, 99, 100, 101, 102]⟩ : ByteArray)[y.toNat]'p).toNat : Nat) : Int) = hx false y := by
  obtain ⟨n, rfl⟩ := Int.eq_ofNat_of_zero_le h0
  have hn : n < 16 := by omega
  simp only [Int.toNat_natCast]
  match n, hn with
  | 0, _ => rfl
  | 1, _ => rfl
  | 2, _ => rfl
  | 3, _ => rfl
  | 4, _ => rfl
  | 5, _ => rfl
  | 6, _ => rfl
  | 7, _ => rfl
  | 8, _ => rfl
  | 9, _ => rfl
  | 10, _ => rfl
  | 11, _ => rfl
  | 12, _ => rfl
  | 13, _ => rfl
  | 14, _ => rfl
  | 15, _ => rfl
  | k + 16, h => omega
def octs (l : List Int) : List UInt8 := l.map fun n => UInt8.ofNat n.toNat
theorem octs_cells {l : List Int} (h : Oct l) : bcells l = Lib.byteCells (octs l) := by
  unfold bcells Lib.byteCells octs
  rw [List.map_map]
  apply List.map_congr_left
  intro x hx
  have := h x hx
  simp only [Function.comp]
  congr 1
  show x = ((x.toNat % 256 : Nat) : Int)
  omega
theorem strOf_arr (l : List Int) : (⟨(octs l).toArray⟩ : ByteArray) = strOf l := by
  have h := strOf_data l
  apply ByteArray.ext
  apply Array.ext'
  rw [h]
  rfl
theorem puts_q {B b : Nat} {xs : List Int} {W : World} (h : Lib.BuilderAt 45 5 B b (.pointer (some ⟨b, 0, none⟩)) (bcells xs) W) (hx : xs.length ≤ 100000) (hB : B ≤ W.heap.size) :
    Calls Tryd.prog 16 #[.pointer (some ⟨b, 0, none⟩), .string ⟨#[92, 117, 48, 48]⟩] W fun e w' => e = .returned (.tuple #[.int .i64 4, .nilIface]) ∧ (Lib.BuilderAt 45 5 B b (.pointer (some ⟨b, 0, none⟩)) (bcells (xs ++ [92, 117, 48, 48])) w' ∧ Below B W w') := by
  have := WriteString_any B b (bcells xs) ⟨#[92, 117, 48, 48]⟩ (by decide) W h (by rw [bcells_length]; show xs.length + 4 ≤ _; omega) hB
  rw [show bcells xs ++ Lib.strCells ⟨#[92, 117, 48, 48]⟩ = bcells (xs ++ [92, 117, 48, 48]) by rw [bcells_append]; rfl] at this
  exact this
theorem put_q {B b : Nat} {xs : List Int} {W : World} (h : Lib.BuilderAt 45 5 B b (.pointer (some ⟨b, 0, none⟩)) (bcells xs) W) (hx : xs.length ≤ 100000) (c : Int) (hB : B ≤ W.heap.size) :
    Calls Tryd.prog 15 #[.pointer (some ⟨b, 0, none⟩), .int .u8 c] W fun e w' => e = .returned .nilIface ∧ (Lib.BuilderAt 45 5 B b (.pointer (some ⟨b, 0, none⟩)) (bcells (xs ++ [c])) w' ∧ Below B W w') := by
  have := WriteByte_any B b (bcells xs) c W h (by rw [bcells_length]; omega) hB
  rw [show bcells xs ++ [.int .u8 c] = bcells (xs ++ [c]) by rw [bcells_append]; rfl] at this
  exact this

set_option maxHeartbeats 2000000 in
set_option maxRecDepth 100000 in
theorem Quote_any (s : ByteArray) (w : World) (hs : s.size ≤ 1000) :
    Calls Tryd.prog 18 #[.string s] w fun e w' => e = .returned (.string (strOf (34 :: (qs (ints s) ++ [34])))) ∧ Below w.heap.size w w' := by
  have hbk : (w.alloc (.cells #[.pointer none, .slice none 0 0] 45)).heap[w.heap.size]? = some (.cells #[.pointer none, .slice none 0 0] 45 (0, 0)) := heap_alloc_new w _
  have hgrow := (Tryd.Builder_Grow_fresh w.heap.size w.heap.size (s.size + 2) _ (Nat.le_refl _) hbk (by simp) (by omega))
  rw [show ((s.size + 2 : Nat) : Int) = (s.size : Int) + 2 by omega] at hgrow
  have HG := Lib.hid hgrow
  clear hgrow
  have hb0 : Below w.heap.size w (w.alloc (.cells #[.pointer none, .slice none 0 0] 45)) := (Below.refl _ _).alloc (Nat.le_refl _) _
  clear hbk
  obtain ⟨Q, hQ⟩ : ∃ Q, Q = 34 :: (qs (ints s) ++ [34]) := ⟨_, rfl⟩
  have HQ : Hid (Q = [34] ++ (qs ((ints s).drop 0) ++ [34])) := hQ
  have HO : Hid (Oct Q) := by
    have h1 := qs_oct (ints_oct s)
    rw [hQ]
    intro x hx
    simp only [List.mem_cons, List.mem_append, List.not_mem_nil, or_false] at hx
    rcases hx with rfl | hx | rfl
    · omega
    · exact h1 x hx
    · omega
  rw [← hQ]
  clear hQ
  go_enter Tryd.func18, Tryd.ntmps18
  go_wp2_with (go_at_call 32; refine HG.out.mono ?_; rintro e w1 ⟨rfl, hB1, hb1⟩)
  have z1 := hb1.size
  simp at z1
  refine (put_q (xs := []) (b := w.heap.size) (B := w.heap.size) hB1 (by simp) 34 (by omega)).mono ?_
  rintro e w2 ⟨rfl, hB2, hb2⟩
  have z2 := hb2.size
  go_wp2
  have HB := Lib.hid ((hb0.trans hb1).trans hb2)
  have HB2 := Lib.hid hB2
  clear hb0 hb1 hb2 hB1 HG hB2
  go_loopw [4] (fun i wr => ∃ (k : Nat) (xs : List Int), i = .int .i64 k ∧ k ≤ s.size ∧ xs.length ≤ 1 + 6 * k ∧ Hid (Q = xs ++ (qs ((ints s).drop k) ++ [34])) ∧ Hid (Lib.BuilderAt 45 5 w.heap.size w.heap.size (.pointer (some ⟨w.heap.size, 0, none⟩)) (bcells xs) wr) ∧ Below w.heap.size w wr) (fun i _ => s.size - (intOf i).toNat)
  case atStart => exact ⟨0, [34], rfl, Nat.zero_le _, by simp, HQ, HB2.out, HB.out⟩
  case round =>
    clear HQ HB2 HB
    obtain ⟨k, xs, rfl, hk, hxl, hN, hBd, hb⟩ := hrel
    have hbs := hb.size
    by_cases hkl : k < s.size
    · have hd : decide ((k : Int) < s.size) = true := decide_eq_true (by omega)
      obtain ⟨x, hxv⟩ : ∃ x, ((s[k].toNat : Nat) : Int) = x := ⟨_, rfl⟩
      have hgx : gl (ints s) k = x := by rw [ints_gl, ← get_bt s k hkl]; exact hxv
      have hx0 : 0 ≤ x := by omega
      have hx1 : x ≤ 255 := by have := s[k].toNat_lt; omega
      have hq := hN.out
      rw [qs_drop (by rw [ints_length]; exact hkl), hgx] at hq
      clear hN hgx
      by_cases hA : x = 34 ∨ x = 92
      · have hq' : Hid (Q = xs ++ [92] ++ [x] ++ (qs ((ints s).drop (k + 1)) ++ [34])) := by
          rw [hq, show qb x = [92, x] from if_pos hA]; simp only [List.append_assoc, List.cons_append, List.nil_append]; trivial
        clear hq
        have hxor : (x == 34) = true ∨ ((x == 34) = false ∧ (x == 92) = true) := by
          rcases hA with rfl | rfl
          · exact .inl rfl
          · exact .inr ⟨rfl, rfl⟩
        clear hA
        rcases hxor with x34 | ⟨x34, x92⟩
        all_goals
          go_wp2_with (first | (go_at_call 15; with_reducible refine (put_q hBd.out (by omega) 92 (by omega)).mono ?_; rintro e w3 ⟨rfl, hB3, hb3⟩; have z3 := hb3.size; have hB3' := Lib.hid hB3; clear hB3))
          refine (put_q hB3'.out (by simp; omega) x (by omega)).mono ?_
          rintro e w4 ⟨rfl, hB4, hb4⟩
          go_wp2
          constructor
          · exact ⟨k + 1, xs ++ [92] ++ [x], by go_num, by omega, by simp; omega, hq', hB4, (hb.trans hb3).trans hb4⟩
          · simp [intOf]; omega
      by_cases hB : 32 ≤ x
      · have hq' : Hid (Q = xs ++ [x] ++ (qs ((ints s).drop (k + 1)) ++ [34])) := by
          rw [hq, show qb x = [x] by unfold qb; rw [if_neg hA, if_pos hB]]; simp only [List.append_assoc]; trivial
        have x34 : (x == 34) = false := beq_eq_false_iff_ne.2 (by omega)
        have x92 : (x == 92) = false := beq_eq_false_iff_ne.2 (by omega)
        have x32 : decide (32 ≤ x) = true := decide_eq_true hB
        clear hq hA
        go_wp2_with (first | (go_at_call 15; with_reducible refine (put_q hBd.out (by omega) x (by omega)).mono ?_; rintro e w3 ⟨rfl, hB3, hb3⟩))
        constructor
        · exact ⟨k + 1, xs ++ [x], by go_num, by omega, by simp; omega, hq', hB3, hb.trans hb3⟩
        · simp [intOf]; omega
      by_cases hC : letter x = 0
      · have e1 : qb x = [92, 117, 48, 48, 48 + x / 16, hx false (x % 16)] := by unfold qb; rw [if_neg hA, if_neg hB, if_neg (by simp [hC])]
        have hq' : Hid (Q = xs ++ [92, 117, 48, 48] ++ [48 + x / 16] ++ [hx false (x % 16)] ++ (qs ((ints s).drop (k + 1)) ++ [34])) := by
          rw [hq, e1]; simp only [List.append_assoc, List.cons_append, List.nil_append]; trivial
        clear hq e1
        have x34 : (x == 34) = false := beq_eq_false_iff_ne.2 (by omega)
        have x92 : (x == 92) = false := beq_eq_false_iff_ne.2 (by omega)
        have x32 : decide (32 ≤ x) = false := decide_eq_false hB
        have HL := letterOf_any x
        rw [hC] at HL
        have HLL := Lib.hid HL
        clear hA hB hC HL
        go_wp2_with (first | (go_at_call 33; with_reducible refine (HLL.out _).mono ?_; rintro e w' ⟨rfl, rfl⟩))
        refine (puts_q hBd.out (by omega) (by omega)).mono ?_
        rintro e w3 ⟨rfl, hB3, hb3⟩
        have z3 := hb3.size
        go_wp2_with fail
        refine (put_q hB3 (by simp; omega) (48 + x / 16) (by omega)).mono ?_
        rintro e w4 ⟨rfl, hB4, hb4⟩
        have z4 := hb4.size
        go_wp2_with fail
        rw [hex_at (x % 16) (by omega) (by omega)]
        refine (put_q hB4 (by simp; omega) (hx false (x % 16)) (by omega)).mono ?_
        rintro e w5 ⟨rfl, hB5, hb5⟩
        go_wp2
        constructor
        · exact ⟨k + 1, xs ++ [92, 117, 48, 48] ++ [48 + x / 16] ++ [hx false (x % 16)], by go_num, by omega, by simp; omega, hq', hB5, ((hb.trans hb3).trans hb4).trans hb5⟩
        · simp [intOf]; omega
      · have hq' : Hid (Q = xs ++ [92] ++ [letter x] ++ (qs ((ints s).drop (k + 1)) ++ [34])) := by
          rw [hq, show qb x = [92, letter x] by unfold qb; rw [if_neg hA, if_neg hB, if_pos hC]]; simp only [List.append_assoc, List.cons_append, List.nil_append]; trivial
        have x34 : (x == 34) = false := beq_eq_false_iff_ne.2 (by omega)
        have x92 : (x == 92) = false := beq_eq_false_iff_ne.2 (by omega)
        have x32 : decide (32 ≤ x) = false := decide_eq_false hB
        have HLL := Lib.hid (letterOf_any x)
        have yn : (letter x != 0) = true := by simpa using hC
        generalize letter x = y at HLL yn hq'
        clear hA hB hC hq
        go_wp2_with (first | (go_at_call 33; with_reducible refine (HLL.out _).mono ?_; rintro e w' ⟨rfl, rfl⟩) | (go_at_call 15; with_reducible refine (put_q hBd.out (by omega) 92 (by omega)).mono ?_; rintro e w3 ⟨rfl, hB3, hb3⟩; have z3 := hb3.size; have hB3' := Lib.hid hB3; clear hB3))
        refine (put_q hB3'.out (by simp; omega) y (by omega)).mono ?_
        rintro e w4 ⟨rfl, hB4, hb4⟩
        go_wp2
        constructor
        · exact ⟨k + 1, xs ++ [92] ++ [y], by go_num, by omega, by simp; omega, hq', hB4, (hb.trans hb3).trans hb4⟩
        · simp [intOf]; omega
    · have hks : k = s.size := by omega
      have hd : decide ((k : Int) < s.size) = false := decide_eq_false (by omega)
      have hq' : Hid (Q = xs ++ [34]) := by
        have := hN.out
        rw [hks, ← ints_length, List.drop_length] at this
        exact this
      clear hN hks
      go_wp2_with (first | (go_at_call 15; with_reducible refine (put_q hBd.out (by omega) 34 (by omega)).mono ?_; rintro e w3 ⟨rfl, hB3, hb3⟩))
      have z3 := hb3.size
      rw [octs_cells (by rw [← hq'.out]; exact HO.out)] at hB3
      have hS := Tryd.Builder_String_any w.heap.size w.heap.size (octs (xs ++ [34])) w3 (.inr hB3) (by omega)
      rw [strOf_arr, ← hq'.out] at hS
      clear HO hq'
      refine hS.mono ?_
      rintro e w6 ⟨rfl, hb6⟩
      go_wp2
      go_ret
      exact ⟨rfl, (hb.trans hb3).trans hb6⟩
end Go.Proofs.YtkifndecpbphbaaDoor.utf
/- The contract of Escape, on any bytes. -/
namespace Go.Proofs.YtkifndecpbphbaaDoor.utf
open Go.PlainAid Go.ChangeShapes Go.WideShapes Go.ChangeAt Go.RowKit

/-- u and four digits, or two such. -/
def escn (l : List Int) : Int × Int :=
  if (dig l).2 = false ∨ (56320 ≤ (dig l).1 ∧ (dig l).1 ≤ 57343) then (0, 0)
  else if (dig l).1 < 55296 ∨ 57343 < (dig l).1 then ((dig l).1, 5)
  else if l.length < 6 ∨ gl l 5 ≠ 92 then (0, 0)
  else if (dig (l.drop 6)).2 = false ∨ (dig (l.drop 6)).1 < 56320 ∨ 57343 < (dig (l.drop 6)).1 then (0, 0)
  else (65536 + ((dig l).1 - 55296) * 1024 + ((dig (l.drop 6)).1 - 56320), 11)
def esc (l : List Int) : Int × Int :=
  if l.length = 0 then (0, 0)
  else if gl l 0 = 34 ∨ gl l 0 = 47 ∨ gl l 0 = 92 then (gl l 0, 1)
  else if gl l 0 = 98 then (8, 1)
  else if gl l 0 = 102 then (12, 1)
  else if gl l 0 = 110 then (10, 1)
  else if gl l 0 = 114 then (13, 1)
  else if gl l 0 = 116 then (9, 1)
  else escn l

set_option maxRecDepth 100000 in
theorem escapeNumber_bad (v : Value) (l : List Int) (w : World) (hO : Oct l) (hm : l.length ≤ 140737488351232) (hv : Bs w v l) (h : (dig l).2 = false ∨ (56320 ≤ (dig l).1 ∧ (dig l).1 ≤ 57343)) :
    Calls Tryd.prog 72 #[v] w fun e w' => e = .returned (.tuple #[.int .i32 0, .int .i64 0]) ∧ w = w' := by
  have H := digits_any v l w hO hm hv
  generalize dig l = d at H h
  obtain ⟨x, ok⟩ := d
  simp only at h H
  clear hv hO hm
  cases ok with
  | false =>
    have HH := Lib.hid H
    clear H h
    go_enter Tryd.func72, Tryd.ntmps72
    go_wp2_with (go_at_call 77; refine HH.out.mono ?_; rintro e w' ⟨rfl, rfl⟩)
    go_ret2
    exact ⟨rfl, rfl⟩
  | true =>
    rcases h with h | ⟨h0, h1⟩
    · cases h
    have HH := Lib.hid H
    clear H
    go_enter Tryd.func72, Tryd.ntmps72
    go_wp2_with (go_at_call 77; refine HH.out.mono ?_; rintro e w' ⟨rfl, rfl⟩)
    go_ret2
    exact ⟨rfl, rfl⟩

set_option maxRecDepth 100000 in
theorem escapeNumber_half (b off n c : Nat) (l : List Int) (w : World) (hO : Oct l) (hl : l.length = n) (hn0 : 0 < n) (hm : n ≤ 140737488351232) (hv : Bs w (.slice (some ⟨b, off, none⟩) n c) l) (h : Int)
    (hd : dig l = (h, true)) (h0 : 55296 ≤ h) (h1 : h ≤ 56319) (hbad : n < 6 ∨ gl l 5 ≠ 92 ∨ (dig (l.drop 6)).2 = false ∨ (dig (l.drop 6)).1 < 56320 ∨ 57343 < (dig (l.drop 6)).1) :
    Calls Tryd.prog 72 #[.slice (some ⟨b, off, none⟩) n c] w fun e w' => e = .returned (.tuple #[.int .i32 0, .int .i64 0]) ∧ w = w' := by
  have H := digits_any _ l w hO (by rw [hl]; exact hm) hv
  rw [hd] at H
  have HH := Lib.hid H
  obtain ⟨hnc, hlt, hcell⟩ : n ≤ c ∧ b < w.heap.size ∧ ∀ i, i < n → w.cell? ⟨b, off + i, none⟩ = some (.int .u8 (gl l i)) := by
    rcases hv with ⟨_, _, hv, rfl⟩ | ⟨b', off', cap', hv, _, hc, hlt, hcell⟩
    · simp at hl; omega
    · injection hv with ha hm2 hcap
      injection ha with ha
      injection ha with hb ho
      subst hb ho hcap
      rw [hl] at hc hcell
      exact ⟨hc, hlt, hcell⟩
  have d1 : decide (56320 ≤ h) = false := decide_eq_false (by omega)
  have d2 : decide (h < 55296) = false := decide_eq_false (by omega)
  have d3 : decide (57343 < h) = false := decide_eq_false (by omega)
  by_cases hn6 : n < 6
  · have d6 : decide ((n : Int) < 6) = true := decide_eq_true (by omega)
    clear H hd hv hO hl hcell hbad
    go_enter Tryd.func72, Tryd.ntmps72
    go_wp2_with (go_at_call 77; refine HH.out.mono ?_; rintro e w' ⟨rfl, rfl⟩)
    go_ret2
    exact ⟨rfl, rfl⟩
  have d6 : decide ((n : Int) < 6) = false := decide_eq_false (by omega)
  have hc5 := hcell 5 (by omega)
  by_cases h5 : gl l 5 = 92
  · rw [h5] at hc5
    by_cases hn11 : n < 11
    · have HS : Hid (∀ p cc, Calls Tryd.prog 77 #[.slice p (n - 6) cc] w fun e w' => e = .returned (.tuple #[.int .i32 0, .bool false]) ∧ w = w') := fun p cc => digits_short p (n - 6) cc w (by omega)
      clear H hd hv hO h5 hl hcell hbad
      by_cases hc6 : 6 < c
      · go_enter Tryd.func72, Tryd.ntmps72
        go_wp2_with fail
        refine HH.out.mono ?_
        rintro e w' ⟨rfl, rfl⟩
        go_wp2_with fail
        refine (HS.out _ _).mono ?_
        rintro e w' ⟨rfl, rfl⟩
        go_wp2
        go_ret2
        exact ⟨rfl, rfl⟩
      · obtain ⟨rfl, rfl⟩ : c = 6 ∧ n = 6 := by omega
        go_enter Tryd.func72, Tryd.ntmps72
        go_wp2_with fail
        refine HH.out.mono ?_
        rintro e w' ⟨rfl, rfl⟩
        go_wp2_with fail
        refine (HS.out _ _).mono ?_
        rintro e w' ⟨rfl, rfl⟩
        go_wp2
        go_ret2
        exact ⟨rfl, rfl⟩
    · have hdr : Bs w (.slice (some ⟨b, off + 6, none⟩) (n - 6) (c - 6)) (l.drop 6) := by
        have := Bs.drop (w := w) (b := b) (off := off) (cap := c) (k := 6) (l := l) (by omega) (by omega) hlt (fun i hi => hcell i (by omega))
        rw [hl] at this
        exact this
      have H2 := digits_any _ (l.drop 6) w (hO.drop 6) (by simp; omega) hdr
      have hbad' : (dig (l.drop 6)).2 = false ∨ (dig (l.drop 6)).1 < 56320 ∨ 57343 < (dig (l.drop 6)).1 := by
        rcases hbad with h | h | h
        · omega
        · exact absurd h5 h
        · exact h
      have n6 : 6 < c := by omega
      clear H hd hv hO h5 hl hdr hcell hbad
      generalize dig (l.drop 6) = d at H2 hbad'
      obtain ⟨k, ok⟩ := d
      have HH2 := Lib.hid H2
      clear H2
      simp only at hbad'
      cases ok with
      | false =>
        clear hbad'
        go_enter Tryd.func72, Tryd.ntmps72
        go_wp2_with fail
        refine HH.out.mono ?_
        rintro e w' ⟨rfl, rfl⟩
        go_wp2_with fail
        refine HH2.out.mono ?_
        rintro e w' ⟨rfl, rfl⟩
        go_wp2
        go_ret2
        exact ⟨rfl, rfl⟩
      | true =>
        rcases hbad' with h | h | h
        · cases h
        all_goals
          go_enter Tryd.func72, Tryd.ntmps72
          go_wp2_with fail
          refine HH.out.mono ?_
          rintro e w' ⟨rfl, rfl⟩
          go_wp2_with fail
          refine HH2.out.mono ?_
          rintro e w' ⟨rfl, rfl⟩
          go_wp2
          go_ret2
          exact ⟨rfl, rfl⟩
  · have hne : (gl l 5 != 92) = true := by simp [h5]
    generalize gl l 5 = x at hc5 hne
    clear H hd hv hO h5 hl hcell hbad
    go_enter Tryd.func72, Tryd.ntmps72
    go_wp2_with (go_at_call 77; refine HH.out.mono ?_; rintro e w' ⟨rfl, rfl⟩)
    go_ret2
    exact ⟨rfl, rfl⟩

theorem escapeNumber_any (b off n c : Nat) (l : List Int) (w : World) (hO : Oct l) (hl : l.length = n) (hn : 0 < n) (hm : n ≤ 140737488351232) (hv : Bs w (.slice (some ⟨b, off, none⟩) n c) l) :
    Calls Tryd.prog 72 #[.slice (some ⟨b, off, none⟩) n c] w fun e w' => e = .returned (.tuple #[.int .i32 (escn l).1, .int .i64 (escn l).2]) ∧ w = w' := by
  unfold escn
  by_cases h1 : (dig l).2 = false ∨ (56320 ≤ (dig l).1 ∧ (dig l).1 ≤ 57343)
  · rw [if_pos h1]
    exact escapeNumber_bad _ l w hO (by omega) hv h1
  rw [if_neg h1]
  have hd : dig l = ((dig l).1, true) := Prod.ext rfl (by cases h : (dig l).2 with | true => rfl | false => exact absurd (.inl h) h1)
  by_cases h2 : (dig l).1 < 55296 ∨ 57343 < (dig l).1
  · rw [if_pos h2]
    exact escapeNumber_one _ l w hO (by omega) hv _ hd h2
  rw [if_neg h2]
  by_cases h3 : l.length < 6 ∨ gl l 5 ≠ 92
  · rw [if_pos h3]
    exact escapeNumber_half b off n c l w hO hl hn hm hv _ hd (by omega) (by omega) (by rcases h3 with h | h; exact .inl (by omega); exact .inr (.inl h))
  rw [if_neg h3]
  by_cases h4 : (dig (l.drop 6)).2 = false ∨ (dig (l.drop 6)).1 < 56320 ∨ 57343 < (dig (l.drop 6)).1
  · rw [if_pos h4]
    exact escapeNumber_half b off n c l w hO hl hn hm hv _ hd (by omega) (by omega) (.inr (.inr h4))
  rw [if_neg h4]
  have hd2 : dig (l.drop 6) = ((dig (l.drop 6)).1, true) := Prod.ext rfl (by cases h : (dig (l.drop 6)).2 with | true => rfl | false => exact absurd (.inl h) h4)
  have h11 : 11 ≤ n := by
    have hnl : ¬ (l.drop 6).length < 5 := fun h => by
      have : dig (l.drop 6) = (0, false) := if_pos h
      rw [this] at hd2
      injection hd2 with _ h
      cases h
    simp at hnl
    omega
  exact escapeNumber_two b off n c l w hO hl h11 hm hv _ _ hd (by omega) (by omega) (by omega) hd2 (by omega) (by omega)

set_option maxRecDepth 100000 in
theorem Escape_none (p : Option Addr) (c : Nat) (w : World) : Calls Tryd.prog 60 #[.slice p 0 c] w fun e w' => e = .returned (.tuple #[.int .i32 0, .int .i64 0]) ∧ w = w' := by
  go_enter Tryd.func60, Tryd.ntmps60
  go_wp2
  go_ret2
  exact ⟨rfl, rfl⟩
set_option maxRecDepth 100000 in
theorem Escape_lit (b off n c : Nat) (x r : Int) (w : World) (hn : 0 < n) (hm : n ≤ 140737488351232) (hc0 : w.cell? ⟨b, off, none⟩ = some (.int .u8 x))
    (hx : (x = 34 ∧ r = 34) ∨ (x = 47 ∧ r = 47) ∨ (x = 92 ∧ r = 92) ∨ (x = 98 ∧ r = 8) ∨ (x = 102 ∧ r = 12) ∨ (x = 110 ∧ r = 10) ∨ (x = 114 ∧ r = 13) ∨ (x = 116 ∧ r = 9)) :
    Calls Tryd.prog 60 #[.slice (some ⟨b, off, none⟩) n c] w fun e w' => e = .returned (.tuple #[.int .i32 r, .int .i64 1]) ∧ w = w' := by
  have b0 : ((n : Int) == 0) = false := beq_eq_false_iff_ne.2 (by omega)
  rcases hx with ⟨rfl, rfl⟩ | ⟨rfl, rfl⟩ | ⟨rfl, rfl⟩ | ⟨rfl, rfl⟩ | ⟨rfl, rfl⟩ | ⟨rfl, rfl⟩ | ⟨rfl, rfl⟩ | ⟨rfl, rfl⟩
  all_goals
    go_enter Tryd.func60, Tryd.ntmps60
    go_wp2
    go_ret2
    exact ⟨rfl, rfl⟩
set_option maxRecDepth 100000 in
theorem Escape_other (b off n c : Nat) (x r m : Int) (w : World) (hn : 0 < n) (hm : n ≤ 140737488351232) (hc0 : w.cell? ⟨b, off, none⟩ = some (.int .u8 x))
    (hx : ¬ x = 34 ∧ ¬ x = 47 ∧ ¬ x = 92 ∧ ¬ x = 98 ∧ ¬ x = 102 ∧ ¬ x = 110 ∧ ¬ x = 114 ∧ ¬ x = 116)
    (H : Calls Tryd.prog 72 #[.slice (some ⟨b, off, none⟩) n c] w fun e w' => e = .returned (.tuple #[.int .i32 r, .int .i64 m]) ∧ w = w') :
    Calls Tryd.prog 60 #[.slice (some ⟨b, off, none⟩) n c] w fun e w' => e = .returned (.tuple #[.int .i32 r, .int .i64 m]) ∧ w = w' := by
  have HH := Lib.hid H
  have b0 : ((n : Int) == 0) = false := beq_eq_false_iff_ne.2 (by omega)
  obtain ⟨k1, k2, k3, k4, k5, k6, k7, k8⟩ := hx
  have b1 : (x == 34) = false := beq_eq_false_iff_ne.2 k1
  have b2 : (x == 47) = false := beq_eq_false_iff_ne.2 k2
  have b3 : (x == 92) = false := beq_eq_false_iff_ne.2 k3
  have b4 : (x == 98) = false := beq_eq_false_iff_ne.2 k4
  have b5 : (x == 102) = false := beq_eq_false_iff_ne.2 k5
  have b6 : (x == 110) = false := beq_eq_false_iff_ne.2 k6
  have b7 : (x == 114) = false := beq_eq_false_iff_ne.2 k7
  have b8 : (x == 116) = false := beq_eq_false_iff_ne.2 k8
  clear H k1 k2 k3 k4 k5 k6 k7 k8
  go_enter Tryd.func60, Tryd.ntmps60
  go_wp2_with (go_at_call 72; refine HH.out.mono ?_; rintro e w' ⟨rfl, rfl⟩)
  go_ret2
  exact ⟨rfl, rfl⟩

theorem esc_lit {l : List Int} {r : Int} (hl : l.length ≠ 0) (hx : (gl l 0 = 34 ∧ r = 34) ∨ (gl l 0 = 47 ∧ r = 47) ∨ (gl l 0 = 92 ∧ r = 92) ∨ (gl l 0 = 98 ∧ r = 8) ∨ (gl l 0 = 102 ∧ r = 12) ∨ (gl l 0 = 110 ∧ r = 10) ∨ (gl l 0 = 114 ∧ r = 13) ∨ (gl l 0 = 116 ∧ r = 9)) : esc l = (r, 1) := by
  unfold esc
  rw [if_neg hl]
  rcases hx with ⟨h, rfl⟩ | ⟨h, rfl⟩ | ⟨h, rfl⟩ | ⟨h, rfl⟩ | ⟨h, rfl⟩ | ⟨h, rfl⟩ | ⟨h, rfl⟩ | ⟨h, rfl⟩ <;> rw [h] <;> rfl
theorem esc_other {l : List Int} (hl : l.length ≠ 0) (hx : ¬ gl l 0 = 34 ∧ ¬ gl l 0 = 47 ∧ ¬ gl l 0 = 92 ∧ ¬ gl l 0 = 98 ∧ ¬ gl l 0 = 102 ∧ ¬ gl l 0 = 110 ∧ ¬ gl l 0 = 114 ∧ ¬ gl l 0 = 116) : esc l = escn l := by
  obtain ⟨k1, k2, k3, k4, k5, k6, k7, k8⟩ := hx
  unfold esc
  rw [if_neg hl, if_neg (by omega), if_neg k4, if_neg k5, if_neg k6, if_neg k7, if_neg k8]

theorem Escape_any (v : Value) (l : List Int) (w : World) (hO : Oct l) (hm : l.length ≤ 140737488351232) (hv : Bs w v l) :
    Calls Tryd.prog 60 #[v] w fun e w' => e = .returned (.tuple #[.int .i32 (esc l).1, .int .i64 (esc l).2]) ∧ w = w' := by
  have hv' := hv
  rcases hv with ⟨p, c, rfl, rfl⟩ | ⟨b, off, cap, rfl, h0, hc, hlt, hcell⟩
  · exact Escape_none p c w
  have hc0 := hcell 0 h0
  rw [Nat.add_zero] at hc0
  by_cases hx : gl l 0 = 34 ∨ gl l 0 = 47 ∨ gl l 0 = 92 ∨ gl l 0 = 98 ∨ gl l 0 = 102 ∨ gl l 0 = 110 ∨ gl l 0 = 114 ∨ gl l 0 = 116
  · obtain ⟨r, hr⟩ : ∃ r : Int, (gl l 0 = 34 ∧ r = 34) ∨ (gl l 0 = 47 ∧ r = 47) ∨ (gl l 0 = 92 ∧ r = 92) ∨ (gl l 0 = 98 ∧ r = 8) ∨ (gl l 0 = 102 ∧ r = 12) ∨ (gl l 0 = 110 ∧ r = 10) ∨ (gl l 0 = 114 ∧ r = 13) ∨ (gl l 0 = 116 ∧ r = 9) := by
      rcases hx with h | h | h | h | h | h | h | h
      · exact ⟨34, by simp [h]⟩
      · exact ⟨47, by simp [h]⟩
      · exact ⟨92, by simp [h]⟩
      · exact ⟨8, by simp [h]⟩
      · exact ⟨12, by simp [h]⟩
      · exact ⟨10, by simp [h]⟩
      · exact ⟨13, by simp [h]⟩
      · exact ⟨9, by simp [h]⟩
    rw [esc_lit (r := r) (by omega) hr]
    exact Escape_lit b off l.length cap (gl l 0) r w h0 hm hc0 hr
  · have hx' : ¬ gl l 0 = 34 ∧ ¬ gl l 0 = 47 ∧ ¬ gl l 0 = 92 ∧ ¬ gl l 0 = 98 ∧ ¬ gl l 0 = 102 ∧ ¬ gl l 0 = 110 ∧ ¬ gl l 0 = 114 ∧ ¬ gl l 0 = 116 := by omega
    rw [esc_other (by omega) hx']
    exact Escape_other b off l.length cap (gl l 0) _ _ w h0 hm hc0 hx' (escapeNumber_any b off l.length cap l w hO rfl h0 hm hv')
end Go.Proofs.YtkifndecpbphbaaDoor.utf
/- What a quoted text begins with. -/
namespace Go.Proofs.YtkifndecpbphbaaDoor.utf
open Go.PlainAid Go.ChangeShapes Go.WideShapes Go.ChangeAt Go.RowKit

theorem ch_is_rune' {n b0 b1 b2 b3 r m : Int} (h0 : 0 ≤ b0) (h : Ch n b0 b1 b2 b3 r m) : IsRune r := by unfold Ch at h; unfold IsRune; omega
theorem qs_append (a b : List Int) : qs (a ++ b) = qs a ++ qs b := by simp [qs]
theorem qs_plain : ∀ {l : List Int}, (∀ x ∈ l, 32 ≤ x ∧ x ≠ 34 ∧ x ≠ 92) → qs l = l
  | [], _ => rfl
  | x :: l, h => by
    have hx := h x (by simp)
    have e : qb x = [x] := by unfold qb; rw [if_neg (by omega), if_pos hx.1]
    show qb x ++ qs l = x :: l
    rw [e, qs_plain fun y hy => h y (by simp [hy])]
    rfl
theorem enc_small {r : Int} (h : r < 128) : enc r = [r] := by unfold enc; rw [if_pos h]
theorem enc_plain {r : Int} (hr : IsRune r) (h0 : 32 ≤ r) (h1 : r ≠ 34) (h2 : r ≠ 92) : ∀ x ∈ enc r, 32 ≤ x ∧ x ≠ 34 ∧ x ≠ 92 := by
  intro x hx
  unfold IsRune at hr
  by_cases h128 : r < 128
  · rw [enc_small h128] at hx; simp at hx; omega
  unfold enc at hx
  rw [if_neg h128] at hx
  split at hx
  · simp at hx; omega
  split at hx
  · simp at hx; omega
  split at hx
  · simp at hx; omega
  · omega

theorem esc_head {r : Int} (x : Int) (more : List Int) (hx : (x = 34 ∧ r = 34) ∨ (x = 47 ∧ r = 47) ∨ (x = 92 ∧ r = 92) ∨ (x = 98 ∧ r = 8) ∨ (x = 102 ∧ r = 12) ∨ (x = 110 ∧ r = 10) ∨ (x = 114 ∧ r = 13) ∨ (x = 116 ∧ r = 9)) : esc ([x] ++ more) = (r, 1) :=
  esc_lit (by simp) (by rw [show gl ([x] ++ more) 0 = x from rfl]; exact hx)
theorem letter_esc (r : Int) (h : letter r ≠ 0) (more : List Int) : esc ([letter r] ++ more) = (r, 1) := by
  rcases letter_is r with k | ⟨a, k⟩ | ⟨a, k⟩ | ⟨a, k⟩ | ⟨a, k⟩ | ⟨a, k⟩
  · exact absurd k h
  all_goals
    rw [k]
    exact esc_head _ more (by subst a; simp)
theorem esc_ub {r : Int} (h0 : 0 ≤ r) (h1 : r < 32) (more : List Int) : esc (ub false r ++ more) = (r, 5) := by
  have hd := dig_ub false r h0 (by omega) more
  have h : gl (ub false r ++ more) 0 = 117 := rfl
  rw [esc_other (by unfold ub; simp) (by rw [h]; omega)]
  unfold escn
  rw [hd, if_neg (by simp; omega), if_pos (by simp; omega)]

/-- One step through a quoted text. -/
theorem quote_step {l : List Int} (hO : Oct l) {r : Int} {m : Nat} (h : nxl l = (r, (m : Int))) (hm : m ≠ 0) :
    IsRune r ∧ l.take m = enc r ∧ 1 ≤ m ∧ m ≤ l.length ∧
    ((32 ≤ r ∧ r ≠ 34 ∧ r ≠ 92 ∧ nxl (qs l) = (r, (m : Int)) ∧ m ≤ (qs l).length ∧ (qs l).drop m = qs (l.drop m)) ∨
     (m = 1 ∧ ∃ t : List Int, 1 ≤ t.length ∧ t.length ≤ 5 ∧ qs l = [92] ++ (t ++ qs (l.drop 1)) ∧ nxl (qs l) = (92, 1) ∧ esc (t ++ qs (l.drop 1)) = (r, (t.length : Int)))) := by
  have hch : Ch l.length (gl l 0) (gl l 1) (gl l 2) (gl l 3) r m := by
    rcases nxl_is hO with k | ⟨k, _⟩
    · rw [h] at k; exact k
    · rw [h] at k; injection k with _ k; omega
  have hr : IsRune r := ch_is_rune' (hO.gl 0).1 hch
  have ht : l.take m = enc r := by simpa using take_enc hO hch
  have hml := ch_len hch
  have e : qs l = qs (enc r) ++ qs (l.drop m) := by
    conv => lhs; rw [← List.take_append_drop m l, ht]
    exact qs_append _ _
  have hlen : (enc r).length = m := by rw [← ht, List.length_take]; omega
  refine ⟨hr, ht, by omega, by omega, ?_⟩
  by_cases hp : 32 ≤ r ∧ r ≠ 34 ∧ r ≠ 92
  · refine .inl ⟨hp.1, hp.2.1, hp.2.2, ?_⟩
    rw [e, qs_plain (enc_plain hr hp.1 hp.2.1 hp.2.2)]
    refine ⟨by rw [nxl_enc hr, hlen], by rw [List.length_append]; omega, ?_⟩
    rw [← hlen, List.drop_left]
  · have hs : r < 128 := by omega
    have h0 := hr.1
    rw [enc_small hs] at hlen e
    have hm1 : m = 1 := by simpa using hlen.symm
    subst hm1
    refine .inr ⟨rfl, ?_⟩
    have e' : qs l = qb r ++ qs (l.drop 1) := by rw [e]; simp [qs]
    have n92 : ∀ x : List Int, nxl ([92] ++ x) = (92, 1) := fun x => nxl_enc (r := 92) (by unfold IsRune; omega) x
    have hl := letter_is r
    by_cases hA : r = 34 ∨ r = 92
    · refine ⟨[r], by simp, by simp, ?_, ?_, ?_⟩
      · rw [e', show qb r = [92, r] from if_pos hA]; rfl
      · rw [e', show qb r = [92, r] from if_pos hA]; exact n92 _
      · exact esc_head (r := r) r (qs (l.drop 1)) (by omega)
    by_cases hC : letter r = 0
    · have hq : qb r = [92] ++ ub false r := by
        unfold qb
        rw [if_neg hA, if_neg (by omega), if_neg (by simp [hC])]
        unfold ub
        rw [show r / 4096 % 16 = 0 by omega, show r / 256 % 16 = 0 by omega, show r / 16 % 16 = r / 16 by omega]
        have : hx false (r / 16) = 48 + r / 16 := by unfold hx; rw [if_pos (by omega)]
        rw [this]
        rfl
      refine ⟨ub false r, by unfold ub; simp, by unfold ub; simp, ?_, ?_, ?_⟩
      · rw [e', hq, List.append_assoc]
      · rw [e', hq, List.append_assoc]; exact n92 _
      · exact esc_ub h0 (by omega) _
    · have hq : qb r = [92] ++ [letter r] := by
        unfold qb
        rw [if_neg hA, if_neg (by omega), if_pos hC]; rfl
      refine ⟨[letter r], by simp, by simp, ?_, ?_, ?_⟩
      · rw [e', hq, List.append_assoc]
      · rw [e', hq, List.append_assoc]; exact n92 _
      · exact letter_esc r hC _
theorem qs_nil_iff {l : List Int} (h : qs l = []) : l = [] := by
  cases l with
  | nil => rfl
  | cons x l =>
    exfalso
    have h' : qb x ++ qs l = [] := h
    have h2 := congrArg List.length h'
    have := qb_len x
    rw [List.length_append, List.length_nil] at h2
    omega
theorem strOf_ints (s : ByteArray) : strOf (ints s) = s := by
  have h := strOf_data (ints s)
  apply ByteArray.ext
  apply Array.ext'
  rw [h]
  unfold ints
  rw [List.map_map]
  conv => rhs; rw [← List.map_id s.data.toList]
  apply List.map_congr_left
  intro x _
  apply UInt8.toNat_inj.1
  have := x.toNat_lt
  show ((x.toNat : Int).toNat % 256) = x.toNat
  omega
end Go.Proofs.YtkifndecpbphbaaDoor.utf
/- A text's bytes as a slice. -/
namespace Go.Proofs.YtkifndecpbphbaaDoor.utf
open Go.PlainAid Go.ChangeShapes Go.WideShapes Go.ChangeAt Go.RowKit

theorem bytes_below' (w : World) (s : ByteArray) (T : TypeId) : Below w.heap.size w (Lib.bytesWorld w T s) :=
  ⟨rfl, rfl, rfl, by rw [Lib.bytesWorld_size]; omega, fun k hk => Lib.bytesWorld_at_old w T s k hk⟩
theorem conv_cells (w : World) (s : ByteArray) (i : Nat) (hi : i < s.size) : (Lib.bytesWorld w 5 s).cell? ⟨w.heap.size, i, none⟩ = some (.int .u8 (gl (ints s) i)) := by
  rw [Lib.bytesWorld_cell _ _ _ _ hi, ints_gl]
  unfold bt
  rw [dif_pos hi, List.getD_eq_getElem?_getD, List.getElem?_eq_getElem (by simpa using hi)]
  rfl
theorem Bs_conv' (w : World) (s : ByteArray) : Bs (Lib.bytesWorld w 5 s) (.slice (some ⟨w.heap.size, 0, none⟩) s.size (grownCap w s.size 0 5)) (ints s) := by
  by_cases h : s.size = 0
  · exact .inl ⟨_, _, by rw [h], ints_nil_of h⟩
  · refine .inr ⟨w.heap.size, 0, grownCap w s.size 0 5, by rw [ints_length], by rw [ints_length]; omega, by rw [ints_length]; exact grownCap_ge _ _ _ _, by rw [Lib.bytesWorld_size]; omega, fun i hi => ?_⟩
    rw [ints_length] at hi
    rw [Nat.zero_add]
    exact conv_cells w s i hi
end Go.Proofs.YtkifndecpbphbaaDoor.utf
