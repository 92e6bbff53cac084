/- The contract of Quote. -/
import Derived.Test.YtbajejhhmacflaaDoorUtfQA
import Derived.Test.YtbajejhhmacflaaDoorUtfV
namespace Go.Proofs.YtbajejhhmacflaaDoor.utf
open Go.PlainAid Go.ChangeShapes Go.WideShapes Go.ChangeAt Go.RowKit

/-- A byte in signs. -/
def qb (c : Int) : List Int := if c = 34 ∨ c = 92 then [92, c] else if 32 ≤ c then [c] else if letter c ≠ 0 then [92, letter c] else [92, 117, 48, 48, 48 + c / 16, hx false (c % 16)]
def qs (l : List Int) : List Int := l.flatMap qb
theorem qs_drop {l : List Int} {k : Nat} (h : k < l.length) : qs (l.drop k) = qb (gl l k) ++ qs (l.drop (k + 1)) := by
  rw [List.drop_eq_getElem_cons h]
  have e1 : gl l k = l[k] := by unfold gl; rw [List.getD_eq_getElem?_getD, List.getElem?_eq_getElem h]; rfl
  rw [e1]
  rfl
theorem letter_is (c : Int) : letter c = 0 ∨ (c = 8 ∧ letter c = 98) ∨ (c = 9 ∧ letter c = 116) ∨ (c = 10 ∧ letter c = 110) ∨ (c = 12 ∧ letter c = 102) ∨ (c = 13 ∧ letter c = 114) := by
  unfold letter
  split
  · exact .inr (.inl ⟨by assumption, rfl⟩)
  split
  · exact .inr (.inr (.inl ⟨by assumption, rfl⟩))
  split
  · exact .inr (.inr (.inr (.inl ⟨by assumption, rfl⟩)))
  split
  · exact .inr (.inr (.inr (.inr (.inl ⟨by assumption, rfl⟩))))
  split
  · exact .inr (.inr (.inr (.inr (.inr ⟨by assumption, rfl⟩))))
  · exact .inl rfl
theorem qb_oct {c : Int} (h0 : 0 ≤ c) (h1 : c ≤ 255) : Oct (qb c) := by
  have hl := letter_is c
  have hh := hx_range false (c % 16) (by omega) (by omega)
  intro x h
  unfold qb at h
  split at h
  · simp only [List.mem_cons, List.not_mem_nil, or_false] at h; omega
  split at h
  · simp only [List.mem_cons, List.not_mem_nil, or_false] at h; omega
  split at h
  · simp only [List.mem_cons, List.not_mem_nil, or_false] at h; omega
  · simp only [List.mem_cons, List.not_mem_nil, or_false] at h; omega
theorem qb_len (c : Int) : 1 ≤ (qb c).length ∧ (qb c).length ≤ 6 := by
  unfold qb
  split
  · exact ⟨by simp, by simp⟩
  split
  · exact ⟨by simp, by simp⟩
  split
  · exact ⟨by simp, by simp⟩
  · exact ⟨by simp, by simp⟩

theorem qs_oct {l : List Int} (h : Oct l) : Oct (qs l) := by
  intro x hx
  obtain ⟨c, hc, hx⟩ := List.mem_flatMap.1 hx
  exact qb_oct (h c hc).1 (h c hc).2 x hx
theorem hex_at (y : Int) (h0 : 0 ≤ y) (h1 : y < 16) (p : y.toNat < (⟨#[48, 49, 50, 51, 52, 53, 54, 55, 56, 57, 97, 98, 99, 100, 101, 102]⟩ : ByteArray).size) : ((((⟨#[48, 49, 50, 51, 52, 53, 54, 55, 56, 57, 97, 98, 99, 100, 101, 102]⟩ : ByteArray)[y.toNat]'p).toNat : Nat) : Int) = hx false y := by
  obtain ⟨n, rfl⟩ := Int.eq_ofNat_of_zero_le h0
  have hn : n < 16 := by omega
  simp only [Int.toNat_natCast]
  match n, hn with
  | 0, _ => rfl
  | 1, _ => rfl
  | 2, _ => rfl
  | 3, _ => rfl
  | 4, _ => rfl
  | 5, _ => rfl
  | 6, _ => rfl
  | 7, _ => rfl
  | 8, _ => rfl
  | 9, _ => rfl
  | 10, _ => rfl
  | 11, _ => rfl
  | 12, _ => rfl
  | 13, _ => rfl
  | 14, _ => rfl
  | 15, _ => rfl
  | k + 16, h => omega
def octs (l : List Int) : List UInt8 := l.map fun n => UInt8.ofNat n.toNat
theorem octs_cells {l : List Int} (h : Oct l) : bcells l = Lib.byteCells (octs l) := by
  unfold bcells Lib.byteCells octs
  rw [List.map_map]
  apply List.map_congr_left
  intro x hx
  have := h x hx
  simp only [Function.comp]
  congr 1
  show x = ((x.toNat % 256 : Nat) : Int)
  omega
theorem strOf_arr (l : List Int) : (⟨(octs l).toArray⟩ : ByteArray) = strOf l := by
  have h := strOf_data l
  apply ByteArray.ext
  apply Array.ext'
  rw [h]
  rfl
theorem puts_q {B b : Nat} {xs : List Int} {W : World} (h : Lib.BuilderAt 45 5 B b (.pointer (some ⟨b, 0, none⟩)) (bcells xs) W) (hx : xs.length ≤ 100000) (hB : B ≤ W.heap.size) :
    Calls Tryd.prog 36 #[.pointer (some ⟨b, 0, none⟩), .string ⟨#[92, 117, 48, 48]⟩] W fun e w' => e = .returned (.tuple #[.int .i64 4, .nilIface]) ∧ (Lib.BuilderAt 45 5 B b (.pointer (some ⟨b, 0, none⟩)) (bcells (xs ++ [92, 117, 48, 48])) w' ∧ Below B W w') := by
  have := WriteString_any B b (bcells xs) ⟨#[92, 117, 48, 48]⟩ (by decide) W h (by rw [bcells_length]; show xs.length + 4 ≤ _; omega) hB
  rw [show bcells xs ++ Lib.strCells ⟨#[92, 117, 48, 48]⟩ = bcells (xs ++ [92, 117, 48, 48]) by rw [bcells_append]; rfl] at this
  exact this
theorem put_q {B b : Nat} {xs : List Int} {W : World} (h : Lib.BuilderAt 45 5 B b (.pointer (some ⟨b, 0, none⟩)) (bcells xs) W) (hx : xs.length ≤ 100000) (c : Int) (hB : B ≤ W.heap.size) :
    Calls Tryd.prog 34 #[.pointer (some ⟨b, 0, none⟩), .int .u8 c] W fun e w' => e = .returned .nilIface ∧ (Lib.BuilderAt 45 5 B b (.pointer (some ⟨b, 0, none⟩)) (bcells (xs ++ [c])) w' ∧ Below B W w') := by
  have := WriteByte_any B b (bcells xs) c W h (by rw [bcells_length]; omega) hB
  rw [show bcells xs ++ [.int .u8 c] = bcells (xs ++ [c]) by rw [bcells_append]; rfl] at this
  exact this

set_option maxHeartbeats 2000000 in
theorem Quote_any (s : ByteArray) (w : World) (hs : s.size ≤ 1000) :
    Calls Tryd.prog 20 #[.string s] w fun e w' => e = .returned (.string (strOf (34 :: (qs (ints s) ++ [34])))) ∧ Below w.heap.size w w' := by
  have hbk : (w.alloc (.cells #[.pointer none, .slice none 0 0] 45)).heap[w.heap.size]? = some (.cells #[.pointer none, .slice none 0 0] 45 (0, 0)) := heap_alloc_new w _
  have hgrow := (Tryd.Builder_Grow_fresh w.heap.size w.heap.size (s.size + 2) _ (Nat.le_refl _) hbk (by simp) (by omega))
  rw [show ((s.size + 2 : Nat) : Int) = (s.size : Int) + 2 by omega] at hgrow
  have HG := Lib.hid hgrow
  clear hgrow
  have hb0 : Below w.heap.size w (w.alloc (.cells #[.pointer none, .slice none 0 0] 45)) := (Below.refl _ _).alloc (Nat.le_refl _) _
  clear hbk
  obtain ⟨Q, hQ⟩ : ∃ Q, Q = 34 :: (qs (ints s) ++ [34]) := ⟨_, rfl⟩
  have HQ : Hid (Q = [34] ++ (qs ((ints s).drop 0) ++ [34])) := hQ
  have HO : Hid (Oct Q) := by
    have h1 := qs_oct (ints_oct s)
    rw [hQ]
    intro x hx
    simp only [List.mem_cons, List.mem_append, List.not_mem_nil, or_false] at hx
    rcases hx with rfl | hx | rfl
    · omega
    · exact h1 x hx
    · omega
  rw [← hQ]
  clear hQ
  go_enter Tryd.func20, Tryd.ntmps20
  go_wp2_with (go_at_call 33; refine HG.out.mono ?_; rintro e w1 ⟨rfl, hB1, hb1⟩)
  have z1 := hb1.size
  simp at z1
  refine (put_q (xs := []) (b := w.heap.size) (B := w.heap.size) hB1 (by simp) 34 (by omega)).mono ?_
  rintro e w2 ⟨rfl, hB2, hb2⟩
  have z2 := hb2.size
  go_wp2
  have HB := Lib.hid ((hb0.trans hb1).trans hb2)
  have HB2 := Lib.hid hB2
  clear hb0 hb1 hb2 hB1 HG hB2
  go_loopw [4] (fun i wr => ∃ (k : Nat) (xs : List Int), i = .int .i64 k ∧ k ≤ s.size ∧ xs.length ≤ 1 + 6 * k ∧ Hid (Q = xs ++ (qs ((ints s).drop k) ++ [34])) ∧ Hid (Lib.BuilderAt 45 5 w.heap.size w.heap.size (.pointer (some ⟨w.heap.size, 0, none⟩)) (bcells xs) wr) ∧ Below w.heap.size w wr) (fun i _ => s.size - (intOf i).toNat)
  case atStart => exact ⟨0, [34], rfl, Nat.zero_le _, by simp, HQ, HB2.out, HB.out⟩
  case round =>
    clear HQ HB2 HB
    obtain ⟨k, xs, rfl, hk, hxl, hN, hBd, hb⟩ := hrel
    have hbs := hb.size
    by_cases hkl : k < s.size
    · have hd : decide ((k : Int) < s.size) = true := decide_eq_true (by omega)
      obtain ⟨x, hxv⟩ : ∃ x, ((s[k].toNat : Nat) : Int) = x := ⟨_, rfl⟩
      have hgx : gl (ints s) k = x := by rw [ints_gl, ← get_bt s k hkl]; exact hxv
      have hx0 : 0 ≤ x := by omega
      have hx1 : x ≤ 255 := by have := s[k].toNat_lt; omega
      have hq := hN.out
      rw [qs_drop (by rw [ints_length]; exact hkl), hgx] at hq
      clear hN hgx
      by_cases hA : x = 34 ∨ x = 92
      · have hq' : Hid (Q = xs ++ [92] ++ [x] ++ (qs ((ints s).drop (k + 1)) ++ [34])) := by
          rw [hq, show qb x = [92, x] from if_pos hA]; simp only [List.append_assoc, List.cons_append, List.nil_append]; trivial
        clear hq
        have hxor : (x == 34) = true ∨ ((x == 34) = false ∧ (x == 92) = true) := by
          rcases hA with rfl | rfl
          · exact .inl rfl
          · exact .inr ⟨rfl, rfl⟩
        clear hA
        rcases hxor with x34 | ⟨x34, x92⟩
        all_goals
          go_wp2_with (first | (go_at_call 34; with_reducible refine (put_q hBd.out (by omega) 92 (by omega)).mono ?_; rintro e w3 ⟨rfl, hB3, hb3⟩; have z3 := hb3.size; have hB3' := Lib.hid hB3; clear hB3))
          refine (put_q hB3'.out (by simp; omega) x (by omega)).mono ?_
          rintro e w4 ⟨rfl, hB4, hb4⟩
          go_wp2
          constructor
          · exact ⟨k + 1, xs ++ [92] ++ [x], by go_num, by omega, by simp; omega, hq', hB4, (hb.trans hb3).trans hb4⟩
          · simp [intOf]; omega
      by_cases hB : 32 ≤ x
      · have hq' : Hid (Q = xs ++ [x] ++ (qs ((ints s).drop (k + 1)) ++ [34])) := by
          rw [hq, show qb x = [x] by unfold qb; rw [if_neg hA, if_pos hB]]; simp only [List.append_assoc]; trivial
        have x34 : (x == 34) = false := beq_eq_false_iff_ne.2 (by omega)
        have x92 : (x == 92) = false := beq_eq_false_iff_ne.2 (by omega)
        have x32 : decide (32 ≤ x) = true := decide_eq_true hB
        clear hq hA
        go_wp2_with (first | (go_at_call 34; with_reducible refine (put_q hBd.out (by omega) x (by omega)).mono ?_; rintro e w3 ⟨rfl, hB3, hb3⟩))
        constructor
        · exact ⟨k + 1, xs ++ [x], by go_num, by omega, by simp; omega, hq', hB3, hb.trans hb3⟩
        · simp [intOf]; omega
      by_cases hC : letter x = 0
      · have e1 : qb x = [92, 117, 48, 48, 48 + x / 16, hx false (x % 16)] := by unfold qb; rw [if_neg hA, if_neg hB, if_neg (by simp [hC])]
        have hq' : Hid (Q = xs ++ [92, 117, 48, 48] ++ [48 + x / 16] ++ [hx false (x % 16)] ++ (qs ((ints s).drop (k + 1)) ++ [34])) := by
          rw [hq, e1]; simp only [List.append_assoc, List.cons_append, List.nil_append]; trivial
        clear hq e1
        have x34 : (x == 34) = false := beq_eq_false_iff_ne.2 (by omega)
        have x92 : (x == 92) = false := beq_eq_false_iff_ne.2 (by omega)
        have x32 : decide (32 ≤ x) = false := decide_eq_false hB
        have HL := letterOf_any x
        rw [hC] at HL
        have HLL := Lib.hid HL
        clear hA hB hC HL
        go_wp2_with (first | (go_at_call 35; with_reducible refine (HLL.out _).mono ?_; rintro e w' ⟨rfl, rfl⟩))
        refine (puts_q hBd.out (by omega) (by omega)).mono ?_
        rintro e w3 ⟨rfl, hB3, hb3⟩
        have z3 := hb3.size
        go_wp2_with fail
        refine (put_q hB3 (by simp; omega) (48 + x / 16) (by omega)).mono ?_
        rintro e w4 ⟨rfl, hB4, hb4⟩
        have z4 := hb4.size
        go_wp2_with fail
        rw [hex_at (x % 16) (by omega) (by omega)]
        refine (put_q hB4 (by simp; omega) (hx false (x % 16)) (by omega)).mono ?_
        rintro e w5 ⟨rfl, hB5, hb5⟩
        go_wp2
        constructor
        · exact ⟨k + 1, xs ++ [92, 117, 48, 48] ++ [48 + x / 16] ++ [hx false (x % 16)], by go_num, by omega, by simp; omega, hq', hB5, ((hb.trans hb3).trans hb4).trans hb5⟩
        · simp [intOf]; omega
      · have hq' : Hid (Q = xs ++ [92] ++ [letter x] ++ (qs ((ints s).drop (k + 1)) ++ [34])) := by
          rw [hq, show qb x = [92, letter x] by unfold qb; rw [if_neg hA, if_neg hB, if_pos hC]]; simp only [List.append_assoc, List.cons_append, List.nil_append]; trivial
        have x34 : (x == 34) = false := beq_eq_false_iff_ne.2 (by omega)
        have x92 : (x == 92) = false := beq_eq_false_iff_ne.2 (by omega)
        have x32 : decide (32 ≤ x) = false := decide_eq_false hB
        have HLL := Lib.hid (letterOf_any x)
        have yn : (letter x != 0) = true := by simpa using hC
        generalize letter x = y at HLL yn hq'
        clear hA hB hC hq
        go_wp2_with (first | (go_at_call 35; with_reducible refine (HLL.out _).mono ?_; rintro e w' ⟨rfl, rfl⟩) | (go_at_call 34; with_reducible refine (put_q hBd.out (by omega) 92 (by omega)).mono ?_; rintro e w3 ⟨rfl, hB3, hb3⟩; have z3 := hb3.size; have hB3' := Lib.hid hB3; clear hB3))
        refine (put_q hB3'.out (by simp; omega) y (by omega)).mono ?_
        rintro e w4 ⟨rfl, hB4, hb4⟩
        go_wp2
        constructor
        · exact ⟨k + 1, xs ++ [92] ++ [y], by go_num, by omega, by simp; omega, hq', hB4, (hb.trans hb3).trans hb4⟩
        · simp [intOf]; omega
    · have hks : k = s.size := by omega
      have hd : decide ((k : Int) < s.size) = false := decide_eq_false (by omega)
      have hq' : Hid (Q = xs ++ [34]) := by
        have := hN.out
        rw [hks, ← ints_length, List.drop_length] at this
        exact this
      clear hN hks
      go_wp2_with (first | (go_at_call 34; with_reducible refine (put_q hBd.out (by omega) 34 (by omega)).mono ?_; rintro e w3 ⟨rfl, hB3, hb3⟩))
      have z3 := hb3.size
      rw [octs_cells (by rw [← hq'.out]; exact HO.out)] at hB3
      have hS := Tryd.Builder_String_any w.heap.size w.heap.size (octs (xs ++ [34])) w3 (.inr hB3) (by omega)
      rw [strOf_arr, ← hq'.out] at hS
      clear HO hq'
      refine hS.mono ?_
      rintro e w6 ⟨rfl, hb6⟩
      go_wp2
      go_ret
      exact ⟨rfl, (hb.trans hb3).trans hb6⟩
end Go.Proofs.YtbajejhhmacflaaDoor.utf
