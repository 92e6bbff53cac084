/- JournalNeed: pieces of two records together. -/
import Derived.Test.YticiaiiedagalaaPl16
namespace Go.Proofs.Yticiaiiedagalaa.dk
open Go.PlainAid Go.ChangeShapes Go.WideShapes Go.ChangeAt Go.RowKit

theorem andm7 (n : Int) : bits .and .i64 n 7 = n % 8 := by
  have h127 : (BitVec.ofInt 64 7).toNat = 2 ^ 3 - 1 := by decide
  have key : (BitVec.ofInt 64 n &&& BitVec.ofInt 64 7).toNat = (n % ((2 ^ 64 : Nat) : Int)).toNat % 2 ^ 3 := by
    rw [BitVec.toNat_and, BitVec.toNat_ofInt, h127, Nat.and_two_pow_sub_one_eq_mod]
  show IntKind.i64.wrap ((BitVec.ofInt 64 n &&& BitVec.ofInt 64 7).toNat : Nat) = n % 8
  rw [key, IntKind.wrap_i64]
  omega
theorem andm15 (n : Int) : bits .and .i64 n 15 = n % 16 := by
  have h127 : (BitVec.ofInt 64 15).toNat = 2 ^ 4 - 1 := by decide
  have key : (BitVec.ofInt 64 n &&& BitVec.ofInt 64 15).toNat = (n % ((2 ^ 64 : Nat) : Int)).toNat % 2 ^ 4 := by
    rw [BitVec.toNat_and, BitVec.toNat_ofInt, h127, Nat.and_two_pow_sub_one_eq_mod]
  show IntKind.i64.wrap ((BitVec.ofInt 64 n &&& BitVec.ofInt 64 15).toNat : Nat) = n % 16
  rw [key, IntKind.wrap_i64]
  omega
theorem andm31 (n : Int) : bits .and .i64 n 31 = n % 32 := by
  have h127 : (BitVec.ofInt 64 31).toNat = 2 ^ 5 - 1 := by decide
  have key : (BitVec.ofInt 64 n &&& BitVec.ofInt 64 31).toNat = (n % ((2 ^ 64 : Nat) : Int)).toNat % 2 ^ 5 := by
    rw [BitVec.toNat_and, BitVec.toNat_ofInt, h127, Nat.and_two_pow_sub_one_eq_mod]
  show IntKind.i64.wrap ((BitVec.ofInt 64 n &&& BitVec.ofInt 64 31).toNat : Nat) = n % 32
  rw [key, IntKind.wrap_i64]
  omega
theorem andm63 (n : Int) : bits .and .i64 n 63 = n % 64 := by
  have h127 : (BitVec.ofInt 64 63).toNat = 2 ^ 6 - 1 := by decide
  have key : (BitVec.ofInt 64 n &&& BitVec.ofInt 64 63).toNat = (n % ((2 ^ 64 : Nat) : Int)).toNat % 2 ^ 6 := by
    rw [BitVec.toNat_and, BitVec.toNat_ofInt, h127, Nat.and_two_pow_sub_one_eq_mod]
  show IntKind.i64.wrap ((BitVec.ofInt 64 n &&& BitVec.ofInt 64 63).toNat : Nat) = n % 64
  rw [key, IntKind.wrap_i64]
  omega
theorem andm127 (n : Int) : bits .and .i64 n 127 = n % 128 := by
  have h127 : (BitVec.ofInt 64 127).toNat = 2 ^ 7 - 1 := by decide
  have key : (BitVec.ofInt 64 n &&& BitVec.ofInt 64 127).toNat = (n % ((2 ^ 64 : Nat) : Int)).toNat % 2 ^ 7 := by
    rw [BitVec.toNat_and, BitVec.toNat_ofInt, h127, Nat.and_two_pow_sub_one_eq_mod]
  show IntKind.i64.wrap ((BitVec.ofInt 64 n &&& BitVec.ofInt 64 127).toNat : Nat) = n % 128
  rw [key, IntKind.wrap_i64]
  omega
theorem andm255 (n : Int) : bits .and .i64 n 255 = n % 256 := by
  have h127 : (BitVec.ofInt 64 255).toNat = 2 ^ 8 - 1 := by decide
  have key : (BitVec.ofInt 64 n &&& BitVec.ofInt 64 255).toNat = (n % ((2 ^ 64 : Nat) : Int)).toNat % 2 ^ 8 := by
    rw [BitVec.toNat_and, BitVec.toNat_ofInt, h127, Nat.and_two_pow_sub_one_eq_mod]
  show IntKind.i64.wrap ((BitVec.ofInt 64 n &&& BitVec.ofInt 64 255).toNat : Nat) = n % 256
  rw [key, IntKind.wrap_i64]
  omega
theorem andm511 (n : Int) : bits .and .i64 n 511 = n % 512 := by
  have h127 : (BitVec.ofInt 64 511).toNat = 2 ^ 9 - 1 := by decide
  have key : (BitVec.ofInt 64 n &&& BitVec.ofInt 64 511).toNat = (n % ((2 ^ 64 : Nat) : Int)).toNat % 2 ^ 9 := by
    rw [BitVec.toNat_and, BitVec.toNat_ofInt, h127, Nat.and_two_pow_sub_one_eq_mod]
  show IntKind.i64.wrap ((BitVec.ofInt 64 n &&& BitVec.ofInt 64 511).toNat : Nat) = n % 512
  rw [key, IntKind.wrap_i64]
  omega
theorem andm2047 (n : Int) : bits .and .i64 n 2047 = n % 2048 := by
  have h127 : (BitVec.ofInt 64 2047).toNat = 2 ^ 11 - 1 := by decide
  have key : (BitVec.ofInt 64 n &&& BitVec.ofInt 64 2047).toNat = (n % ((2 ^ 64 : Nat) : Int)).toNat % 2 ^ 11 := by
    rw [BitVec.toNat_and, BitVec.toNat_ofInt, h127, Nat.and_two_pow_sub_one_eq_mod]
  show IntKind.i64.wrap ((BitVec.ofInt 64 n &&& BitVec.ofInt 64 2047).toNat : Nat) = n % 2048
  rw [key, IntKind.wrap_i64]
  omega
theorem andm1048575 (n : Int) : bits .and .i64 n 1048575 = n % 1048576 := by
  have h127 : (BitVec.ofInt 64 1048575).toNat = 2 ^ 20 - 1 := by decide
  have key : (BitVec.ofInt 64 n &&& BitVec.ofInt 64 1048575).toNat = (n % ((2 ^ 64 : Nat) : Int)).toNat % 2 ^ 20 := by
    rw [BitVec.toNat_and, BitVec.toNat_ofInt, h127, Nat.and_two_pow_sub_one_eq_mod]
  show IntKind.i64.wrap ((BitVec.ofInt 64 n &&& BitVec.ofInt 64 1048575).toNat : Nat) = n % 1048576
  rw [key, IntKind.wrap_i64]
  omega
set_option maxHeartbeats 4000000 in
set_option maxRecDepth 100000 in
theorem needs_any (a b : Int) (w : World) :
    Calls Try.prog 8 #[.int .i64 a, .int .i64 b] w fun e w' => e = .returned (.bool true) ∧ Below w.heap.size w w' := by
  have HA := Lib.hid (awake_any w)
  obtain ⟨x, hx⟩ : ∃ x, x = 1 + a % 1048576 := ⟨_, rfl⟩
  obtain ⟨y, hy⟩ : ∃ y, y = 1 + b % 1048576 := ⟨_, rfl⟩
  have ha : bits .and .i64 a 1048575 = x - 1 := by rw [andm1048575]; omega
  have hb : bits .and .i64 b 1048575 = y - 1 := by rw [andm1048575]; omega
  have hx1 : 1 ≤ x ∧ x ≤ 1048576 := by omega
  have hy1 : 1 ≤ y ∧ y ≤ 1048576 := by omega
  clear hx hy
  have ex : (1 : Int) + (x - 1) = x := by omega
  have ey : (1 : Int) + (y - 1) = y := by omega
  have px : need x = (x - 1) / 48 + 1 := by unfold need; rw [if_neg (by omega)]
  have py : need y = (y - 1) / 48 + 1 := by unfold need; rw [if_neg (by omega)]
  have pz : need (x + y) = (x + y - 1) / 48 + 1 := by unfold need; rw [if_neg (by omega)]
  have pn : need (-x) = 1 := by unfold need; rw [if_pos (by omega)]
  have NX : ∀ w, Hid (Calls Try.prog 32 #[.int .i64 x] w fun e w' => e = .returned (.int .i64 (need x)) ∧ w = w') := fun w => Need_any w x (by omega)
  have NY : ∀ w, Hid (Calls Try.prog 32 #[.int .i64 y] w fun e w' => e = .returned (.int .i64 (need y)) ∧ w = w') := fun w => Need_any w y (by omega)
  have NZ : ∀ w, Hid (Calls Try.prog 32 #[.int .i64 (x + y)] w fun e w' => e = .returned (.int .i64 (need (x + y))) ∧ w = w') := fun w => Need_any w (x + y) (by omega)
  have NN : ∀ w, Hid (Calls Try.prog 32 #[.int .i64 (-x)] w fun e w' => e = .returned (.int .i64 (need (-x))) ∧ w = w') := fun w => Need_any w (-x) (by omega)
  rw [pn] at NN
  have f1 : need x + need y - need (x + y) = 0 ∨ need x + need y - need (x + y) = 1 := by rw [px, py, pz]; omega
  have f2 : 1 ≤ need x ∧ x ≤ 48 * need x ∧ 48 * (need x - 1) < x := by rw [px]; omega
  have f3 : 1 ≤ need y ∧ need y ≤ 30000 ∧ need x ≤ 30000 ∧ 0 ≤ need (x + y) ∧ need (x + y) ≤ 60000 := by rw [px, py, pz]; omega
  clear px py pz pn
  generalize need x = p at NX f1 f2 f3
  generalize need y = q at NY f1 f3
  generalize need (x + y) = r at NZ f1 f3
  have HX := Lib.hid NX
  have HY := Lib.hid NY
  have HZ := Lib.hid NZ
  have HN := Lib.hid NN
  clear NX NY NZ NN
  obtain ⟨f2a, f2b, f2c⟩ := f2
  have d1 : decide (x ≤ 48 * p) = true := decide_eq_true f2b
  have d2 : decide (48 * (p - 1) < x) = true := decide_eq_true f2c
  have d3 : decide (1 ≤ p) = true := decide_eq_true f2a
  go_enter Try.func8, Try.ntmps8
  go_wp2_with (go_at_call 9; with_reducible refine HA.out.mono ?_; rintro e w1 ⟨rfl, hb1⟩)
  have HB1 := Lib.hid hb1
  clear hb1 HA
  with_reducible refine ((HX.out _).out).mono ?_
  rintro e w2 ⟨rfl, rfl⟩
  go_wp2_with fail
  with_reducible refine ((HY.out _).out).mono ?_
  rintro e w2 ⟨rfl, rfl⟩
  go_wp2_with fail
  with_reducible refine ((HZ.out _).out).mono ?_
  rintro e w2 ⟨rfl, rfl⟩
  go_wp2_with fail
  all_goals
    with_reducible refine ((HX.out _).out).mono ?_
    rintro e w2 ⟨rfl, rfl⟩
    go_wp2_with fail
    with_reducible refine ((HX.out _).out).mono ?_
    rintro e w2 ⟨rfl, rfl⟩
    go_wp2_with fail
    with_reducible refine ((HX.out _).out).mono ?_
    rintro e w2 ⟨rfl, rfl⟩
    go_wp2_with fail
    with_reducible refine ((HN.out _).out).mono ?_
    rintro e w2 ⟨rfl, rfl⟩
    go_wp2_with fail
    go_ret
    exact ⟨rfl, HB1.out⟩
end Go.Proofs.Yticiaiiedagalaa.dk
/- The bytes that a law lays; what one record is told as. -/
namespace Go.Proofs.Yticiaiiedagalaa.dk
open Go.PlainAid Go.ChangeShapes Go.WideShapes Go.ChangeAt Go.RowKit

def bsOf (k : Nat) (c : Int) : List Int := (List.range k).map fun (i : Nat) => (c + (i : Int)) % 256
theorem bsOf_len (k : Nat) (c : Int) : (bsOf k c).length = k := by simp [bsOf]
theorem bsOf_bys (k : Nat) (c : Int) : Bys (bsOf k c) := fun x hx => by
  obtain ⟨i, _, rfl⟩ := List.mem_map.1 hx
  omega
def bsPart (k : Nat) (c : Int) (j : Nat) : List Int := (List.range k).map fun (i : Nat) => if i < j then (c + (i : Int)) % 256 else 0
theorem bsPart_len (k : Nat) (c : Int) (j : Nat) : (bsPart k c j).length = k := by simp [bsPart]
theorem bsPart_set (k : Nat) (c : Int) (j : Nat) : (bsPart k c j).set j ((c + (j : Int)) % 256) = bsPart k c (j + 1) := by
  apply List.ext_getElem?
  intro i
  rw [List.getElem?_set, bsPart_len]
  unfold bsPart
  rw [List.getElem?_map, List.getElem?_map]
  by_cases hi : i < k
  · rw [List.getElem?_range hi]
    simp only [Option.map_some]
    by_cases h : j = i
    · subst h
      rw [if_pos rfl, if_pos hi, if_pos (by omega)]
    · rw [if_neg h]
      by_cases h2 : i < j
      · rw [if_pos h2, if_pos (by omega)]
      · rw [if_neg h2, if_neg (by omega)]
  · rw [List.getElem?_eq_none (by rw [List.length_range]; omega)]
    by_cases h : j = i
    · subst h; rw [if_pos rfl, if_neg hi]; rfl
    · rw [if_neg h]; rfl
theorem make_any (k : Nat) (hk : k ≤ 100000000) (W : World) : (Instr.makeSlice 45 (.int .i64 (k : Int)) (.int .i64 (k : Int))).run Try.prog W = .ok (.slice (some ⟨W.heap.size, 0, none⟩) k k) (W.alloc (.cells (bcells (List.replicate k 0)).toArray 5)) := by
  obtain ⟨i0, hi, hz0, hz1, hz2⟩ := info_parts infoByte
  have hm := run_make (P := Try.prog) W 45 5 i0 (.int .u8 0) Try.underlying45 hi hz0 .i64 .i64 (k : Int) (k : Int) (by omega) (by omega) (by rw [hz2]; omega) (by omega)
  rw [hz1, Nat.mul_one, show ((k : Int)).toNat = k from rfl, show (Value.int .u8 0).cells = #[Value.int .u8 0] from rfl, made_zeros] at hm
  exact hm
def RowPost (w : World) (k : Nat) (l : List Int) (e : Ending) (w' : World) : Prop := ∃ G, e = .returned (.slice (some ⟨G, 0, none⟩) k k) ∧ w.heap.size ≤ G ∧ RowB G l w' ∧ Below w.heap.size w w'
set_option maxHeartbeats 4000000 in
set_option maxRecDepth 100000 in
theorem bytes2_any (w : World) (k : Nat) (c : Int) (hk : k ≤ 100000) :
    Calls Try.prog 28 #[.int .i64 (k : Int), .int .u8 c] w (RowPost w k (bsOf k c)) := by
  obtain ⟨zs, hz⟩ : ∃ zs, zs = (bcells (List.replicate k 0)).toArray := ⟨_, rfl⟩
  have hm := make_any k (by omega)
  rw [← hz] at hm
  have HZ := Lib.hid hz
  clear hz
  go_enter Try.func28, Try.ntmps28
  go_wp2_with fail
  generalize hw1 : w.alloc (.cells zs 5) = w1
  have h1 : RowB w.heap.size (bsPart k c 0) w1 := by
    have e : bsPart k c 0 = List.replicate k 0 := by
      unfold bsPart
      apply List.ext_getElem?
      intro i
      rw [List.getElem?_map, List.getElem?_replicate]
      by_cases hi : i < k
      · rw [List.getElem?_range hi, if_pos hi]; rfl
      · rw [List.getElem?_eq_none (by rw [List.length_range]; omega), if_neg hi]; rfl
    rw [e, ← hw1, HZ.out]; exact heap_alloc_new _ _
  have hb1 : Below w.heap.size w w1 := by rw [← hw1]; exact (Below.refl _ _).alloc (Nat.le_refl _) _
  have H1 := Lib.hid h1
  have HB1 := Lib.hid hb1
  clear hw1 hm HZ h1 hb1
  go_loopw [6] (fun v wr => ∃ j : Nat, v = .int .i64 (j : Int) ∧ j ≤ k ∧ Hid (RowB w.heap.size (bsPart k c j) wr) ∧ Hid (Below w.heap.size w wr)) (fun v _ => k - (intOf v).toNat)
  case atStart => exact ⟨0, rfl, Nat.zero_le _, H1.out, HB1.out⟩
  case round =>
    clear H1 HB1
    obtain ⟨j, rfl, hj, HR, HB⟩ := hrel
    by_cases hjk : j < k
    · have dj : decide ((j : Int) < (k : Int)) = true := decide_eq_true (by omega)
      have c0 := HR.out.cell j (by rw [bsPart_len]; exact hjk)
      have f0 := HR.out.frozen j
      have hs := HR.out.set j ((c + (j : Int)) % 256) (Nat.le_refl _) HB.out
      rw [bsPart_set] at hs
      have HS1 := Lib.hid hs.1
      have HS2 := Lib.hid hs.2
      clear hs
      generalize (bsPart k c j).getD j 0 = z at c0
      go_wp2_with fail
      constructor
      · exact ⟨j + 1, by go_num, by omega, HS1.out, HS2.out⟩
      · show k - ((j : Int) + 1).toNat < k - (j : Int).toNat
        omega
    · have dj : decide ((j : Int) < (k : Int)) = false := decide_eq_false (by omega)
      obtain rfl : j = k := by omega
      have e : Hid (bsPart j c j = bsOf j c) := by
        show bsPart j c j = bsOf j c
        unfold bsPart bsOf
        apply List.map_congr_left
        intro i hi
        rw [if_pos (List.mem_range.1 hi)]
      have HX : Hid (RowB w.heap.size (bsOf j c) wr) := by
        show RowB w.heap.size (bsOf j c) wr
        rw [← e.out]; exact HR.out
      go_wp2_with fail
      go_ret
      exact ⟨_, rfl, Nat.le_refl _, HX.out, HB.out⟩
/-- What a part holds behind one record on a fresh disk. -/
theorem one_at {D frm n N : Nat} {b : List Int} {m2 : Dk} (h : Laid { d := D, frm := frm, n := n, place := 0, num := 1, ses := 1, broken := false } b (needN b.length) (needN b.length) 0 (fresh N) m2) (hn : frm + n ≤ N) (i : Nat) (hi : i < n) :
    pcF m2.now frm i = if i < needN b.length then some (pieceOf 1 1 b (needN b.length) i) else none := by
  unfold pcF
  rw [h.at_ (frm + i) (by show frm + i < N; omega)]
  by_cases hc : i < needN b.length
  · rw [if_pos (by omega), if_pos hc, show frm + i - (frm + 0) = i by omega]
    exact pc_piece _ _ _ _ _
  · rw [if_neg (by omega), if_neg hc]
    exact pcF_fresh N frm i (by omega)
theorem told_one {D frm n N : Nat} {b : List Int} {m2 : Dk} (h : Laid { d := D, frm := frm, n := n, place := 0, num := 1, ses := 1, broken := false } b (needN b.length) (needN b.length) 0 (fresh N) m2) (hn : frm + n ≤ N) (hc : needN b.length ≤ n) (hb : needN b.length ≤ 65535) :
    toldOf m2.now frm n = (needN b.length, 2, [b]) ∧ sesOf m2.now frm n ≠ 4294967295 := by
  have hN := needN_bd b.length
  have r : RecHere (pcF m2.now frm) n 0 1 1 b := ⟨by omega, hb, by omega, by omega, fun i hi => by rw [Nat.zero_add, one_at h hn i (by omega), if_pos hi]⟩
  refine ⟨?_, ?_⟩
  · obtain ⟨k, rfl⟩ : ∃ k, n = k + 1 := ⟨n - 1, by omega⟩
    have e0 := gath_rec r k ((gr2 fN (pcF m2.now frm) (k + 1) + 1) % 4294967296) none [] rfl
    rw [Nat.zero_add] at e0
    refine e0.trans ?_
    by_cases hk : needN b.length < k + 1
    · exact gath_none _ _ _ _ (by rw [one_at h hn _ hk, if_neg (by omega)])
    · exact gath_out _ _ _ _ (by omega)
  · have := gr_le fS (pcF m2.now frm) 1 (by omega) n (fun i p hi hp => by
      rw [one_at h hn i hi] at hp
      split at hp
      · cases hp; exact Int.le_of_eq (piece_S _ _ _ _ _ (by omega))
      · cases hp)
    unfold sesOf
    omega
end Go.Proofs.Yticiaiiedagalaa.dk
/- JournalLong: a record of any length is told whole. -/
namespace Go.Proofs.Yticiaiiedagalaa.dk
open Go.PlainAid Go.ChangeShapes Go.WideShapes Go.ChangeAt Go.RowKit

theorem src_row {B D L N : Nat} {P : Value} {m : Dk} {w w2 : World} {G k : Nat} {l : List Int} (h : DiskAt B D L N P m w) (hG : w.heap.size ≤ G) (hr : RowB G l w2) (hl : l.length = k) : Src D L N P w2 (some ⟨G, 0, none⟩) k l :=
  ⟨hr.rd hl, fun g off e _ => by
    injection e with e
    injection e with e1 e2
    rw [← e1]
    exact xd_fresh h hG⟩
set_option maxHeartbeats 4000000 in
set_option maxRecDepth 100000 in
theorem long_any (n c : Int) (w : World) :
    Calls Try.prog 7 #[.int .i64 n, .int .u8 c] w fun e w' => e = .returned (.bool true) ∧ Below w.heap.size w w' := by
  have HA := Lib.hid (awake_any w)
  obtain ⟨k, hk⟩ := Int.eq_ofNat_of_zero_le (show 0 ≤ n % 2048 by omega)
  have hn : bits .and .i64 n 2047 = (k : Int) := by rw [andm2047, hk]
  have hk2 : k ≤ 2047 := by omega
  clear hk
  have hq : needN k ≤ 60 ∧ 1 ≤ needN k := by have := needN_bd k; split at this <;> omega

  go_enter Try.func7, Try.ntmps7
  go_wp2_with (go_at_call 9; with_reducible refine HA.out.mono ?_; rintro e w0 ⟨rfl, hb0⟩)
  have HB0 := Lib.hid hb0
  have hN : Calls Try.prog 11 #[.int .i64 64] w0 _ := New_any 64 w0 (by omega) (by omega)
  clear HA hb0
  with_reducible refine hN.mono ?_
  clear hN
  rintro e w1 ⟨D, L, N, rfl, h1, hb1⟩
  have H1 := Lib.hid h1
  have HB1 := Lib.hid (HB0.out.trans (hb1.mono HB0.out.size))
  have hs01 : w.heap.size ≤ w0.heap.size := HB0.out.size
  have hs1 : w0.heap.size ≤ w1.heap.size := hb1.size
  have hO : Calls Try.prog 13 #[.pointer (some ⟨D, 0, none⟩), .int .i64 3, .int .i64 60] w1 (OpenPost w1 D 3 60 (fresh 64).now) := Open_ok h1 rfl (free_fresh 64).by_ 3 60 (by omega) (by decide) (by rw [(told_none (fresh 64).now 3 60 (fun i hi => pcF_fresh 64 3 i (by omega))).2]; decide)
  have HO := Lib.hid hO
  clear h1 hb1 hO HB0
  go_wp2_with fail
  with_reducible refine HO.out.mono ?_
  clear HO
  rintro e w2 ⟨A, p2, cc2, vs2, rfl, hA, hl2, _, hb2⟩
  rw [logOf_fresh D 64 3 60 (by omega)] at hl2
  have e2 : Hid ((toldOf (fresh 64).now 3 60).2.2 = []) := by
    show (toldOf (fresh 64).now 3 60).2.2 = []
    rw [(told_none (fresh 64).now 3 60 (fun i hi => pcF_fresh 64 3 i (by omega))).1]
  rw [e2.out]
  have HD2 := Lib.hid (H1.out.below hb2)
  have HL2 := Lib.hid hl2
  have HB2 := Lib.hid (HB1.out.trans (hb2.mono HB1.out.size))
  have hwA : w0.heap.size ≤ A := Nat.le_trans hs1 hA
  have HBy := Lib.hid (bytes2_any w2 k c (by omega))
  clear hl2 hb2 H1 HB1 e2
  go_wp2_with fail
  with_reducible refine HBy.out.mono ?_
  clear HBy
  rintro e w3 ⟨G, rfl, hG, hr3, hb3⟩
  have hS3 := src_row HD2.out hG hr3 (bsOf_len k c)
  have hb3l := HL2.out.below hb3
  have hd3 := HD2.out.below hb3
  have hbl := bsOf_len k c
  have ha3 : Calls Try.prog 27 #[.pointer (some ⟨A, 0, none⟩), .slice (some ⟨G, 0, none⟩) k k] w3 (AppPost w0.heap.size D L N (.slice none 0 0) A (appendOf { d := D, frm := 3, n := 60, place := 0, num := 1, ses := 1, broken := false } (fresh 64) (bsOf k c)) w3) :=
    Append_at hd3 hb3l hwA _ 0 k k _ hS3 (by omega) (by omega) (by omega) (by omega) (by decide) (by decide) (by omega) (by omega)
  obtain ⟨m1, em1, hm1⟩ := append_free_at (D := D) (frm := 3) (n := 60) (pl := 0) (nu := 1) (s := 1) (m := fresh 64) (b := bsOf k c) (bsOf_bys k c) (free_fresh 64) (by rw [hbl]; omega) (by decide) (by rw [hbl]; omega)
  rw [em1] at ha3
  obtain ⟨ht1, ht2⟩ := told_one hm1 (by omega) (by rw [hbl]; omega) (by rw [hbl]; omega)
  rw [hbl] at ha3 ht1
  have HA3 := Lib.hid ha3
  have HM1 := Lib.hid hm1
  have HT1 := Lib.hid ht1
  have HT2 := Lib.hid ht2
  have HB3 := Lib.hid (HB2.out.trans (hb3.mono HB2.out.size))
  have HR3 := Lib.hid hr3
  have hGl := hr3.lt
  have HX3 := Lib.hid (xd_fresh HD2.out hG)
  have hGA : G ≠ A := by have := HL2.out.lt; omega
  clear hS3 hb3l hd3 ha3 em1 hm1 ht1 ht2 hr3 hb3 hbl HB2
  go_wp2_with fail
  with_reducible refine HA3.out.mono ?_
  clear HA3
  rintro e w4 ⟨P4, rfl, hd4, hl4, hf4⟩
  have hO4 : Calls Try.prog 13 #[.pointer (some ⟨D, 0, none⟩), .int .i64 3, .int .i64 60] w4 (OpenPost w4 D 3 60 m1.now) := Open_ok hd4 HM1.out.free.dead HM1.out.free.by_ 3 60 (by omega) (by show 3 + 60 ≤ m1.n; rw [HM1.out.n]; decide) HT2.out
  have HO4 := Lib.hid hO4
  have HR4 : Hid (RowB G (bsOf k c) w4) := (hf4.fr G hGl HX3.out hGA).trans HR3.out
  have HL4 := Lib.hid hl4
  have HB4 := Lib.hid (HB3.out.trans (hf4.below.mono hs01))
  clear hd4 hl4 hf4 hO4 HR3 HB3
  go_wp2_with fail
  with_reducible refine HO4.out.mono ?_
  clear HO4
  rintro e w5 ⟨A5, p5, cc5, vs5, rfl, _, hl5, hr5, hb5⟩
  rw [HT1.out] at hr5 ⊢
  have HB5 := Lib.hid (HB4.out.trans (hb5.mono HB4.out.size))
  have HL5a := Lib.hid (HL4.out.below hb5)
  have hl5' : LogAt A5 { d := D, frm := 3, n := 60, place := needN k, num := 2, ses := sesOf m1.now 3 60 + 1, broken := false } w5 := by
    unfold logOf at hl5
    rw [HT1.out] at hl5
    exact hl5
  have HL5b := Lib.hid hl5'
  obtain ⟨g0, q0, c0, e0, k0, r0⟩ := hr5.get 0 (by show 0 < 1; omega)
  subst e0
  have hR5 := HR4.out.below hb5
  have hN := Need_any w5 (k : Int) (by omega)
  rw [needN_eq] at hN
  have HN := Lib.hid hN
  have d60 : decide ((60 : Int) < (needN k : Int)) = false := decide_eq_false (by omega)
  rw [show ([bsOf k c] : List (List Int)).getD 0 [] = bsOf k c from rfl, bsOf_len] at k0 r0
  rw [show ([bsOf k c] : List (List Int)).length = 1 from rfl]
  have V1 : ∀ y, (convert 45 9 (.slice q0 k c0)).run Try.prog (w5.drewN y) = .ok (.string (strOf (bsOf k c))) (w5.drewN y) := fun y => conv_rd (r0.below (below_drewN (Below.refl _ _) _))
  have V2 : ∀ y, (convert 45 9 (.slice (some ⟨G, 0, none⟩) k k)).run Try.prog (w5.drewN y) = .ok (.string (strOf (bsOf k c))) (w5.drewN y) := fun y => conv_rd ((hR5.rd (bsOf_len k c)).below (below_drewN (Below.refl _ _) _))
  generalize strOf (bsOf k c) = s at V1 V2
  have NQ : ∀ y, Calls Try.prog 32 #[.int .i64 (k : Int)] (w5.drewN y) fun e w' => e = .returned (.int .i64 (needN k : Int)) ∧ w' = w5.drewN y := fun y => by
    have := Need_any (w5.drewN y) (k : Int) (by omega)
    rw [needN_eq] at this
    exact same_of this
  have HNQ := Lib.hid NQ
  have RA : ∀ y, Calls Try.prog 30 #[.pointer (some ⟨A, 0, none⟩)] (w5.drewN y) fun e w' => e = .returned (.int .i64 (((60 : Nat) : Int) - ((0 + needN k : Nat) : Int))) ∧ ∃ z, w' = (w5.drewN y).drewN z := fun y => Room_any (HL5a.out.below (below_drewN (Below.refl _ _) y)) (by show (60 : Nat) ≤ 1000000; omega) (by show 0 + needN k ≤ 1000000; omega)
  have RB : ∀ y, Calls Try.prog 30 #[.pointer (some ⟨A5, 0, none⟩)] (w5.drewN y) fun e w' => e = .returned (.int .i64 (((60 : Nat) : Int) - (needN k : Int))) ∧ ∃ z, w' = (w5.drewN y).drewN z := fun y => Room_any (HL5b.out.below (below_drewN (Below.refl _ _) y)) (by show (60 : Nat) ≤ 1000000; omega) (by show needN k ≤ 1000000; omega)
  rw [Nat.zero_add] at RA
  rw [show ((60 : Nat) : Int) = 60 from rfl] at RA RB
  have HRA := Lib.hid RA
  have HRB := Lib.hid RB
  generalize hnk : needN k = q at HN HNQ HRA HRB d60 hq
  clear NQ RA RB hl5 hl5' hr5 hb5 r0 hR5 hN HL5a HL5b HT1 HT2 HM1 HR4 HB4 hnk
  go_wp2_with fail
  with_reducible refine HN.out.mono ?_
  rintro e w' ⟨rfl, rfl⟩
  go_wp2_with fail
  go_quiet ((first
    | (go_at_call_of 30 (Value.pointer (some ⟨A, 0, none⟩)); exact Calls.quiet_of (HRA.out _))
    | (go_at_call_of 30 (Value.pointer (some ⟨A5, 0, none⟩)); exact Calls.quiet_of (HRB.out _))
    | (go_at_call 32; exact Calls.quiet_of_same (HNQ.out _))))
  go_wp2
  go_ret
  exact ⟨rfl, HB5.out.trans (below_drewN (Below.refl _ _) _)⟩
end Go.Proofs.Yticiaiiedagalaa.dk
/- Reset; what two records one over the other are told as. -/
namespace Go.Proofs.Yticiaiiedagalaa.dk
open Go.PlainAid Go.ChangeShapes Go.WideShapes Go.ChangeAt Go.RowKit

theorem Reset_any {B A : Nat} {g : Lg} {w : World} (hg : LogAt A g w) (hBA : B ≤ A) :
    Calls Try.prog 25 #[.pointer (some ⟨A, 0, none⟩)] w fun e w' => e = .returned (.tuple #[]) ∧ LogAt A { g with place := 0 } w' ∧ Below B w w' ∧ Fr A w w' := by
  have c3 := hg.cell 3
  simp only [lgcells] at c3
  simp at c3
  have f3 := hg.frozen 3
  have HT := Lib.hid (hg.turn (g' := { g with place := 0 }) 3 (.int .i64 0) rfl hBA (Below.refl B w))
  clear hg
  go_enter Try.func25, Try.ntmps25
  go_wp2_with fail
  go_end0
  exact ⟨rfl, HT.out⟩
theorem Reset_nil (w : World) :
    Calls Try.prog 25 #[.pointer none] w fun e w' => e = .returned (.tuple #[]) ∧ w = w' := by
  go_enter Try.func25, Try.ntmps25
  go_wp2_with fail
  go_end0
  exact ⟨rfl, rfl⟩
theorem Append_nil (w : World) (p : Option Addr) (k c : Nat) (hk : k ≤ 100000000) :
    Calls Try.prog 27 #[.pointer none, .slice p k c] w fun e w' => e = .returned (.int .i64 10) ∧ w = w' := by
  have HN := Lib.hid (Need_any w (k : Int) (by omega))
  go_enter Try.func27, Try.ntmps27
  go_wp2_with (go_at_call 32; with_reducible refine HN.out.mono ?_; rintro e w' ⟨rfl, rfl⟩)
  go_ret
  exact ⟨rfl, rfl⟩
theorem Src.lk {B D L N A : Nat} {P P' : Value} {w w' : World} {p : Option Addr} {n : Nat} {b : List Int} (h : Src D L N P w p n b) (k : LkF B D L N P A w P' w') (hA : ∀ g off, p = some ⟨g, off, none⟩ → g ≠ A) : Src D L N P' w' p n b := by
  obtain ⟨h1, h2⟩ := h
  refine ⟨⟨h1.1, fun h0 => ?_⟩, fun g off e h0 => ?_⟩
  · obtain ⟨g, off, e, hlt, hc⟩ := h1.2 h0
    refine ⟨g, off, e, Nat.lt_of_lt_of_le hlt k.below.size, fun i hi => ?_⟩
    rw [World.cell?_of_block (a := ⟨g, off + i, none⟩) (k.fr g hlt (h2 g off e h0) (hA g off e))]
    exact hc i hi
  · obtain ⟨g', off', e', hlt, _⟩ := h1.2 h0
    have : g = g' := by rw [e] at e'; injection e' with e'; injection e'
    subst this
    have hx := h2 g off e h0
    rintro (e1 | e1 | e1 | e1)
    · exact hx (.inl e1)
    · exact hx (.inr (.inl e1))
    · exact hx (.inr (.inr (.inl e1)))
    · rcases k.nw g e1 with h1 | h1
      · exact hx (.inr (.inr (.inr h1)))
      · omega
theorem append_full (g : Lg) (m : Dk) (b : List Int) (hg : g.broken = false) (hbig : needN b.length ≤ 65535) (hf : g.n < g.place + needN b.length) : appendOf g m b = (g, m, 5) := by
  unfold appendOf
  rw [if_neg (by rw [hg]; decide), if_neg (by omega), if_pos hf]
/-- A record over what is left of another one. -/
theorem told_over {D n N : Nat} {x y : List Int} {nu : Int} {cx : Nat} {m1 m2 : Dk} (h1 : ∀ i, i < n → pcF m1.now 0 i = if i < cx then some (pieceOf 1 1 x cx i) else none) (hN : m1.n = N) (hn : n ≤ N)
    (hnu : 0 ≤ nu ∧ nu ≤ 4294967294) (h2 : Laid { d := D, frm := 0, n := n, place := 0, num := nu, ses := 1, broken := false } y (needN y.length) (needN y.length) 0 m1 m2) (hc : needN y.length ≤ n) (hb : needN y.length ≤ 65535) :
    (toldOf m2.now 0 n).2.2 = [y] ∧ sesOf m2.now 0 n ≠ 4294967295 := by
  have hNd := needN_bd y.length
  have at2 : ∀ i, i < n → pcF m2.now 0 i = if i < needN y.length then some (pieceOf 1 nu y (needN y.length) i) else pcF m1.now 0 i := fun i hi => by
    unfold pcF
    rw [h2.at_ (0 + i) (by omega)]
    by_cases h : i < needN y.length
    · rw [if_pos (by omega), if_pos h, show 0 + i - (0 + 0) = i by omega]
      exact pc_piece _ _ _ _ _
    · rw [if_neg (by omega), if_neg h]
  have r : RecHere (pcF m2.now 0) n 0 1 nu y := ⟨by omega, hb, by omega, by omega, fun i hi => by rw [Nat.zero_add, at2 i (by omega), if_pos hi]⟩
  refine ⟨?_, ?_⟩
  · obtain ⟨k, rfl⟩ : ∃ k, n = k + 1 := ⟨n - 1, by omega⟩
    have e0 := gath_rec r k ((gr2 fN (pcF m2.now 0) (k + 1) + 1) % 4294967296) none [] rfl
    rw [Nat.zero_add] at e0
    have e : (toldOf m2.now 0 (k + 1)).2.2 = (gathF (pcF m2.now 0) (k + 1) k (needN y.length) ((nu + 1) % 4294967296) (some (pieceOf 1 nu y (needN y.length) 0)) ([] ++ [y])).2.2 := congrArg (fun z => z.2.2) e0
    rw [e]
    by_cases hk : needN y.length < k + 1
    · by_cases hx : needN y.length < cx
      · rw [gath_mid _ _ _ _ (pieceOf 1 1 x cx (needN y.length)) (by rw [at2 _ hk, if_neg (by omega), h1 _ hk, if_pos hx]) (by rw [piece_P _ _ _ _ _ (by omega)]; omega)]
        rfl
      · rw [gath_none _ _ _ _ (by rw [at2 _ hk, if_neg (by omega), h1 _ hk, if_neg hx])]
        rfl
    · rw [gath_out _ _ _ _ (by omega)]
      rfl
  · have := gr_le fS (pcF m2.now 0) 1 (by omega) n (fun i p hi hp => by
      rw [at2 i hi, h1 i hi] at hp
      split at hp
      · cases hp; exact Int.le_of_eq (piece_S _ _ _ _ _ (by omega))
      · split at hp
        · cases hp; exact Int.le_of_eq (piece_S _ _ _ _ _ (by omega))
        · cases hp)
    unfold sesOf
    omega
end Go.Proofs.Yticiaiiedagalaa.dk
