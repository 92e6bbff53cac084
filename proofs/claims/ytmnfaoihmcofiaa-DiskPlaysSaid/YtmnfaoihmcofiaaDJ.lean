/- For all numbers DiskLimits answers true. -/
import Derived.Test.YtmnfaoihmcofiaaDI
import Derived.Laws.Bits128
namespace Go.Proofs.Ytmnfaoihmcofiaa.dk
open Go.PlainAid Go.ChangeShapes Go.WideShapes Go.ChangeAt Go.RowKit

theorem and15 (n : Int) : bits .and .i64 n 15 = n % 16 := by
  have h127 : (BitVec.ofInt 64 15).toNat = 2 ^ 4 - 1 := by decide
  have key : (BitVec.ofInt 64 n &&& BitVec.ofInt 64 15).toNat = (n % ((2 ^ 64 : Nat) : Int)).toNat % 2 ^ 4 := by
    rw [BitVec.toNat_and, BitVec.toNat_ofInt, h127, Nat.and_two_pow_sub_one_eq_mod]
  show IntKind.i64.wrap ((BitVec.ofInt 64 n &&& BitVec.ofInt 64 15).toNat : Nat) = n % 16
  rw [key, IntKind.wrap_i64]
  omega
theorem and3 (n : Int) : bits .and .i64 n 3 = n % 4 := by
  have h127 : (BitVec.ofInt 64 3).toNat = 2 ^ 2 - 1 := by decide
  have key : (BitVec.ofInt 64 n &&& BitVec.ofInt 64 3).toNat = (n % ((2 ^ 64 : Nat) : Int)).toNat % 2 ^ 2 := by
    rw [BitVec.toNat_and, BitVec.toNat_ofInt, h127, Nat.and_two_pow_sub_one_eq_mod]
  show IntKind.i64.wrap ((BitVec.ofInt 64 n &&& BitVec.ofInt 64 3).toNat : Nat) = n % 4
  rw [key, IntKind.wrap_i64]
  omega
theorem and7 (n : Int) : bits .and .i64 n 7 = n % 8 := by
  have h127 : (BitVec.ofInt 64 7).toNat = 2 ^ 3 - 1 := by decide
  have key : (BitVec.ofInt 64 n &&& BitVec.ofInt 64 7).toNat = (n % ((2 ^ 64 : Nat) : Int)).toNat % 2 ^ 3 := by
    rw [BitVec.toNat_and, BitVec.toNat_ofInt, h127, Nat.and_two_pow_sub_one_eq_mod]
  show IntKind.i64.wrap ((BitVec.ofInt 64 n &&& BitVec.ofInt 64 7).toNat : Nat) = n % 8
  rw [key, IntKind.wrap_i64]
  omega

/-- The disk behind i writes under a limit of x. -/
def Lim (x i : Nat) (m : Dk) : Prop := m.n = 4 ∧ m.writes = (min i x : Nat) ∧ m.pend.length ≤ i ∧ (i ≤ x → m.dead = false ∧ m.limit = (x : Int) - i) ∧ (x < i → m.dead = true)

set_option maxHeartbeats 4000000 in
set_option maxRecDepth 20000 in
theorem limits_any (n k : Int) (w : World) (_hk : (Lit.int .i64 k).wf = true) :
    Calls Try.prog 5 #[.int .i64 n, .int .i64 k] w fun e w' => e = .returned (.bool true) ∧ Below w.heap.size w w' := by
  have HA := Lib.hid (awake_any w)
  obtain ⟨x, hx⟩ := Int.eq_ofNat_of_zero_le (show 0 ≤ n % 16 by omega)
  have hx15 : x ≤ 15 := by omega
  have hx' : bits .and .i64 n 15 = (x : Int) := by rw [and15, hx]
  clear hx
  go_enter Try.func5, Try.ntmps5
  go_wp2_with fail
  with_reducible refine HA.out.mono ?_
  clear HA
  rintro e w0 ⟨rfl, hb0⟩
  go_wp2_with fail
  have hN := New_any 4 w0 (by omega) (by omega)
  rw [show ((4 : Nat) : Int) = 4 from rfl] at hN
  with_reducible refine hN.mono ?_
  clear hN
  rintro e w1 ⟨D, L, N, rfl, h1, hb1⟩
  have hb1' := hb0.trans (hb1.mono hb0.size)
  have hB := Nat.le_trans hb0.size (Nat.le_refl w0.heap.size)
  go_wp2_with fail
  have hL := Limit_any h1 (x : Int) (by omega) (by omega)
  rw [show max (x : Int) (-1) = (x : Int) by omega] at hL
  with_reducible refine hL.mono ?_
  clear hL
  rintro e w2 ⟨rfl, h2, hb2, _⟩
  have HB2 := Lib.hid (hb1'.trans (hb2.mono hB))
  have H2 := Lib.hid h2
  have hBw : w.heap.size ≤ w0.heap.size := hb0.size
  clear h1 hb1 hb1' hb2 h2 hb0
  go_wp2_with fail
  go_loopw [9, 10] (fun dn i wr => ∃ (j c : Nat) (m : Dk) (P : Value), dn = .int .i64 (c : Int) ∧ i = .int .i64 (j : Int) ∧ j ≤ 20 ∧ c ≤ 20 ∧ Hid (c = min j x) ∧ Hid (Lim x j m) ∧ Hid (DiskAt w0.heap.size D L N P m wr) ∧ Below w.heap.size w wr) (fun _ i _ => 20 - (intOf i).toNat)
  case atStart => exact ⟨0, 0, _, _, rfl, rfl, by omega, by omega, by show (0 : Nat) = min 0 x; omega, ⟨rfl, by show (0 : Int) = ((min 0 x : Nat) : Int); omega, Nat.le_refl _, fun _ => ⟨rfl, by show (x : Int) = (x : Int) - ((0 : Nat) : Int); omega⟩, fun h => absurd h (by omega)⟩, H2.out, HB2.out⟩
  case round =>
    clear H2 HB2
    obtain ⟨j, c, m, P, rfl, rfl, hj, hc, HC, HM, HD, hb⟩ := hrel
    by_cases hj20 : j < 20
    · have dj : decide ((j : Int) < 20) = true := decide_eq_true (by omega)
      obtain ⟨q, hq⟩ : ∃ q, q = j % 4 := ⟨_, rfl⟩
      have hj3 : bits .and .i64 (j : Int) 3 = (q : Int) := by rw [and3]; omega
      have hbn : Below wr.heap.size wr (wr.alloc (.cells #[.int .u8 1] 5)) := (Below.refl _ _).alloc (Nat.le_refl _) _
      have h5 := HD.out.below hbn
      have hb5 := hb.trans (hbn.mono hb.size)
      have hR : Rd (wr.alloc (.cells #[.int .u8 1] 5)) (some ⟨wr.heap.size, 0, none⟩) 1 [1] := ⟨rfl, fun _ => ⟨_, _, rfl, (Array.getElem?_eq_some_iff.1 (heap_alloc_new wr (.cells #[.int .u8 1] 5))).1, fun qq hqq => by
        obtain rfl : qq = 0 := by omega
        rw [cell_of_row _ _ _ _ _ _ (heap_alloc_new wr _)]
        rfl⟩⟩
      obtain ⟨hm1, hm2, hm3, hm4, hm5⟩ := HM.out
      have hc' := HC.out
      have hj4 : q < m.n := by omega
      clear hq
      have hwr : m.writes < 1000000 := by omega
      rcases (show j < x ∨ j = x ∨ x < j by omega) with h | h | h
      · obtain ⟨hd, hl⟩ := hm4 (by omega)
        have HW := Lib.hid (Write_ok (m1 := { m with limit := m.limit - 1, writes := m.writes + 1 }) h5 (some ⟨wr.heap.size, 0, none⟩) 1 1 [1] q (by omega) hj4 hd hR rfl (show m.pend.length ≤ 1000000 by omega) (spend_some h5 (by omega) hwr))
        have HMn : Hid (Lim x (j + 1) { { m with limit := m.limit - 1, writes := m.writes + 1 } with now := lay m.now (q * 64) (pad [1]), pend := m.pend ++ [(q, pad [1])] }) := by
          refine ⟨hm1, ?_, ?_, fun _ => ⟨hd, ?_⟩, fun hh => absurd hh (by omega)⟩
          · show m.writes + 1 = ((min (j + 1) x : Nat) : Int); omega
          · show (m.pend ++ [(q, pad [1])]).length ≤ j + 1; rw [List.length_append, List.length_singleton]; omega
          · show m.limit - 1 = (x : Int) - ((j + 1 : Nat) : Int); omega
        have HCn : Hid (c + 1 = min (j + 1) x) := by show c + 1 = min (j + 1) x; omega
        have hc19 : c + 1 ≤ 20 := by omega
        have HB5 := Lib.hid hb5
        have hB0 := Lib.hid (HD.out.bD)
        clear HC HM HD hb hbn h5 hb5 hR hm1 hm2 hm3 hm4 hm5 hc' hj4 hwr h hd hl
        go_wp2_with fail
        with_reducible refine HW.out.mono ?_
        rintro e w6 ⟨P6, rfl, h6, hb6, _⟩
        go_wp2
        constructor
        · exact ⟨j + 1, c + 1, _, P6, by go_num, by go_num, by omega, by omega, HCn, HMn, h6, HB5.out.trans (hb6.below.mono hBw)⟩
        · show 20 - ((j : Int) + 1).toNat < 20 - (j : Int).toNat
          omega
      · obtain ⟨hd, hl⟩ := hm4 (by omega)
        have HW := Lib.hid (Write_stop h5 hd (by omega) q (some ⟨wr.heap.size, 0, none⟩) 1 1 hj4 (by omega))
        have HMn : Hid (Lim x (j + 1) { m with dead := true }) := by
          refine ⟨hm1, ?_, by show m.pend.length ≤ j + 1; omega, fun hh => absurd hh (by omega), fun _ => rfl⟩
          show m.writes = ((min (j + 1) x : Nat) : Int); omega
        have HCn : Hid (c = min (j + 1) x) := by show c = min (j + 1) x; omega
        have HB5 := Lib.hid hb5
        clear HC HM HD hb hbn h5 hb5 hR hm1 hm2 hm3 hm4 hm5 hc' hj4 hwr h hd hl
        go_wp2_with (go_at_call 11; with_reducible refine HW.out.mono ?_; rintro e w6 ⟨rfl, h6, hb6⟩)
        constructor
        · exact ⟨j + 1, c, _, P, rfl, by go_num, by omega, by omega, HCn, HMn, h6, HB5.out.trans (hb6.mono hBw)⟩
        · show 20 - ((j : Int) + 1).toNat < 20 - (j : Int).toNat
          omega
      · have HW := Lib.hid (Write_dead h5 (hm5 h) (q : Int) (.slice (some ⟨wr.heap.size, 0, none⟩) 1 1))
        have HMn : Hid (Lim x (j + 1) m) := by
          refine ⟨hm1, ?_, by omega, fun hh => absurd hh (by omega), fun _ => hm5 h⟩
          omega
        have HCn : Hid (c = min (j + 1) x) := by show c = min (j + 1) x; omega
        have HB5 := Lib.hid hb5
        have H5 := Lib.hid h5
        clear HC HM HD hb hbn h5 hb5 hR hm1 hm2 hm3 hm4 hm5 hc' hj4 hwr h
        go_wp2_with (go_at_call 11; with_reducible refine HW.out.mono ?_; rintro e w6 ⟨rfl, rfl⟩)
        constructor
        · exact ⟨j + 1, c, _, P, rfl, by go_num, by omega, by omega, HCn, HMn, H5.out, HB5.out⟩
        · show 20 - ((j : Int) + 1).toNat < 20 - (j : Int).toNat
          omega
    · have dj : decide ((j : Int) < 20) = false := decide_eq_false (by omega)
      obtain rfl : c = x := by have := HC.out; omega
      obtain ⟨hm1, hm2, hm3, hm4, hm5⟩ := HM.out
      have hdead := hm5 (by omega)
      have hmw : m.writes = (c : Int) := by rw [hm2]; have := HC.out; omega
      have hDd := Dead_any HD.out
      rw [hdead] at hDd
      have hWr := Writes_any HD.out
      rw [hmw] at hWr
      have HDd := Lib.hid hDd
      have HWr := Lib.hid hWr
      have HSy := Lib.hid (Sync_dead HD.out hdead)
      have HRo := Lib.hid (Reopen_any HD.out none 0 0 [] ⟨rfl, fun h => absurd h (by omega)⟩ (by omega) (by omega))
      have hn4 : Hid (m.n = 4) := hm1
      have hw15 : Hid (m.writes ≤ 15) := by show m.writes ≤ 15; omega
      have HB5 := Lib.hid hb
      have cc : ((c : Int) != (c : Int)) = false := by simp
      clear hDd hWr HC HM HD hb hm1 hm2 hm3 hm4 hm5 hdead hmw
      go_wp2_with (first
        | (go_at_call 19; with_reducible refine (Read_nil _ k).mono ?_; rintro e w' ⟨rfl, rfl⟩)
        | (go_at_call 15; with_reducible refine (Limit_nil k _).mono ?_; rintro e w' ⟨rfl, rfl⟩)
        | (go_at_call 17; with_reducible refine (Reopen_nil _ _).mono ?_; rintro e w' ⟨rfl, rfl⟩)
        | (go_at_call 21; with_reducible refine HDd.out.mono ?_; rintro e w' ⟨rfl, rfl⟩)
        | (go_at_call 22; with_reducible refine HWr.out.mono ?_; rintro e w' ⟨rfl, rfl⟩)
        | (go_at_call 13; with_reducible refine HSy.out.mono ?_; rintro e w' ⟨rfl, rfl⟩))
      with_reducible refine HRo.out.mono ?_
      rintro e w7 ⟨rfl, h7, hb7⟩
      have hb7' := HB5.out.trans (hb7.below.mono hBw)
      have hD7 := Dead_any h7
      rw [show (reopened [] m).dead = false from rfl] at hD7
      have HD7 := Lib.hid hD7
      have hW7 := Write_ok (m1 := { reopened [] m with writes := (reopened [] m).writes + 1 }) h7 none 0 0 [] 0 (by omega) (by show 0 < m.n; rw [hn4.out]; omega) rfl ⟨rfl, fun h => absurd h (by omega)⟩ rfl (show ([] : List (Nat × List Int)).length ≤ 1000000 by decide) (spend_free h7 (show (-1 : Int) < 0 by omega) (show m.writes < 1000000 by have := hw15.out; omega))
      rw [show ((0 : Nat) : Int) = 0 from rfl] at hW7
      have HW7 := Lib.hid hW7
      clear hD7 hW7 h7 hb7 HRo HSy HWr HDd HB5 hn4 hw15
      go_wp2_with (go_at_call 21; with_reducible refine HD7.out.mono ?_; rintro e w' ⟨rfl, rfl⟩)
      with_reducible refine HW7.out.mono ?_
      rintro e w8 ⟨P8, rfl, h8, hb8, _⟩
      have hb8' := Lib.hid (hb7'.trans (hb8.below.mono hBw))
      clear HW7 HD7 h8 hb8 hb7'
      go_wp2_with (first
        | (go_at_call 11; with_reducible refine (Write_nil _ k _).mono ?_; rintro e w' ⟨rfl, rfl⟩)
        | (go_at_call 13; with_reducible refine (Sync_nil _).mono ?_; rintro e w' ⟨rfl, rfl⟩)
        | (go_at_call 21; with_reducible refine (Dead_nil _).mono ?_; rintro e w' ⟨rfl, rfl⟩)
        | (go_at_call 24; with_reducible refine (Size_nil _).mono ?_; rintro e w' ⟨rfl, rfl⟩)
        | (go_at_call 22; with_reducible refine (Writes_nil _).mono ?_; rintro e w' ⟨rfl, rfl⟩)
        | (go_at_call 23; with_reducible refine (Pending_nil _).mono ?_; rintro e w' ⟨rfl, rfl⟩))
      go_ret
      exact ⟨rfl, hb8'.out⟩
end Go.Proofs.Ytmnfaoihmcofiaa.dk
