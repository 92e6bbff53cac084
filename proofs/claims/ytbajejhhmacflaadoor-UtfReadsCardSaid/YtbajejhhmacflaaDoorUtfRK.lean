/- The document's answer: Quote. -/
import Derived.Test.YtbajejhhmacflaaDoorUtfQM
import Derived.Deep.QuietTactic
import Derived.BigQuiet
namespace Go.Proofs.YtbajejhhmacflaaDoor.utf
open Go.PlainAid Go.ChangeShapes Go.WideShapes Go.ChangeAt Go.RowKit

theorem ints_append (a b : ByteArray) : ints (a ++ b) = ints a ++ ints b := by
  unfold ints
  rw [ByteArray.data_append, Array.toList_append, List.map_append]
theorem ints_piece (s : ByteArray) (k : Nat) (h : k < s.size) : ints (s.extract k (k + 1)) = [gl (ints s) k] := by
  have hl : (ints (s.extract k (k + 1))).length = 1 := by rw [ints_length]; simp; omega
  obtain ⟨x, hx⟩ := List.length_eq_one_iff.1 hl
  rw [hx]
  congr 1
  have : gl (ints (s.extract k (k + 1))) 0 = x := by rw [hx]; rfl
  rw [← this]
  unfold ints gl
  simp [List.getD_eq_getElem?_getD, List.getElem?_drop]
theorem ints_hex (y : Int) (h0 : 0 ≤ y) (h1 : y < 16) (a b : Nat) (ha : a = y.toNat) (hb : b = y.toNat + 1) : ints ((⟨#[48, 49, 50, 51, 52, 53, 54, 55, 56, 57, 97, 98, 99, 100, 101, 102]⟩ : ByteArray).extract a b) = [hx false y] := by
  subst ha hb
  have hs : y.toNat < (⟨#[48, 49, 50, 51, 52, 53, 54, 55, 56, 57, 97, 98, 99, 100, 101, 102]⟩ : ByteArray).size := by show y.toNat < 16; omega
  rw [ints_piece _ _ hs, ints_gl, ← get_bt _ _ hs, hex_at y h0 h1]

set_option maxHeartbeats 2000000 in
theorem qs_len : ∀ l : List Int, (qs l).length ≤ 6 * l.length
  | [] => Nat.zero_le _
  | x :: l => by
    have h := qs_len l
    have := qb_len x
    show (qb x ++ qs l).length ≤ _
    rw [List.length_append, List.length_cons]
    omega

set_option maxRecDepth 20000 in
theorem RQuote_any (s : ByteArray) (w : World) (hs : s.size ≤ 1000) :
    Calls Tryd.prog 21 #[.string s] w fun e w' => e = .returned (.string (strOf (34 :: (qs (ints s) ++ [34])))) ∧ Below w.heap.size w w' := by
  obtain ⟨Q, hQ⟩ : ∃ Q, Q = 34 :: (qs (ints s) ++ [34]) := ⟨_, rfl⟩
  have HQ : Hid (Q = ints ⟨#[34]⟩ ++ (qs ((ints s).drop 0) ++ [34])) := hQ
  have hQl : Q.length ≤ 6002 := by
    have h1 := qs_len (ints s)
    rw [ints_length] at h1
    rw [hQ]
    simp
    omega
  rw [← hQ]
  clear hQ
  go_enter Tryd.func21, Tryd.ntmps21
  go_wp2
  go_loopw [3, 5] (fun o i wr => ∃ (k : Nat) (y : ByteArray), o = .string y ∧ i = .int .i64 k ∧ k ≤ s.size ∧ Hid (Q = ints y ++ (qs ((ints s).drop k) ++ [34])) ∧ Below w.heap.size w wr) (fun _ i _ => s.size - (intOf i).toNat)
  case atStart => exact ⟨0, _, rfl, rfl, Nat.zero_le _, HQ, Below.refl _ _⟩
  case round =>
    clear HQ
    obtain ⟨k, y, rfl, rfl, hk, hN, hb⟩ := hrel
    have hyl : y.size ≤ 6002 := by
      have := congrArg List.length hN.out
      rw [List.length_append, ints_length] at this
      omega
    clear hQl
    by_cases hkl : k < s.size
    · have hd : decide ((k : Int) < s.size) = true := decide_eq_true (by omega)
      obtain ⟨x, hxv⟩ : ∃ x, ((s[k].toNat : Nat) : Int) = x := ⟨_, rfl⟩
      have hgx : gl (ints s) k = x := by rw [ints_gl, ← get_bt s k hkl]; exact hxv
      have hp : Hid (ints (s.extract k (k + 1)) = [x]) := by rw [ints_piece s k hkl, hgx]; trivial
      have hx0 : 0 ≤ x := by omega
      have hx1 : x ≤ 255 := by have := s[k].toNat_lt; omega
      have hq := hN.out
      rw [qs_drop (by rw [ints_length]; exact hkl), hgx] at hq
      clear hN hgx
      by_cases hA : x = 34 ∨ x = 92
      · have hq' : Hid (Q = ints y ++ [92] ++ [x] ++ (qs ((ints s).drop (k + 1)) ++ [34])) := by
          rw [hq, show qb x = [92, x] from if_pos hA]; simp only [List.append_assoc, List.cons_append, List.nil_append]; trivial
        clear hq
        have hxor : (x == 34) = true ∨ ((x == 34) = false ∧ (x == 92) = true) := by
          rcases hA with rfl | rfl
          · exact .inl rfl
          · exact .inr ⟨rfl, rfl⟩
        clear hA
        rcases hxor with x34 | ⟨x34, x92⟩
        all_goals
          go_wp2
          constructor
          · exact ⟨k + 1, _, rfl, by go_num, by omega, by rw [ints_append, ints_append, hp.out]; exact hq', hb⟩
          · show s.size - ((k : Int) + 1).toNat < s.size - (k : Int).toNat
            omega
      have x34 : (x == 34) = false := beq_eq_false_iff_ne.2 (by omega)
      have x92 : (x == 92) = false := beq_eq_false_iff_ne.2 (by omega)
      by_cases hB : 32 ≤ x
      · have hq' : Hid (Q = ints y ++ [x] ++ (qs ((ints s).drop (k + 1)) ++ [34])) := by
          rw [hq, show qb x = [x] by unfold qb; rw [if_neg hA, if_pos hB]]; simp only [List.append_assoc]; trivial
        have x8 : (x == 8) = false := beq_eq_false_iff_ne.2 (by omega)
        have x9 : (x == 9) = false := beq_eq_false_iff_ne.2 (by omega)
        have x10 : (x == 10) = false := beq_eq_false_iff_ne.2 (by omega)
        have x12 : (x == 12) = false := beq_eq_false_iff_ne.2 (by omega)
        have x13 : (x == 13) = false := beq_eq_false_iff_ne.2 (by omega)
        have x32 : decide (x < 32) = false := decide_eq_false (by omega)
        clear hq hA
        go_wp2
        constructor
        · exact ⟨k + 1, _, rfl, by go_num, by omega, by rw [ints_append, hp.out]; exact hq', hb⟩
        · show s.size - ((k : Int) + 1).toNat < s.size - (k : Int).toNat
          omega
      clear hp
      by_cases hC : letter x = 0
      · have hne : x ≠ 8 ∧ x ≠ 9 ∧ x ≠ 10 ∧ x ≠ 12 ∧ x ≠ 13 := by
          refine ⟨?_, ?_, ?_, ?_, ?_⟩ <;> (rintro rfl; revert hC; decide)
        have hq' : Hid (Q = ints y ++ [92, 117, 48, 48] ++ [hx false (x / 16)] ++ [hx false (x % 16)] ++ (qs ((ints s).drop (k + 1)) ++ [34])) := by
          have e : hx false (x / 16) = 48 + x / 16 := by unfold hx; rw [if_pos (by omega)]
          have e1 : qb x = [92, 117, 48, 48, 48 + x / 16, hx false (x % 16)] := by unfold qb; rw [if_neg hA, if_neg hB, if_neg (by simp [hC])]
          rw [hq, e1, e]; simp only [List.append_assoc, List.cons_append, List.nil_append]; trivial
        have x8 : (x == 8) = false := beq_eq_false_iff_ne.2 hne.1
        have x9 : (x == 9) = false := beq_eq_false_iff_ne.2 hne.2.1
        have x10 : (x == 10) = false := beq_eq_false_iff_ne.2 hne.2.2.1
        have x12 : (x == 12) = false := beq_eq_false_iff_ne.2 hne.2.2.2.1
        have x13 : (x == 13) = false := beq_eq_false_iff_ne.2 hne.2.2.2.2
        have x32 : decide (x < 32) = true := decide_eq_true (by omega)
        have hx32 : x < 32 := by omega
        clear hq hA hC hB hne
        go_wp2
        go_quiet (fail)
        go_wp2
        constructor
        · exact ⟨k + 1, _, rfl, by go_num, by omega, by rw [ints_append, ints_append, ints_append, ints_hex (x / 16) (by omega) (by omega) _ _ rfl (by omega), ints_hex (x % 16) (by omega) (by omega) _ _ rfl (by omega)]; exact hq', below_drewN hb _⟩
        · show s.size - ((k : Int) + 1).toNat < s.size - (k : Int).toNat
          omega
      · have hq' : Hid (Q = ints y ++ [92, letter x] ++ (qs ((ints s).drop (k + 1)) ++ [34])) := by
          rw [hq, show qb x = [92, letter x] by unfold qb; rw [if_neg hA, if_neg hB, if_pos hC]]; simp only [List.append_assoc]; trivial
        have hcs : ((x == 8) = true ∧ letter x = 98) ∨ ((x == 8) = false ∧ (x == 9) = true ∧ letter x = 116) ∨ ((x == 8) = false ∧ (x == 9) = false ∧ (x == 10) = true ∧ letter x = 110) ∨ ((x == 8) = false ∧ (x == 9) = false ∧ (x == 10) = false ∧ (x == 12) = true ∧ letter x = 102) ∨ ((x == 8) = false ∧ (x == 9) = false ∧ (x == 10) = false ∧ (x == 12) = false ∧ (x == 13) = true ∧ letter x = 114) := by
          rcases letter_is x with h | ⟨h, h'⟩ | ⟨h, h'⟩ | ⟨h, h'⟩ | ⟨h, h'⟩ | ⟨h, h'⟩
          · exact absurd h hC
          all_goals (subst h; simp [h'])
        have x32 : decide (x < 32) = true := decide_eq_true (by omega)
        clear hq hA hC hB
        rcases hcs with ⟨a1, a2⟩ | ⟨a0, a1, a2⟩ | ⟨a00, a0, a1, a2⟩ | ⟨a000, a00, a0, a1, a2⟩ | ⟨a0000, a000, a00, a0, a1, a2⟩
        all_goals
          rw [a2] at hq'
          clear a2
          go_wp2
          constructor
          · exact ⟨k + 1, _, rfl, by go_num, by omega, by rw [ints_append]; exact hq', hb⟩
          · show s.size - ((k : Int) + 1).toNat < s.size - (k : Int).toNat
            omega
    · have hks : k = s.size := by omega
      have hd : decide ((k : Int) < s.size) = false := decide_eq_false (by omega)
      have hq' : Hid (strOf Q = y ++ ⟨#[34]⟩) := by
        have := hN.out
        rw [hks, ← ints_length, List.drop_length] at this
        rw [← strOf_ints (y ++ ⟨#[34]⟩), ints_append, this]
        trivial
      clear hN hks
      go_wp2
      go_ret
      exact ⟨by rw [hq'.out]; rfl, hb⟩
end Go.Proofs.YtbajejhhmacflaaDoor.utf
