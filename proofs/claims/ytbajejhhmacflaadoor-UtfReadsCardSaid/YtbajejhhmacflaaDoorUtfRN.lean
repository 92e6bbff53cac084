/- The document's answer: Escape. -/
import Derived.Test.YtbajejhhmacflaaDoorUtfRL
import Derived.Test.YtbajejhhmacflaaDoorUtfRB
namespace Go.Proofs.YtbajejhhmacflaaDoor.utf
open Go.PlainAid Go.ChangeShapes Go.WideShapes Go.ChangeAt Go.RowKit

theorem rhex_range (l : List Int) : -1 ≤ rhex l ∧ rhex l ≤ 65535 := by
  unfold rhex
  split
  · omega
  · have e := rh_hxk (0 :: l) 4
    rw [show (0 :: l).drop 1 = l from rfl] at e
    cases h : rh l 4 with
    | none => exact ⟨by decide, by decide⟩
    | some r =>
      rw [h] at e
      have := hxk_range (0 :: l) 4 r e
      show -1 ≤ r ∧ r ≤ 65535
      omega
theorem dig_u {l : List Int} (h : gl l 0 = 117) : dig l = if 0 ≤ rhex (l.drop 1) then (rhex (l.drop 1), true) else (0, false) := by
  unfold dig rhex
  have hd : (l.drop 1).length = l.length - 1 := by simp
  by_cases hl : l.length < 5
  · rw [if_pos hl, if_pos (show (l.drop 1).length < 4 by omega)]; rfl
  · rw [if_neg hl, if_neg (show ¬ (l.drop 1).length < 4 by omega), if_neg (by simp [h]), rh_hxk l 4]
    cases hr : rh (l.drop 1) 4 with
    | none => rfl
    | some r =>
      have := hxk_range l 4 r (by rw [rh_hxk]; exact hr)
      show (r, true) = if 0 ≤ r then (r, true) else (0, false)
      rw [if_pos this.1]
theorem dig_not {l : List Int} (h : gl l 0 ≠ 117) : dig l = (0, false) := by
  unfold dig
  by_cases hl : l.length < 5
  · rw [if_pos hl]
  · rw [if_neg hl, if_pos h]

theorem escn_not {l : List Int} (h : gl l 0 ≠ 117) : escn l = (0, 0) := by
  unfold escn
  rw [dig_not h, if_pos (.inl rfl)]
theorem escn_none {l : List Int} (h : gl l 0 = 117) (hv : rhex (l.drop 1) < 0) : escn l = (0, 0) := by
  unfold escn
  rw [dig_u h, if_neg (show ¬ 0 ≤ rhex (l.drop 1) by omega), if_pos (.inl rfl)]
theorem escn_one {l : List Int} (h : gl l 0 = 117) {v : Int} (e : rhex (l.drop 1) = v) (h0 : 0 ≤ v) (hv : v < 55296 ∨ 57343 < v) : escn l = (v, 5) := by
  unfold escn
  have hd : dig l = (v, true) := by rw [dig_u h, e, if_pos h0]
  rw [hd, if_neg (by simp; omega), if_pos hv]
theorem escn_low {l : List Int} (h : gl l 0 = 117) {v : Int} (e : rhex (l.drop 1) = v) (h0 : 56320 ≤ v) (hv : v ≤ 57343) : escn l = (0, 0) := by
  unfold escn
  have hd : dig l = (v, true) := by rw [dig_u h, e, if_pos (by omega)]
  rw [hd, if_pos (.inr ⟨h0, hv⟩)]
theorem escn_half {l : List Int} (h : gl l 0 = 117) {v : Int} (e : rhex (l.drop 1) = v) (h0 : 55296 ≤ v) (hv : v ≤ 56319)
    (hb : l.length < 11 ∨ gl l 5 ≠ 92 ∨ gl l 6 ≠ 117 ∨ rhex (l.drop 7) < 56320 ∨ 57343 < rhex (l.drop 7)) : escn l = (0, 0) := by
  unfold escn
  have hdl : dig l = (v, true) := by rw [dig_u h, e, if_pos (by omega)]
  rw [hdl, if_neg (by simp; omega), if_neg (by simp; omega)]
  by_cases h5 : l.length < 6 ∨ gl l 5 ≠ 92
  · rw [if_pos h5]
  rw [if_neg h5, if_pos]
  have hd : (l.drop 6).length = l.length - 6 := by simp
  by_cases h11 : l.length < 11
  · left
    have : dig (l.drop 6) = (0, false) := if_pos (by omega)
    rw [this]
  have e6 : gl (l.drop 6) 0 = gl l 6 := gl_drop l 6 0
  by_cases h6 : gl l 6 = 117
  · have e7 : (l.drop 6).drop 1 = l.drop 7 := by rw [List.drop_drop]
    rw [dig_u (by rw [e6]; exact h6), e7]
    by_cases hr : 0 ≤ rhex (l.drop 7)
    · rw [if_pos hr]
      right
      rcases hb with k | k | k | k | k
      · omega
      · exact absurd k (fun k => h5 (.inr k))
      · exact absurd h6 k
      · exact .inl k
      · exact .inr k
    · rw [if_neg hr]; exact .inl rfl
  · left
    rw [dig_not (by rw [e6]; exact h6)]
theorem escn_two {l : List Int} (h : gl l 0 = 117) {v u : Int} (e : rhex (l.drop 1) = v) (h0 : 55296 ≤ v) (hv : v ≤ 56319) (hl : 11 ≤ l.length) (h5 : gl l 5 = 92) (h6 : gl l 6 = 117)
    (eu : rhex (l.drop 7) = u) (u0 : 56320 ≤ u) (u1 : u ≤ 57343) : escn l = (65536 + (v - 55296) * 1024 + (u - 56320), 11) := by
  unfold escn
  have e6 : gl (l.drop 6) 0 = gl l 6 := gl_drop l 6 0
  have hd : dig (l.drop 6) = (u, true) := by
    rw [dig_u (by rw [e6]; exact h6), List.drop_drop]
    show (if 0 ≤ rhex (l.drop 7) then (rhex (l.drop 7), true) else (0, false)) = _
    rw [eu, if_pos (by omega)]
  have hdl : dig l = (v, true) := by rw [dig_u h, e, if_pos (by omega)]
  rw [hdl, if_neg (by simp; omega), if_neg (by simp; omega), if_neg (by simp [h5]; omega), hd, if_neg (by simp; omega)]

theorem REscape_none (p : Option Addr) (c : Nat) (w : World) : Calls Tryd.prog 15 #[.slice p 0 c] w fun e w' => e = .returned (.tuple #[.int .i32 0, .int .i64 0]) ∧ w = w' := by
  go_enter Tryd.func15, Tryd.ntmps15
  go_wp2
  go_ret2
  exact ⟨rfl, rfl⟩
theorem REscape_lit (b off n c : Nat) (x r : Int) (w : World) (hn : 0 < n) (hm : n ≤ 140737488351232) (hc0 : w.cell? ⟨b, off, none⟩ = some (.int .u8 x))
    (hx : (x = 34 ∧ r = 34) ∨ (x = 47 ∧ r = 47) ∨ (x = 92 ∧ r = 92) ∨ (x = 98 ∧ r = 8) ∨ (x = 102 ∧ r = 12) ∨ (x = 110 ∧ r = 10) ∨ (x = 114 ∧ r = 13) ∨ (x = 116 ∧ r = 9)) :
    Calls Tryd.prog 15 #[.slice (some ⟨b, off, none⟩) n c] w fun e w' => e = .returned (.tuple #[.int .i32 r, .int .i64 1]) ∧ w = w' := by
  have b0 : ((n : Int) == 0) = false := beq_eq_false_iff_ne.2 (by omega)
  rcases hx with ⟨rfl, rfl⟩ | ⟨rfl, rfl⟩ | ⟨rfl, rfl⟩ | ⟨rfl, rfl⟩ | ⟨rfl, rfl⟩ | ⟨rfl, rfl⟩ | ⟨rfl, rfl⟩ | ⟨rfl, rfl⟩
  all_goals
    go_enter Tryd.func15, Tryd.ntmps15
    go_wp2
    go_ret2
    exact ⟨rfl, rfl⟩
theorem REscape_not (b off n c : Nat) (x : Int) (w : World) (hn : 0 < n) (hm : n ≤ 140737488351232) (hc0 : w.cell? ⟨b, off, none⟩ = some (.int .u8 x))
    (hx : ¬ x = 34 ∧ ¬ x = 47 ∧ ¬ x = 92 ∧ ¬ x = 98 ∧ ¬ x = 102 ∧ ¬ x = 110 ∧ ¬ x = 114 ∧ ¬ x = 116) (hu : ¬ x = 117) :
    Calls Tryd.prog 15 #[.slice (some ⟨b, off, none⟩) n c] w fun e w' => e = .returned (.tuple #[.int .i32 0, .int .i64 0]) ∧ w = w' := by
  have b0 : ((n : Int) == 0) = false := beq_eq_false_iff_ne.2 (by omega)
  obtain ⟨k1, k2, k3, k4, k5, k6, k7, k8⟩ := hx
  have b1 : (x == 34) = false := beq_eq_false_iff_ne.2 k1
  have b2 : (x == 47) = false := beq_eq_false_iff_ne.2 k2
  have b3 : (x == 92) = false := beq_eq_false_iff_ne.2 k3
  have b4 : (x == 98) = false := beq_eq_false_iff_ne.2 k4
  have b5 : (x == 102) = false := beq_eq_false_iff_ne.2 k5
  have b6 : (x == 110) = false := beq_eq_false_iff_ne.2 k6
  have b7 : (x == 114) = false := beq_eq_false_iff_ne.2 k7
  have b8 : (x == 116) = false := beq_eq_false_iff_ne.2 k8
  have b9 : (x == 117) = false := beq_eq_false_iff_ne.2 hu
  clear k1 k2 k3 k4 k5 k6 k7 k8 hu
  go_enter Tryd.func15, Tryd.ntmps15
  go_wp2
  go_ret2
  exact ⟨rfl, rfl⟩

/-- The digits behind the u. -/
def Hexes (W0 : World) (v : Value) (x : Int) : Prop := ∀ W, Below W0.heap.size W0 W → Calls Tryd.prog 31 #[v] W fun e w' => e = .returned (.int .i64 x) ∧ Below W.heap.size W w'

theorem REscape_u1 (b off n c : Nat) (v : Int) (w : World) (hn : 1 < n) (hm : n ≤ 140737488351232) (hnc : n ≤ c) (hc0 : w.cell? ⟨b, off, none⟩ = some (.int .u8 117)) (hok : okRune v = true) (h0 : 0 ≤ v) (h1 : v ≤ 65535)
    (H : Hexes w (.slice (some ⟨b, off + 1, none⟩) (n - 1) (c - 1)) v) :
    Calls Tryd.prog 15 #[.slice (some ⟨b, off, none⟩) n c] w fun e w' => e = .returned (.tuple #[.int .i32 v, .int .i64 5]) ∧ Below w.heap.size w w' := by
  have HV : Hid (∀ W, Calls Tryd.prog 27 #[.int .i64 v] W fun e w' => e = .returned (.bool true) ∧ W = w') := fun W => by
    have := Rvalid v W
    rw [hok] at this
    exact this
  have b0 : ((n : Int) == 0) = false := beq_eq_false_iff_ne.2 (by omega)
  have d0 : decide (0 ≤ v) = true := decide_eq_true h0
  have k1 : 1 < c := by omega
  clear hok
  go_enter Tryd.func15, Tryd.ntmps15
  go_wp2_with fail
  have H' := H w (Below.refl _ _)
  with_reducible refine H'.mono ?_
  clear H'
  rintro e w1 ⟨rfl, hb1⟩
  go_wp2_with (go_at_call 27; with_reducible refine (HV.out _).mono ?_; rintro e w' ⟨rfl, rfl⟩)
  go_ret2
  exact ⟨rfl, hb1⟩
theorem REscape_u0 (b off n c : Nat) (v : Int) (w : World) (hn : 1 < n) (hm : n ≤ 140737488351232) (hnc : n ≤ c) (hc0 : w.cell? ⟨b, off, none⟩ = some (.int .u8 117)) (h0 : v < 0)
    (H : Hexes w (.slice (some ⟨b, off + 1, none⟩) (n - 1) (c - 1)) v) :
    Calls Tryd.prog 15 #[.slice (some ⟨b, off, none⟩) n c] w fun e w' => e = .returned (.tuple #[.int .i32 0, .int .i64 0]) ∧ Below w.heap.size w w' := by
  have b0 : ((n : Int) == 0) = false := beq_eq_false_iff_ne.2 (by omega)
  have d0 : decide (0 ≤ v) = false := decide_eq_false (by omega)
  have d1 : decide (v < 55296) = true := decide_eq_true (by omega)
  have k1 : 1 < c := by omega
  go_enter Tryd.func15, Tryd.ntmps15
  go_wp2_with fail
  have H' := H w (Below.refl _ _)
  with_reducible refine H'.mono ?_
  clear H'
  rintro e w1 ⟨rfl, hb1⟩
  go_wp2
  go_ret2
  exact ⟨rfl, hb1⟩
theorem REscape_n1 (b off c : Nat) (w : World) (hc : 1 ≤ c) (hc0 : w.cell? ⟨b, off, none⟩ = some (.int .u8 117)) :
    Calls Tryd.prog 15 #[.slice (some ⟨b, off, none⟩) 1 c] w fun e w' => e = .returned (.tuple #[.int .i32 0, .int .i64 0]) ∧ Below w.heap.size w w' := by
  have H : Hid (∀ p cc, Calls Tryd.prog 31 #[.slice p 0 cc] w fun e w' => e = .returned (.int .i64 (-1)) ∧ w = w') := fun p cc => Rhex_short p 0 cc w (by omega)
  by_cases h1 : 1 < c
  · clear hc
    go_enter Tryd.func15, Tryd.ntmps15
    go_wp2_with fail
    with_reducible refine (H.out _ _).mono ?_
    rintro e w1 ⟨rfl, rfl⟩
    go_wp2
    go_ret2
    exact ⟨rfl, Below.refl _ _⟩
  · obtain rfl : c = 1 := by omega
    go_enter Tryd.func15, Tryd.ntmps15
    go_wp2_with fail
    with_reducible refine (H.out _ _).mono ?_
    rintro e w1 ⟨rfl, rfl⟩
    go_wp2
    go_ret2
    exact ⟨rfl, Below.refl _ _⟩
theorem REscape_a (b off n c : Nat) (v : Int) (w : World) (hn : 1 < n) (hm : n ≤ 140737488351232) (hnc : n ≤ c) (hc0 : w.cell? ⟨b, off, none⟩ = some (.int .u8 117)) (h0 : 55296 ≤ v) (h1 : v ≤ 57343)
    (H : Hexes w (.slice (some ⟨b, off + 1, none⟩) (n - 1) (c - 1)) v) (hv : 56319 < v) :
    Calls Tryd.prog 15 #[.slice (some ⟨b, off, none⟩) n c] w fun e w' => e = .returned (.tuple #[.int .i32 0, .int .i64 0]) ∧ Below w.heap.size w w' := by
  have HV : Hid (∀ W, Calls Tryd.prog 27 #[.int .i64 v] W fun e w' => e = .returned (.bool false) ∧ W = w') := fun W => by
    have := Rvalid v W
    rw [show okRune v = false from decide_eq_false (by omega)] at this
    exact this
  have b0 : ((n : Int) == 0) = false := beq_eq_false_iff_ne.2 (by omega)
  have d0 : decide (0 ≤ v) = true := decide_eq_true (by omega)
  have d1 : decide (v < 55296) = false := decide_eq_false (by omega)
  have k1 : 1 < c := by omega
  have d2 : decide (56319 < v) = true := decide_eq_true hv
  go_enter Tryd.func15, Tryd.ntmps15
  go_wp2_with fail
  have H' := H w (Below.refl _ _)
  with_reducible refine H'.mono ?_
  clear H'
  rintro e w1 ⟨rfl, hb1⟩
  go_wp2_with (go_at_call 27; with_reducible refine (HV.out _).mono ?_; rintro e w' ⟨rfl, rfl⟩)
  go_ret2
  exact ⟨rfl, hb1⟩
theorem REscape_b (b off n c : Nat) (v : Int) (w : World) (hn : 1 < n) (hm : n ≤ 140737488351232) (hnc : n ≤ c) (hc0 : w.cell? ⟨b, off, none⟩ = some (.int .u8 117)) (h0 : 55296 ≤ v) (h1 : v ≤ 57343)
    (H : Hexes w (.slice (some ⟨b, off + 1, none⟩) (n - 1) (c - 1)) v) (hv : v ≤ 56319) (hs : n < 11) :
    Calls Tryd.prog 15 #[.slice (some ⟨b, off, none⟩) n c] w fun e w' => e = .returned (.tuple #[.int .i32 0, .int .i64 0]) ∧ Below w.heap.size w w' := by
  have HV : Hid (∀ W, Calls Tryd.prog 27 #[.int .i64 v] W fun e w' => e = .returned (.bool false) ∧ W = w') := fun W => by
    have := Rvalid v W
    rw [show okRune v = false from decide_eq_false (by omega)] at this
    exact this
  have b0 : ((n : Int) == 0) = false := beq_eq_false_iff_ne.2 (by omega)
  have d0 : decide (0 ≤ v) = true := decide_eq_true (by omega)
  have d1 : decide (v < 55296) = false := decide_eq_false (by omega)
  have k1 : 1 < c := by omega
  have d2 : decide (56319 < v) = false := decide_eq_false (by omega)
  have d3 : decide ((n : Int) < 11) = true := decide_eq_true (by omega)
  go_enter Tryd.func15, Tryd.ntmps15
  go_wp2_with fail
  have H' := H w (Below.refl _ _)
  with_reducible refine H'.mono ?_
  clear H'
  rintro e w1 ⟨rfl, hb1⟩
  go_wp2_with (go_at_call 27; with_reducible refine (HV.out _).mono ?_; rintro e w' ⟨rfl, rfl⟩)
  go_ret2
  exact ⟨rfl, hb1⟩
theorem REscape_c (b off n c : Nat) (v : Int) (w : World) (hn : 1 < n) (hm : n ≤ 140737488351232) (hnc : n ≤ c) (hlt : b < w.heap.size) (hc0 : w.cell? ⟨b, off, none⟩ = some (.int .u8 117)) (h0 : 55296 ≤ v) (h1 : v ≤ 57343)
    (H : Hexes w (.slice (some ⟨b, off + 1, none⟩) (n - 1) (c - 1)) v) (hv : v ≤ 56319) (hs : 11 ≤ n) (x : Int) (hx : x ≠ 92) (hc5 : w.cell? ⟨b, off + 5, none⟩ = some (.int .u8 x)) :
    Calls Tryd.prog 15 #[.slice (some ⟨b, off, none⟩) n c] w fun e w' => e = .returned (.tuple #[.int .i32 0, .int .i64 0]) ∧ Below w.heap.size w w' := by
  have HV : Hid (∀ W, Calls Tryd.prog 27 #[.int .i64 v] W fun e w' => e = .returned (.bool false) ∧ W = w') := fun W => by
    have := Rvalid v W
    rw [show okRune v = false from decide_eq_false (by omega)] at this
    exact this
  have b0 : ((n : Int) == 0) = false := beq_eq_false_iff_ne.2 (by omega)
  have d0 : decide (0 ≤ v) = true := decide_eq_true (by omega)
  have d1 : decide (v < 55296) = false := decide_eq_false (by omega)
  have k1 : 1 < c := by omega
  have d2 : decide (56319 < v) = false := decide_eq_false (by omega)
  have d3 : decide ((n : Int) < 11) = false := decide_eq_false (by omega)
  have d5 : (x != 92) = true := by simp [hx]
  clear hx
  go_enter Tryd.func15, Tryd.ntmps15
  go_wp2_with fail
  have H' := H w (Below.refl _ _)
  with_reducible refine H'.mono ?_
  clear H'
  rintro e w1 ⟨rfl, hb1⟩
  have hc5' := (hb1.cell (p := ⟨b, off + 5, none⟩) hlt).trans hc5
  go_wp2_with (go_at_call 27; with_reducible refine (HV.out _).mono ?_; rintro e w' ⟨rfl, rfl⟩)
  go_ret2
  exact ⟨rfl, hb1⟩
theorem REscape_d (b off n c : Nat) (v : Int) (w : World) (hn : 1 < n) (hm : n ≤ 140737488351232) (hnc : n ≤ c) (hlt : b < w.heap.size) (hc0 : w.cell? ⟨b, off, none⟩ = some (.int .u8 117)) (h0 : 55296 ≤ v) (h1 : v ≤ 57343)
    (H : Hexes w (.slice (some ⟨b, off + 1, none⟩) (n - 1) (c - 1)) v) (hv : v ≤ 56319) (hs : 11 ≤ n) (x : Int) (hx : x ≠ 117) (hc5 : w.cell? ⟨b, off + 5, none⟩ = some (.int .u8 92)) (hc6 : w.cell? ⟨b, off + 6, none⟩ = some (.int .u8 x)) :
    Calls Tryd.prog 15 #[.slice (some ⟨b, off, none⟩) n c] w fun e w' => e = .returned (.tuple #[.int .i32 0, .int .i64 0]) ∧ Below w.heap.size w w' := by
  have HV : Hid (∀ W, Calls Tryd.prog 27 #[.int .i64 v] W fun e w' => e = .returned (.bool false) ∧ W = w') := fun W => by
    have := Rvalid v W
    rw [show okRune v = false from decide_eq_false (by omega)] at this
    exact this
  have b0 : ((n : Int) == 0) = false := beq_eq_false_iff_ne.2 (by omega)
  have d0 : decide (0 ≤ v) = true := decide_eq_true (by omega)
  have d1 : decide (v < 55296) = false := decide_eq_false (by omega)
  have k1 : 1 < c := by omega
  have d2 : decide (56319 < v) = false := decide_eq_false (by omega)
  have d3 : decide ((n : Int) < 11) = false := decide_eq_false (by omega)
  have d6 : (x != 117) = true := by simp [hx]
  clear hx
  go_enter Tryd.func15, Tryd.ntmps15
  go_wp2_with fail
  have H' := H w (Below.refl _ _)
  with_reducible refine H'.mono ?_
  clear H'
  rintro e w1 ⟨rfl, hb1⟩
  have hc5' := (hb1.cell (p := ⟨b, off + 5, none⟩) hlt).trans hc5
  have hc6' := (hb1.cell (p := ⟨b, off + 6, none⟩) hlt).trans hc6
  go_wp2_with (go_at_call 27; with_reducible refine (HV.out _).mono ?_; rintro e w' ⟨rfl, rfl⟩)
  go_ret2
  exact ⟨rfl, hb1⟩
theorem REscape_e (b off n c : Nat) (v : Int) (w : World) (hn : 1 < n) (hm : n ≤ 140737488351232) (hnc : n ≤ c) (hlt : b < w.heap.size) (hc0 : w.cell? ⟨b, off, none⟩ = some (.int .u8 117)) (h0 : 55296 ≤ v) (h1 : v ≤ 57343)
    (H : Hexes w (.slice (some ⟨b, off + 1, none⟩) (n - 1) (c - 1)) v) (hv : v ≤ 56319) (hs : 11 ≤ n) (u : Int) (hu : u < 56320) (hc5 : w.cell? ⟨b, off + 5, none⟩ = some (.int .u8 92)) (hc6 : w.cell? ⟨b, off + 6, none⟩ = some (.int .u8 117))
    (H2 : Hexes w (.slice (some ⟨b, off + 7, none⟩) (n - 7) (c - 7)) u) :
    Calls Tryd.prog 15 #[.slice (some ⟨b, off, none⟩) n c] w fun e w' => e = .returned (.tuple #[.int .i32 0, .int .i64 0]) ∧ Below w.heap.size w w' := by
  have HV : Hid (∀ W, Calls Tryd.prog 27 #[.int .i64 v] W fun e w' => e = .returned (.bool false) ∧ W = w') := fun W => by
    have := Rvalid v W
    rw [show okRune v = false from decide_eq_false (by omega)] at this
    exact this
  have b0 : ((n : Int) == 0) = false := beq_eq_false_iff_ne.2 (by omega)
  have d0 : decide (0 ≤ v) = true := decide_eq_true (by omega)
  have d1 : decide (v < 55296) = false := decide_eq_false (by omega)
  have k1 : 1 < c := by omega
  have d2 : decide (56319 < v) = false := decide_eq_false (by omega)
  have d3 : decide ((n : Int) < 11) = false := decide_eq_false (by omega)
  have e1 : decide (u < 56320) = true := decide_eq_true hu
  have k7 : 7 < c := by omega
  go_enter Tryd.func15, Tryd.ntmps15
  go_wp2_with fail
  have H' := H w (Below.refl _ _)
  with_reducible refine H'.mono ?_
  clear H'
  rintro e w1 ⟨rfl, hb1⟩
  have hc5' := (hb1.cell (p := ⟨b, off + 5, none⟩) hlt).trans hc5
  have hc6' := (hb1.cell (p := ⟨b, off + 6, none⟩) hlt).trans hc6
  go_wp2_with (go_at_call 27; with_reducible refine (HV.out _).mono ?_; rintro e w' ⟨rfl, rfl⟩)
  have H' := H2 w1 hb1
  with_reducible refine H'.mono ?_
  clear H'
  rintro e w2 ⟨rfl, hb2⟩
  go_wp2
  go_ret2
  exact ⟨rfl, hb1.trans (hb2.mono hb1.size)⟩
theorem REscape_f (b off n c : Nat) (v : Int) (w : World) (hn : 1 < n) (hm : n ≤ 140737488351232) (hnc : n ≤ c) (hlt : b < w.heap.size) (hc0 : w.cell? ⟨b, off, none⟩ = some (.int .u8 117)) (h0 : 55296 ≤ v) (h1 : v ≤ 57343)
    (H : Hexes w (.slice (some ⟨b, off + 1, none⟩) (n - 1) (c - 1)) v) (hv : v ≤ 56319) (hs : 11 ≤ n) (u : Int) (hu : 57343 < u) (huh : u ≤ 65535) (hc5 : w.cell? ⟨b, off + 5, none⟩ = some (.int .u8 92)) (hc6 : w.cell? ⟨b, off + 6, none⟩ = some (.int .u8 117))
    (H2 : Hexes w (.slice (some ⟨b, off + 7, none⟩) (n - 7) (c - 7)) u) :
    Calls Tryd.prog 15 #[.slice (some ⟨b, off, none⟩) n c] w fun e w' => e = .returned (.tuple #[.int .i32 0, .int .i64 0]) ∧ Below w.heap.size w w' := by
  have HV : Hid (∀ W, Calls Tryd.prog 27 #[.int .i64 v] W fun e w' => e = .returned (.bool false) ∧ W = w') := fun W => by
    have := Rvalid v W
    rw [show okRune v = false from decide_eq_false (by omega)] at this
    exact this
  have b0 : ((n : Int) == 0) = false := beq_eq_false_iff_ne.2 (by omega)
  have d0 : decide (0 ≤ v) = true := decide_eq_true (by omega)
  have d1 : decide (v < 55296) = false := decide_eq_false (by omega)
  have k1 : 1 < c := by omega
  have d2 : decide (56319 < v) = false := decide_eq_false (by omega)
  have d3 : decide ((n : Int) < 11) = false := decide_eq_false (by omega)
  have e1 : decide (u < 56320) = false := decide_eq_false (by omega)
  have e2 : decide (57343 < u) = true := decide_eq_true hu
  have k7 : 7 < c := by omega
  go_enter Tryd.func15, Tryd.ntmps15
  go_wp2_with fail
  have H' := H w (Below.refl _ _)
  with_reducible refine H'.mono ?_
  clear H'
  rintro e w1 ⟨rfl, hb1⟩
  have hc5' := (hb1.cell (p := ⟨b, off + 5, none⟩) hlt).trans hc5
  have hc6' := (hb1.cell (p := ⟨b, off + 6, none⟩) hlt).trans hc6
  go_wp2_with (go_at_call 27; with_reducible refine (HV.out _).mono ?_; rintro e w' ⟨rfl, rfl⟩)
  have H' := H2 w1 hb1
  with_reducible refine H'.mono ?_
  clear H'
  rintro e w2 ⟨rfl, hb2⟩
  go_wp2
  go_ret2
  exact ⟨rfl, hb1.trans (hb2.mono hb1.size)⟩
theorem REscape_g (b off n c : Nat) (v : Int) (w : World) (hn : 1 < n) (hm : n ≤ 140737488351232) (hnc : n ≤ c) (hlt : b < w.heap.size) (hc0 : w.cell? ⟨b, off, none⟩ = some (.int .u8 117)) (h0 : 55296 ≤ v) (h1 : v ≤ 57343)
    (H : Hexes w (.slice (some ⟨b, off + 1, none⟩) (n - 1) (c - 1)) v) (hv : v ≤ 56319) (hs : 11 ≤ n) (u : Int) (hu0 : 56320 ≤ u) (hu1 : u ≤ 57343) (hc5 : w.cell? ⟨b, off + 5, none⟩ = some (.int .u8 92)) (hc6 : w.cell? ⟨b, off + 6, none⟩ = some (.int .u8 117))
    (H2 : Hexes w (.slice (some ⟨b, off + 7, none⟩) (n - 7) (c - 7)) u) :
    Calls Tryd.prog 15 #[.slice (some ⟨b, off, none⟩) n c] w fun e w' => e = .returned (.tuple #[.int .i32 (65536 + (v - 55296) * 1024 + u - 56320), .int .i64 11]) ∧ Below w.heap.size w w' := by
  have HV : Hid (∀ W, Calls Tryd.prog 27 #[.int .i64 v] W fun e w' => e = .returned (.bool false) ∧ W = w') := fun W => by
    have := Rvalid v W
    rw [show okRune v = false from decide_eq_false (by omega)] at this
    exact this
  have b0 : ((n : Int) == 0) = false := beq_eq_false_iff_ne.2 (by omega)
  have d0 : decide (0 ≤ v) = true := decide_eq_true (by omega)
  have d1 : decide (v < 55296) = false := decide_eq_false (by omega)
  have k1 : 1 < c := by omega
  have d2 : decide (56319 < v) = false := decide_eq_false (by omega)
  have d3 : decide ((n : Int) < 11) = false := decide_eq_false (by omega)
  have e1 : decide (u < 56320) = false := decide_eq_false (by omega)
  have e2 : decide (57343 < u) = false := decide_eq_false (by omega)
  have k7 : 7 < c := by omega
  go_enter Tryd.func15, Tryd.ntmps15
  go_wp2_with fail
  have H' := H w (Below.refl _ _)
  with_reducible refine H'.mono ?_
  clear H'
  rintro e w1 ⟨rfl, hb1⟩
  have hc5' := (hb1.cell (p := ⟨b, off + 5, none⟩) hlt).trans hc5
  have hc6' := (hb1.cell (p := ⟨b, off + 6, none⟩) hlt).trans hc6
  go_wp2_with (go_at_call 27; with_reducible refine (HV.out _).mono ?_; rintro e w' ⟨rfl, rfl⟩)
  have H' := H2 w1 hb1
  with_reducible refine H'.mono ?_
  clear H'
  rintro e w2 ⟨rfl, hb2⟩
  go_wp2
  go_ret2
  exact ⟨rfl, hb1.trans (hb2.mono hb1.size)⟩

theorem REscape_any (v : Value) (l : List Int) (w : World) (hO : Oct l) (hm : l.length ≤ 140737488351232) (hv : Bs w v l) :
    Calls Tryd.prog 15 #[v] w fun e w' => e = .returned (.tuple #[.int .i32 (esc l).1, .int .i64 (esc l).2]) ∧ Below w.heap.size w w' := by
  have hv' := hv
  rcases hv with ⟨p, c, rfl, rfl⟩ | ⟨b, off, cap, rfl, h0, hc, hlt, hcell⟩
  · refine (REscape_none p c w).mono ?_
    rintro e w' ⟨rfl, rfl⟩
    exact ⟨rfl, Below.refl _ _⟩
  have hc0 := hcell 0 h0
  rw [Nat.add_zero] at hc0
  by_cases hx : gl l 0 = 34 ∨ gl l 0 = 47 ∨ gl l 0 = 92 ∨ gl l 0 = 98 ∨ gl l 0 = 102 ∨ gl l 0 = 110 ∨ gl l 0 = 114 ∨ gl l 0 = 116
  · obtain ⟨r, hr⟩ : ∃ r : Int, (gl l 0 = 34 ∧ r = 34) ∨ (gl l 0 = 47 ∧ r = 47) ∨ (gl l 0 = 92 ∧ r = 92) ∨ (gl l 0 = 98 ∧ r = 8) ∨ (gl l 0 = 102 ∧ r = 12) ∨ (gl l 0 = 110 ∧ r = 10) ∨ (gl l 0 = 114 ∧ r = 13) ∨ (gl l 0 = 116 ∧ r = 9) := by
      rcases hx with h | h | h | h | h | h | h | h
      · exact ⟨34, by simp [h]⟩
      · exact ⟨47, by simp [h]⟩
      · exact ⟨92, by simp [h]⟩
      · exact ⟨8, by simp [h]⟩
      · exact ⟨12, by simp [h]⟩
      · exact ⟨10, by simp [h]⟩
      · exact ⟨13, by simp [h]⟩
      · exact ⟨9, by simp [h]⟩
    rw [esc_lit (r := r) (by omega) hr]
    refine (REscape_lit b off l.length cap (gl l 0) r w h0 hm hc0 hr).mono ?_
    rintro e w' ⟨rfl, rfl⟩
    exact ⟨rfl, Below.refl _ _⟩
  have hx' : ¬ gl l 0 = 34 ∧ ¬ gl l 0 = 47 ∧ ¬ gl l 0 = 92 ∧ ¬ gl l 0 = 98 ∧ ¬ gl l 0 = 102 ∧ ¬ gl l 0 = 110 ∧ ¬ gl l 0 = 114 ∧ ¬ gl l 0 = 116 := by omega
  rw [esc_other (by omega) hx']
  by_cases hu : gl l 0 = 117
  · rw [hu] at hc0
    by_cases h1 : l.length = 1
    · have hr : rhex (l.drop 1) < 0 := by
        have : rhex (l.drop 1) = -1 := if_pos (by simp; omega)
        omega
      rw [escn_none hu hr, h1]
      exact REscape_n1 b off cap w (by omega) hc0
    have H : Hexes w (.slice (some ⟨b, off + 1, none⟩) (l.length - 1) (cap - 1)) (rhex (l.drop 1)) := fun W hW => by
      have := Bs.drop (w := w) (b := b) (off := off) (cap := cap) (k := 1) (l := l) (by omega) (by omega) hlt (fun i hi => hcell i (by omega))
      exact Rhex_any _ (l.drop 1) W (hO.drop 1) (by simp; omega) (this.below hW)
    have hrr := rhex_range (l.drop 1)
    obtain ⟨x, hxe⟩ : ∃ x, rhex (l.drop 1) = x := ⟨_, rfl⟩
    rw [hxe] at H hrr
    by_cases hx0 : x < 0
    · rw [escn_none hu (by omega)]
      exact REscape_u0 b off l.length cap x w (by omega) hm hc hc0 hx0 H
    by_cases hok : x < 55296 ∨ 57343 < x
    · rw [escn_one hu hxe (by omega) hok]
      exact REscape_u1 b off l.length cap x w (by omega) hm hc hc0 (decide_eq_true (by omega)) (by omega) (by omega) H
    by_cases hlow : 56320 ≤ x
    · rw [escn_low hu hxe hlow (by omega)]
      exact REscape_a b off l.length cap x w (by omega) hm hc hc0 (by omega) (by omega) H (by omega)
    by_cases h11 : l.length < 11
    · rw [escn_half hu hxe (by omega) (by omega) (.inl h11)]
      exact REscape_b b off l.length cap x w (by omega) hm hc hc0 (by omega) (by omega) H (by omega) h11
    have hc5 := hcell 5 (by omega)
    by_cases h5 : gl l 5 = 92
    · rw [h5] at hc5
      have hc6 := hcell 6 (by omega)
      by_cases h6 : gl l 6 = 117
      · rw [h6] at hc6
        have H2 : Hexes w (.slice (some ⟨b, off + 7, none⟩) (l.length - 7) (cap - 7)) (rhex (l.drop 7)) := fun W hW => by
          have := Bs.drop (w := w) (b := b) (off := off) (cap := cap) (k := 7) (l := l) (by omega) (by omega) hlt (fun i hi => hcell i (by omega))
          exact Rhex_any _ (l.drop 7) W (hO.drop 7) (by simp; omega) (this.below hW)
        have hur := rhex_range (l.drop 7)
        obtain ⟨u, hue⟩ : ∃ u, rhex (l.drop 7) = u := ⟨_, rfl⟩
        rw [hue] at H2 hur
        by_cases hu0 : u < 56320
        · rw [escn_half hu hxe (by omega) (by omega) (.inr (.inr (.inr (.inl (by omega)))))]
          exact REscape_e b off l.length cap x w (by omega) hm hc hlt hc0 (by omega) (by omega) H (by omega) (by omega) u hu0 hc5 hc6 H2
        by_cases hu1 : 57343 < u
        · rw [escn_half hu hxe (by omega) (by omega) (.inr (.inr (.inr (.inr (by omega)))))]
          exact REscape_f b off l.length cap x w (by omega) hm hc hlt hc0 (by omega) (by omega) H (by omega) (by omega) u hu1 hur.2 hc5 hc6 H2
        · rw [escn_two hu hxe (by omega) (by omega) (by omega) h5 h6 hue (by omega) (by omega)]
          have := REscape_g b off l.length cap x w (by omega) hm hc hlt hc0 (by omega) (by omega) H (by omega) (by omega) u (by omega) (by omega) hc5 hc6 H2
          rw [show 65536 + (x - 55296) * 1024 + u - 56320 = 65536 + (x - 55296) * 1024 + (u - 56320) by omega] at this
          exact this
      · rw [escn_half hu hxe (by omega) (by omega) (.inr (.inr (.inl h6)))]
        exact REscape_d b off l.length cap x w (by omega) hm hc hlt hc0 (by omega) (by omega) H (by omega) (by omega) _ h6 hc5 hc6
    · rw [escn_half hu hxe (by omega) (by omega) (.inr (.inl h5))]
      exact REscape_c b off l.length cap x w (by omega) hm hc hlt hc0 (by omega) (by omega) H (by omega) (by omega) _ h5 hc5
  · rw [escn_not hu]
    refine (REscape_not b off l.length cap (gl l 0) w h0 hm hc0 hx' hu).mono ?_
    rintro e w' ⟨rfl, rfl⟩
    exact ⟨rfl, Below.refl _ _⟩
end Go.Proofs.YtbajejhhmacflaaDoor.utf
