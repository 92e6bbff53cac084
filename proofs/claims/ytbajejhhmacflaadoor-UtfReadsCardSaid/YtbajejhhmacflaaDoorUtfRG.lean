/- The document's answer: Next, of two to four bytes: the walks. -/
import Derived.Test.YtbajejhhmacflaaDoorUtfRE
import Derived.Test.YtbajejhhmacflaaDoorUtfRC
import Derived.Test.YtbajejhhmacflaaDoorUtfHexE
namespace Go.Proofs.YtbajejhhmacflaaDoor.utf
open Go.PlainAid Go.ChangeShapes Go.WideShapes Go.ChangeAt Go.RowKit
theorem Bs.nth {w : World} {b off n c : Nat} {l : List Int} (h : Bs w (.slice (some ⟨b, off, none⟩) n c) l) (i : Nat) (h0 : i < n) : w.cell? ⟨b, off + i, none⟩ = some (.int .u8 (gl l i)) := by
  rcases h with ⟨_, _, hv, _⟩ | ⟨b', off', cap, hv, _, _, _, hb⟩
  · injection hv with _ h; omega
  · injection hv with ha hn _
    injection ha with ha
    injection ha with hx hy
    subst hx hy
    exact hb i (by omega)

set_option maxHeartbeats 2000000 in
theorem RNext_2_short (b off n c : Nat) (l : List Int) (b0  : Int) (w : World) (hb0 : gl l 0 = b0) (g0 : 0 ≤ b0 ∧ b0 ≤ 255)  (hB : Bs w (.slice (some ⟨b, off, none⟩) n c) l) (h0 : 0 < n) (hn : n ≤ 140737488351232) (h1 : 192 ≤ b0) (h2 : b0 < 224) (hs : n < 2) :
    Calls Tryd.prog 13 #[.slice (some ⟨b, off, none⟩) n c] w fun e w' => e = .returned (.tuple #[.int .i32 0, .int .i64 0]) ∧ Below w.heap.size w w' := by
  have c0 := hB.first h0
  rw [hb0] at c0
  have n0 : ((n : Int) == 0) = false := beq_eq_false_iff_ne.2 (by omega)
  have m0 : b0.tmod 32 = b0 % 32 := Int.tmod_eq_emod_of_nonneg (by omega)
  have n1 : decide ((n : Int) < 2) = true := decide_eq_true (by omega)
  clear hB hb0
  go_enter Tryd.func13, Tryd.ntmps13
  go_wp2
  go_ret2
  exact ⟨rfl, Below.refl _ _⟩

set_option maxHeartbeats 2000000 in
theorem RNext_2_bad (b off n c : Nat) (l : List Int) (b0 b1 x1 : Int) (w : World) (hb0 : gl l 0 = b0) (hb1 : gl l 1 = b1) (g0 : 0 ≤ b0 ∧ b0 ≤ 255) (g1 : 0 ≤ b1 ∧ b1 ≤ 255) (hx1 : x1 = (b0 % 32) * 64 + b1 % 64) (hB : Bs w (.slice (some ⟨b, off, none⟩) n c) l) (h0 : 0 < n) (hn : n ≤ 140737488351232) (h1 : 192 ≤ b0) (h2 : b0 < 224) (hs : 2 ≤ n) (hok : okRune x1 = false) :
    Calls Tryd.prog 13 #[.slice (some ⟨b, off, none⟩) n c] w fun e w' => e = .returned (.tuple #[.int .i32 0, .int .i64 0]) ∧ Below w.heap.size w w' := by
  have c0 := hB.first h0
  rw [hb0] at c0
  have n0 : ((n : Int) == 0) = false := beq_eq_false_iff_ne.2 (by omega)
  have m0 : b0.tmod 32 = b0 % 32 := Int.tmod_eq_emod_of_nonneg (by omega)
  have n1 : decide ((n : Int) < 2) = false := decide_eq_false (by omega)
  have c1 := hB.nth 1 (by omega)
  rw [hb1] at c1
  have q1 : ((1 : Nat) : Int) < (n : Int) := by omega
  have q1n : 1 < n := by omega
  have m1 : b1.tmod 64 = b1 % 64 := Int.tmod_eq_emod_of_nonneg (by omega)
  have t1 : IntKind.i64.wrap (b0 % 32 * 64) = b0 % 32 * 64 := IntWalk.i64_in _ (by omega)
  have s1 : IntKind.i64.wrap (b0 % 32 * 64 + b1 % 64) = x1 := by rw [IntWalk.i64_in _ (by omega)]; omega
  have s1' : b0 % 32 * 64 + b1 % 64 = x1 := by omega
  have HV := Lib.hid (Rvalid x1 w)
  rw [hok] at HV
  clear hB hok hb0 hb1 hx1
  go_enter Tryd.func13, Tryd.ntmps13
  go_wp2
  refine wp_loop_rounds 2 ?_
  rw [rounds_succ]
  go_wp2
  rw [rounds_succ]
  go_wp2_with (first
    | (go_at_call 27; with_reducible refine HV.out.mono ?_; rintro e w1 ⟨rfl, rfl⟩))
  go_ret2
  exact ⟨rfl, Below.refl _ _⟩

set_option maxHeartbeats 2000000 in
theorem RNext_2_no (b off n c : Nat) (l : List Int) (b0 b1 x1 : Int) (w : World) (hb0 : gl l 0 = b0) (hb1 : gl l 1 = b1) (g0 : 0 ≤ b0 ∧ b0 ≤ 255) (g1 : 0 ≤ b1 ∧ b1 ≤ 255) (hx1 : x1 = (b0 % 32) * 64 + b1 % 64) (hB : Bs w (.slice (some ⟨b, off, none⟩) n c) l) (h0 : 0 < n) (hn : n ≤ 140737488351232) (h1 : 192 ≤ b0) (h2 : b0 < 224) (hs : 2 ≤ n) (hok : okRune x1 = true) (hq : decide (l.take (enc x1).length = enc x1) = false) :
    Calls Tryd.prog 13 #[.slice (some ⟨b, off, none⟩) n c] w fun e w' => e = .returned (.tuple #[.int .i32 0, .int .i64 0]) ∧ Below w.heap.size w w' := by
  have c0 := hB.first h0
  rw [hb0] at c0
  have n0 : ((n : Int) == 0) = false := beq_eq_false_iff_ne.2 (by omega)
  have m0 : b0.tmod 32 = b0 % 32 := Int.tmod_eq_emod_of_nonneg (by omega)
  have n1 : decide ((n : Int) < 2) = false := decide_eq_false (by omega)
  have c1 := hB.nth 1 (by omega)
  rw [hb1] at c1
  have q1 : ((1 : Nat) : Int) < (n : Int) := by omega
  have q1n : 1 < n := by omega
  have m1 : b1.tmod 64 = b1 % 64 := Int.tmod_eq_emod_of_nonneg (by omega)
  have t1 : IntKind.i64.wrap (b0 % 32 * 64) = b0 % 32 * 64 := IntWalk.i64_in _ (by omega)
  have s1 : IntKind.i64.wrap (b0 % 32 * 64 + b1 % 64) = x1 := by rw [IntWalk.i64_in _ (by omega)]; omega
  have s1' : b0 % 32 * 64 + b1 % 64 = x1 := by omega
  have hr : 0 ≤ x1 ∧ (x1 < 55296 ∨ 57343 < x1) ∧ x1 ≤ 1114111 := of_decide_eq_true hok
  have hbs := Bs_put w x1
  have hel := enc_len x1
  have HBY : Hid (∀ W, Calls Tryd.prog 29 #[.int .i64 x1] W fun e w' => e = .returned (.slice (some ⟨W.heap.size, 0, none⟩) (enc x1).length (enc x1).length) ∧ W.alloc (.cells (encCells x1) 5) = w') := fun W => by
    have := Rbytes_any x1 W (by omega) (by omega)
    skip
    exact this
  have hb1 : Below w.heap.size w (w.alloc (.cells (encCells x1) 5)) := (Below.refl _ _).alloc (Nat.le_refl _) _
  have HBG := Rbegins_any b off n c w.heap.size 0 _ _ l (enc x1) _ (hB.below hb1) hbs h0 (by omega) hn
  rw [hq] at HBG
  skip
  have HG := Lib.hid HBG
  have HB1 := Lib.hid hb1
  have hw : IntKind.i32.wrap x1 = x1 := IntWalk.i32_in _ (by omega)
  clear hbs HBG hb1 hel hq 
  have HV := Lib.hid (Rvalid x1 w)
  rw [hok] at HV
  clear hB hok hb0 hb1 hx1
  go_enter Tryd.func13, Tryd.ntmps13
  go_wp2
  refine wp_loop_rounds 2 ?_
  rw [rounds_succ]
  go_wp2
  rw [rounds_succ]
  go_wp2_with (first
    | (go_at_call 27; with_reducible refine HV.out.mono ?_; rintro e w1 ⟨rfl, rfl⟩)
    | (go_at_call 29; with_reducible refine (HBY.out _).mono ?_; rintro e w2 ⟨rfl, rfl⟩)
    | (go_at_call 28; with_reducible refine HG.out.mono ?_; rintro e w3 ⟨rfl, hb3⟩))
  go_ret2
  have q := HB1.out.trans (hb3.mono HB1.out.size)
  exact ⟨rfl, q⟩

set_option maxHeartbeats 2000000 in
theorem RNext_2_yes (b off n c : Nat) (l : List Int) (b0 b1 x1 : Int) (w : World) (hb0 : gl l 0 = b0) (hb1 : gl l 1 = b1) (g0 : 0 ≤ b0 ∧ b0 ≤ 255) (g1 : 0 ≤ b1 ∧ b1 ≤ 255) (hx1 : x1 = (b0 % 32) * 64 + b1 % 64) (hB : Bs w (.slice (some ⟨b, off, none⟩) n c) l) (h0 : 0 < n) (hn : n ≤ 140737488351232) (h1 : 192 ≤ b0) (h2 : b0 < 224) (hs : 2 ≤ n) (hok : okRune x1 = true) (hq : decide (l.take (enc x1).length = enc x1) = true) (hlen : (enc x1).length = 2) :
    Calls Tryd.prog 13 #[.slice (some ⟨b, off, none⟩) n c] w fun e w' => e = .returned (.tuple #[.int .i32 x1, .int .i64 2]) ∧ Below w.heap.size w w' := by
  have c0 := hB.first h0
  rw [hb0] at c0
  have n0 : ((n : Int) == 0) = false := beq_eq_false_iff_ne.2 (by omega)
  have m0 : b0.tmod 32 = b0 % 32 := Int.tmod_eq_emod_of_nonneg (by omega)
  have n1 : decide ((n : Int) < 2) = false := decide_eq_false (by omega)
  have c1 := hB.nth 1 (by omega)
  rw [hb1] at c1
  have q1 : ((1 : Nat) : Int) < (n : Int) := by omega
  have q1n : 1 < n := by omega
  have m1 : b1.tmod 64 = b1 % 64 := Int.tmod_eq_emod_of_nonneg (by omega)
  have t1 : IntKind.i64.wrap (b0 % 32 * 64) = b0 % 32 * 64 := IntWalk.i64_in _ (by omega)
  have s1 : IntKind.i64.wrap (b0 % 32 * 64 + b1 % 64) = x1 := by rw [IntWalk.i64_in _ (by omega)]; omega
  have s1' : b0 % 32 * 64 + b1 % 64 = x1 := by omega
  have hr : 0 ≤ x1 ∧ (x1 < 55296 ∨ 57343 < x1) ∧ x1 ≤ 1114111 := of_decide_eq_true hok
  have hbs := Bs_put w x1
  have hel := enc_len x1
  have HBY : Hid (∀ W, Calls Tryd.prog 29 #[.int .i64 x1] W fun e w' => e = .returned (.slice (some ⟨W.heap.size, 0, none⟩) 2 2) ∧ W.alloc (.cells (encCells x1) 5) = w') := fun W => by
    have := Rbytes_any x1 W (by omega) (by omega)
    rw [hlen] at this
    exact this
  have hb1 : Below w.heap.size w (w.alloc (.cells (encCells x1) 5)) := (Below.refl _ _).alloc (Nat.le_refl _) _
  have HBG := Rbegins_any b off n c w.heap.size 0 _ _ l (enc x1) _ (hB.below hb1) hbs h0 (by omega) hn
  rw [hq] at HBG
  rw [hlen] at HBG
  have HG := Lib.hid HBG
  have HB1 := Lib.hid hb1
  have hw : IntKind.i32.wrap x1 = x1 := IntWalk.i32_in _ (by omega)
  clear hbs HBG hb1 hel hq hlen
  have HV := Lib.hid (Rvalid x1 w)
  rw [hok] at HV
  clear hB hok hb0 hb1 hx1
  go_enter Tryd.func13, Tryd.ntmps13
  go_wp2
  refine wp_loop_rounds 2 ?_
  rw [rounds_succ]
  go_wp2
  rw [rounds_succ]
  go_wp2_with (first
    | (go_at_call 27; with_reducible refine HV.out.mono ?_; rintro e w1 ⟨rfl, rfl⟩)
    | (go_at_call 29; with_reducible refine (HBY.out _).mono ?_; rintro e w2 ⟨rfl, rfl⟩)
    | (go_at_call 28; with_reducible refine HG.out.mono ?_; rintro e w3 ⟨rfl, hb3⟩))
  go_ret2
  have q := HB1.out.trans (hb3.mono HB1.out.size)
  exact ⟨rfl, q.alloc q.size _⟩

set_option maxHeartbeats 2000000 in
theorem RNext_3_short (b off n c : Nat) (l : List Int) (b0  : Int) (w : World) (hb0 : gl l 0 = b0) (g0 : 0 ≤ b0 ∧ b0 ≤ 255)  (hB : Bs w (.slice (some ⟨b, off, none⟩) n c) l) (h0 : 0 < n) (hn : n ≤ 140737488351232) (h1 : 224 ≤ b0) (h2 : b0 < 240) (hs : n < 3) :
    Calls Tryd.prog 13 #[.slice (some ⟨b, off, none⟩) n c] w fun e w' => e = .returned (.tuple #[.int .i32 0, .int .i64 0]) ∧ Below w.heap.size w w' := by
  have c0 := hB.first h0
  rw [hb0] at c0
  have n0 : ((n : Int) == 0) = false := beq_eq_false_iff_ne.2 (by omega)
  have m0 : b0.tmod 16 = b0 % 16 := Int.tmod_eq_emod_of_nonneg (by omega)
  have n1 : decide ((n : Int) < 3) = true := decide_eq_true (by omega)
  clear hB hb0
  go_enter Tryd.func13, Tryd.ntmps13
  go_wp2
  go_ret2
  exact ⟨rfl, Below.refl _ _⟩

set_option maxHeartbeats 2000000 in
theorem RNext_3_bad (b off n c : Nat) (l : List Int) (b0 b1 b2 x1 x2 : Int) (w : World) (hb0 : gl l 0 = b0) (hb1 : gl l 1 = b1) (hb2 : gl l 2 = b2) (g0 : 0 ≤ b0 ∧ b0 ≤ 255) (g1 : 0 ≤ b1 ∧ b1 ≤ 255) (g2 : 0 ≤ b2 ∧ b2 ≤ 255) (hx1 : x1 = (b0 % 16) * 64 + b1 % 64) (hx2 : x2 = x1 * 64 + b2 % 64) (hB : Bs w (.slice (some ⟨b, off, none⟩) n c) l) (h0 : 0 < n) (hn : n ≤ 140737488351232) (h1 : 224 ≤ b0) (h2 : b0 < 240) (hs : 3 ≤ n) (hok : okRune x2 = false) :
    Calls Tryd.prog 13 #[.slice (some ⟨b, off, none⟩) n c] w fun e w' => e = .returned (.tuple #[.int .i32 0, .int .i64 0]) ∧ Below w.heap.size w w' := by
  have c0 := hB.first h0
  rw [hb0] at c0
  have n0 : ((n : Int) == 0) = false := beq_eq_false_iff_ne.2 (by omega)
  have m0 : b0.tmod 16 = b0 % 16 := Int.tmod_eq_emod_of_nonneg (by omega)
  have n1 : decide ((n : Int) < 3) = false := decide_eq_false (by omega)
  have c1 := hB.nth 1 (by omega)
  rw [hb1] at c1
  have q1 : ((1 : Nat) : Int) < (n : Int) := by omega
  have q1n : 1 < n := by omega
  have m1 : b1.tmod 64 = b1 % 64 := Int.tmod_eq_emod_of_nonneg (by omega)
  have t1 : IntKind.i64.wrap (b0 % 16 * 64) = b0 % 16 * 64 := IntWalk.i64_in _ (by omega)
  have s1 : IntKind.i64.wrap (b0 % 16 * 64 + b1 % 64) = x1 := by rw [IntWalk.i64_in _ (by omega)]; omega
  have s1' : b0 % 16 * 64 + b1 % 64 = x1 := by omega
  have c2 := hB.nth 2 (by omega)
  rw [hb2] at c2
  have q2 : ((2 : Nat) : Int) < (n : Int) := by omega
  have q2n : 2 < n := by omega
  have m2 : b2.tmod 64 = b2 % 64 := Int.tmod_eq_emod_of_nonneg (by omega)
  have t2 : IntKind.i64.wrap (x1 * 64) = x1 * 64 := IntWalk.i64_in _ (by omega)
  have s2 : IntKind.i64.wrap (x1 * 64 + b2 % 64) = x2 := by rw [IntWalk.i64_in _ (by omega)]; omega
  have s2' : x1 * 64 + b2 % 64 = x2 := by omega
  have HV := Lib.hid (Rvalid x2 w)
  rw [hok] at HV
  clear hB hok hb0 hb1 hx1 hb2 hx2
  go_enter Tryd.func13, Tryd.ntmps13
  go_wp2
  refine wp_loop_rounds 3 ?_
  rw [rounds_succ]
  go_wp2
  rw [rounds_succ]
  go_wp2
  rw [rounds_succ]
  go_wp2_with (first
    | (go_at_call 27; with_reducible refine HV.out.mono ?_; rintro e w1 ⟨rfl, rfl⟩))
  go_ret2
  exact ⟨rfl, Below.refl _ _⟩

set_option maxHeartbeats 2000000 in
theorem RNext_3_no (b off n c : Nat) (l : List Int) (b0 b1 b2 x1 x2 : Int) (w : World) (hb0 : gl l 0 = b0) (hb1 : gl l 1 = b1) (hb2 : gl l 2 = b2) (g0 : 0 ≤ b0 ∧ b0 ≤ 255) (g1 : 0 ≤ b1 ∧ b1 ≤ 255) (g2 : 0 ≤ b2 ∧ b2 ≤ 255) (hx1 : x1 = (b0 % 16) * 64 + b1 % 64) (hx2 : x2 = x1 * 64 + b2 % 64) (hB : Bs w (.slice (some ⟨b, off, none⟩) n c) l) (h0 : 0 < n) (hn : n ≤ 140737488351232) (h1 : 224 ≤ b0) (h2 : b0 < 240) (hs : 3 ≤ n) (hok : okRune x2 = true) (hq : decide (l.take (enc x2).length = enc x2) = false) :
    Calls Tryd.prog 13 #[.slice (some ⟨b, off, none⟩) n c] w fun e w' => e = .returned (.tuple #[.int .i32 0, .int .i64 0]) ∧ Below w.heap.size w w' := by
  have c0 := hB.first h0
  rw [hb0] at c0
  have n0 : ((n : Int) == 0) = false := beq_eq_false_iff_ne.2 (by omega)
  have m0 : b0.tmod 16 = b0 % 16 := Int.tmod_eq_emod_of_nonneg (by omega)
  have n1 : decide ((n : Int) < 3) = false := decide_eq_false (by omega)
  have c1 := hB.nth 1 (by omega)
  rw [hb1] at c1
  have q1 : ((1 : Nat) : Int) < (n : Int) := by omega
  have q1n : 1 < n := by omega
  have m1 : b1.tmod 64 = b1 % 64 := Int.tmod_eq_emod_of_nonneg (by omega)
  have t1 : IntKind.i64.wrap (b0 % 16 * 64) = b0 % 16 * 64 := IntWalk.i64_in _ (by omega)
  have s1 : IntKind.i64.wrap (b0 % 16 * 64 + b1 % 64) = x1 := by rw [IntWalk.i64_in _ (by omega)]; omega
  have s1' : b0 % 16 * 64 + b1 % 64 = x1 := by omega
  have c2 := hB.nth 2 (by omega)
  rw [hb2] at c2
  have q2 : ((2 : Nat) : Int) < (n : Int) := by omega
  have q2n : 2 < n := by omega
  have m2 : b2.tmod 64 = b2 % 64 := Int.tmod_eq_emod_of_nonneg (by omega)
  have t2 : IntKind.i64.wrap (x1 * 64) = x1 * 64 := IntWalk.i64_in _ (by omega)
  have s2 : IntKind.i64.wrap (x1 * 64 + b2 % 64) = x2 := by rw [IntWalk.i64_in _ (by omega)]; omega
  have s2' : x1 * 64 + b2 % 64 = x2 := by omega
  have hr : 0 ≤ x2 ∧ (x2 < 55296 ∨ 57343 < x2) ∧ x2 ≤ 1114111 := of_decide_eq_true hok
  have hbs := Bs_put w x2
  have hel := enc_len x2
  have HBY : Hid (∀ W, Calls Tryd.prog 29 #[.int .i64 x2] W fun e w' => e = .returned (.slice (some ⟨W.heap.size, 0, none⟩) (enc x2).length (enc x2).length) ∧ W.alloc (.cells (encCells x2) 5) = w') := fun W => by
    have := Rbytes_any x2 W (by omega) (by omega)
    skip
    exact this
  have hb1 : Below w.heap.size w (w.alloc (.cells (encCells x2) 5)) := (Below.refl _ _).alloc (Nat.le_refl _) _
  have HBG := Rbegins_any b off n c w.heap.size 0 _ _ l (enc x2) _ (hB.below hb1) hbs h0 (by omega) hn
  rw [hq] at HBG
  skip
  have HG := Lib.hid HBG
  have HB1 := Lib.hid hb1
  have hw : IntKind.i32.wrap x2 = x2 := IntWalk.i32_in _ (by omega)
  clear hbs HBG hb1 hel hq 
  have HV := Lib.hid (Rvalid x2 w)
  rw [hok] at HV
  clear hB hok hb0 hb1 hx1 hb2 hx2
  go_enter Tryd.func13, Tryd.ntmps13
  go_wp2
  refine wp_loop_rounds 3 ?_
  rw [rounds_succ]
  go_wp2
  rw [rounds_succ]
  go_wp2
  rw [rounds_succ]
  go_wp2_with (first
    | (go_at_call 27; with_reducible refine HV.out.mono ?_; rintro e w1 ⟨rfl, rfl⟩)
    | (go_at_call 29; with_reducible refine (HBY.out _).mono ?_; rintro e w2 ⟨rfl, rfl⟩)
    | (go_at_call 28; with_reducible refine HG.out.mono ?_; rintro e w3 ⟨rfl, hb3⟩))
  go_ret2
  have q := HB1.out.trans (hb3.mono HB1.out.size)
  exact ⟨rfl, q⟩

set_option maxHeartbeats 2000000 in
theorem RNext_3_yes (b off n c : Nat) (l : List Int) (b0 b1 b2 x1 x2 : Int) (w : World) (hb0 : gl l 0 = b0) (hb1 : gl l 1 = b1) (hb2 : gl l 2 = b2) (g0 : 0 ≤ b0 ∧ b0 ≤ 255) (g1 : 0 ≤ b1 ∧ b1 ≤ 255) (g2 : 0 ≤ b2 ∧ b2 ≤ 255) (hx1 : x1 = (b0 % 16) * 64 + b1 % 64) (hx2 : x2 = x1 * 64 + b2 % 64) (hB : Bs w (.slice (some ⟨b, off, none⟩) n c) l) (h0 : 0 < n) (hn : n ≤ 140737488351232) (h1 : 224 ≤ b0) (h2 : b0 < 240) (hs : 3 ≤ n) (hok : okRune x2 = true) (hq : decide (l.take (enc x2).length = enc x2) = true) (hlen : (enc x2).length = 3) :
    Calls Tryd.prog 13 #[.slice (some ⟨b, off, none⟩) n c] w fun e w' => e = .returned (.tuple #[.int .i32 x2, .int .i64 3]) ∧ Below w.heap.size w w' := by
  have c0 := hB.first h0
  rw [hb0] at c0
  have n0 : ((n : Int) == 0) = false := beq_eq_false_iff_ne.2 (by omega)
  have m0 : b0.tmod 16 = b0 % 16 := Int.tmod_eq_emod_of_nonneg (by omega)
  have n1 : decide ((n : Int) < 3) = false := decide_eq_false (by omega)
  have c1 := hB.nth 1 (by omega)
  rw [hb1] at c1
  have q1 : ((1 : Nat) : Int) < (n : Int) := by omega
  have q1n : 1 < n := by omega
  have m1 : b1.tmod 64 = b1 % 64 := Int.tmod_eq_emod_of_nonneg (by omega)
  have t1 : IntKind.i64.wrap (b0 % 16 * 64) = b0 % 16 * 64 := IntWalk.i64_in _ (by omega)
  have s1 : IntKind.i64.wrap (b0 % 16 * 64 + b1 % 64) = x1 := by rw [IntWalk.i64_in _ (by omega)]; omega
  have s1' : b0 % 16 * 64 + b1 % 64 = x1 := by omega
  have c2 := hB.nth 2 (by omega)
  rw [hb2] at c2
  have q2 : ((2 : Nat) : Int) < (n : Int) := by omega
  have q2n : 2 < n := by omega
  have m2 : b2.tmod 64 = b2 % 64 := Int.tmod_eq_emod_of_nonneg (by omega)
  have t2 : IntKind.i64.wrap (x1 * 64) = x1 * 64 := IntWalk.i64_in _ (by omega)
  have s2 : IntKind.i64.wrap (x1 * 64 + b2 % 64) = x2 := by rw [IntWalk.i64_in _ (by omega)]; omega
  have s2' : x1 * 64 + b2 % 64 = x2 := by omega
  have hr : 0 ≤ x2 ∧ (x2 < 55296 ∨ 57343 < x2) ∧ x2 ≤ 1114111 := of_decide_eq_true hok
  have hbs := Bs_put w x2
  have hel := enc_len x2
  have HBY : Hid (∀ W, Calls Tryd.prog 29 #[.int .i64 x2] W fun e w' => e = .returned (.slice (some ⟨W.heap.size, 0, none⟩) 3 3) ∧ W.alloc (.cells (encCells x2) 5) = w') := fun W => by
    have := Rbytes_any x2 W (by omega) (by omega)
    rw [hlen] at this
    exact this
  have hb1 : Below w.heap.size w (w.alloc (.cells (encCells x2) 5)) := (Below.refl _ _).alloc (Nat.le_refl _) _
  have HBG := Rbegins_any b off n c w.heap.size 0 _ _ l (enc x2) _ (hB.below hb1) hbs h0 (by omega) hn
  rw [hq] at HBG
  rw [hlen] at HBG
  have HG := Lib.hid HBG
  have HB1 := Lib.hid hb1
  have hw : IntKind.i32.wrap x2 = x2 := IntWalk.i32_in _ (by omega)
  clear hbs HBG hb1 hel hq hlen
  have HV := Lib.hid (Rvalid x2 w)
  rw [hok] at HV
  clear hB hok hb0 hb1 hx1 hb2 hx2
  go_enter Tryd.func13, Tryd.ntmps13
  go_wp2
  refine wp_loop_rounds 3 ?_
  rw [rounds_succ]
  go_wp2
  rw [rounds_succ]
  go_wp2
  rw [rounds_succ]
  go_wp2_with (first
    | (go_at_call 27; with_reducible refine HV.out.mono ?_; rintro e w1 ⟨rfl, rfl⟩)
    | (go_at_call 29; with_reducible refine (HBY.out _).mono ?_; rintro e w2 ⟨rfl, rfl⟩)
    | (go_at_call 28; with_reducible refine HG.out.mono ?_; rintro e w3 ⟨rfl, hb3⟩))
  go_ret2
  have q := HB1.out.trans (hb3.mono HB1.out.size)
  exact ⟨rfl, q.alloc q.size _⟩

set_option maxHeartbeats 2000000 in
theorem RNext_4_short (b off n c : Nat) (l : List Int) (b0  : Int) (w : World) (hb0 : gl l 0 = b0) (g0 : 0 ≤ b0 ∧ b0 ≤ 255)  (hB : Bs w (.slice (some ⟨b, off, none⟩) n c) l) (h0 : 0 < n) (hn : n ≤ 140737488351232) (h1 : 240 ≤ b0) (_h2 : b0 < 256) (hs : n < 4) :
    Calls Tryd.prog 13 #[.slice (some ⟨b, off, none⟩) n c] w fun e w' => e = .returned (.tuple #[.int .i32 0, .int .i64 0]) ∧ Below w.heap.size w w' := by
  have c0 := hB.first h0
  rw [hb0] at c0
  have n0 : ((n : Int) == 0) = false := beq_eq_false_iff_ne.2 (by omega)
  have m0 : b0.tmod 8 = b0 % 8 := Int.tmod_eq_emod_of_nonneg (by omega)
  have n1 : decide ((n : Int) < 4) = true := decide_eq_true (by omega)
  clear hB hb0
  go_enter Tryd.func13, Tryd.ntmps13
  go_wp2
  go_ret2
  exact ⟨rfl, Below.refl _ _⟩

set_option maxHeartbeats 2000000 in
theorem RNext_4_bad (b off n c : Nat) (l : List Int) (b0 b1 b2 b3 x1 x2 x3 : Int) (w : World) (hb0 : gl l 0 = b0) (hb1 : gl l 1 = b1) (hb2 : gl l 2 = b2) (hb3 : gl l 3 = b3) (g0 : 0 ≤ b0 ∧ b0 ≤ 255) (g1 : 0 ≤ b1 ∧ b1 ≤ 255) (g2 : 0 ≤ b2 ∧ b2 ≤ 255) (g3 : 0 ≤ b3 ∧ b3 ≤ 255) (hx1 : x1 = (b0 % 8) * 64 + b1 % 64) (hx2 : x2 = x1 * 64 + b2 % 64) (hx3 : x3 = x2 * 64 + b3 % 64) (hB : Bs w (.slice (some ⟨b, off, none⟩) n c) l) (h0 : 0 < n) (hn : n ≤ 140737488351232) (h1 : 240 ≤ b0) (_h2 : b0 < 256) (hs : 4 ≤ n) (hok : okRune x3 = false) :
    Calls Tryd.prog 13 #[.slice (some ⟨b, off, none⟩) n c] w fun e w' => e = .returned (.tuple #[.int .i32 0, .int .i64 0]) ∧ Below w.heap.size w w' := by
  have c0 := hB.first h0
  rw [hb0] at c0
  have n0 : ((n : Int) == 0) = false := beq_eq_false_iff_ne.2 (by omega)
  have m0 : b0.tmod 8 = b0 % 8 := Int.tmod_eq_emod_of_nonneg (by omega)
  have n1 : decide ((n : Int) < 4) = false := decide_eq_false (by omega)
  have c1 := hB.nth 1 (by omega)
  rw [hb1] at c1
  have q1 : ((1 : Nat) : Int) < (n : Int) := by omega
  have q1n : 1 < n := by omega
  have m1 : b1.tmod 64 = b1 % 64 := Int.tmod_eq_emod_of_nonneg (by omega)
  have t1 : IntKind.i64.wrap (b0 % 8 * 64) = b0 % 8 * 64 := IntWalk.i64_in _ (by omega)
  have s1 : IntKind.i64.wrap (b0 % 8 * 64 + b1 % 64) = x1 := by rw [IntWalk.i64_in _ (by omega)]; omega
  have s1' : b0 % 8 * 64 + b1 % 64 = x1 := by omega
  have c2 := hB.nth 2 (by omega)
  rw [hb2] at c2
  have q2 : ((2 : Nat) : Int) < (n : Int) := by omega
  have q2n : 2 < n := by omega
  have m2 : b2.tmod 64 = b2 % 64 := Int.tmod_eq_emod_of_nonneg (by omega)
  have t2 : IntKind.i64.wrap (x1 * 64) = x1 * 64 := IntWalk.i64_in _ (by omega)
  have s2 : IntKind.i64.wrap (x1 * 64 + b2 % 64) = x2 := by rw [IntWalk.i64_in _ (by omega)]; omega
  have s2' : x1 * 64 + b2 % 64 = x2 := by omega
  have c3 := hB.nth 3 (by omega)
  rw [hb3] at c3
  have q3 : ((3 : Nat) : Int) < (n : Int) := by omega
  have q3n : 3 < n := by omega
  have m3 : b3.tmod 64 = b3 % 64 := Int.tmod_eq_emod_of_nonneg (by omega)
  have t3 : IntKind.i64.wrap (x2 * 64) = x2 * 64 := IntWalk.i64_in _ (by omega)
  have s3 : IntKind.i64.wrap (x2 * 64 + b3 % 64) = x3 := by rw [IntWalk.i64_in _ (by omega)]; omega
  have s3' : x2 * 64 + b3 % 64 = x3 := by omega
  have HV := Lib.hid (Rvalid x3 w)
  rw [hok] at HV
  clear hB hok hb0 hb1 hx1 hb2 hx2 hb3 hx3
  go_enter Tryd.func13, Tryd.ntmps13
  go_wp2
  refine wp_loop_rounds 4 ?_
  rw [rounds_succ]
  go_wp2
  rw [rounds_succ]
  go_wp2
  rw [rounds_succ]
  go_wp2
  rw [rounds_succ]
  go_wp2_with (first
    | (go_at_call 27; with_reducible refine HV.out.mono ?_; rintro e w1 ⟨rfl, rfl⟩))
  go_ret2
  exact ⟨rfl, Below.refl _ _⟩

set_option maxHeartbeats 2000000 in
theorem RNext_4_no (b off n c : Nat) (l : List Int) (b0 b1 b2 b3 x1 x2 x3 : Int) (w : World) (hb0 : gl l 0 = b0) (hb1 : gl l 1 = b1) (hb2 : gl l 2 = b2) (hb3 : gl l 3 = b3) (g0 : 0 ≤ b0 ∧ b0 ≤ 255) (g1 : 0 ≤ b1 ∧ b1 ≤ 255) (g2 : 0 ≤ b2 ∧ b2 ≤ 255) (g3 : 0 ≤ b3 ∧ b3 ≤ 255) (hx1 : x1 = (b0 % 8) * 64 + b1 % 64) (hx2 : x2 = x1 * 64 + b2 % 64) (hx3 : x3 = x2 * 64 + b3 % 64) (hB : Bs w (.slice (some ⟨b, off, none⟩) n c) l) (h0 : 0 < n) (hn : n ≤ 140737488351232) (h1 : 240 ≤ b0) (_h2 : b0 < 256) (hs : 4 ≤ n) (hok : okRune x3 = true) (hq : decide (l.take (enc x3).length = enc x3) = false) :
    Calls Tryd.prog 13 #[.slice (some ⟨b, off, none⟩) n c] w fun e w' => e = .returned (.tuple #[.int .i32 0, .int .i64 0]) ∧ Below w.heap.size w w' := by
  have c0 := hB.first h0
  rw [hb0] at c0
  have n0 : ((n : Int) == 0) = false := beq_eq_false_iff_ne.2 (by omega)
  have m0 : b0.tmod 8 = b0 % 8 := Int.tmod_eq_emod_of_nonneg (by omega)
  have n1 : decide ((n : Int) < 4) = false := decide_eq_false (by omega)
  have c1 := hB.nth 1 (by omega)
  rw [hb1] at c1
  have q1 : ((1 : Nat) : Int) < (n : Int) := by omega
  have q1n : 1 < n := by omega
  have m1 : b1.tmod 64 = b1 % 64 := Int.tmod_eq_emod_of_nonneg (by omega)
  have t1 : IntKind.i64.wrap (b0 % 8 * 64) = b0 % 8 * 64 := IntWalk.i64_in _ (by omega)
  have s1 : IntKind.i64.wrap (b0 % 8 * 64 + b1 % 64) = x1 := by rw [IntWalk.i64_in _ (by omega)]; omega
  have s1' : b0 % 8 * 64 + b1 % 64 = x1 := by omega
  have c2 := hB.nth 2 (by omega)
  rw [hb2] at c2
  have q2 : ((2 : Nat) : Int) < (n : Int) := by omega
  have q2n : 2 < n := by omega
  have m2 : b2.tmod 64 = b2 % 64 := Int.tmod_eq_emod_of_nonneg (by omega)
  have t2 : IntKind.i64.wrap (x1 * 64) = x1 * 64 := IntWalk.i64_in _ (by omega)
  have s2 : IntKind.i64.wrap (x1 * 64 + b2 % 64) = x2 := by rw [IntWalk.i64_in _ (by omega)]; omega
  have s2' : x1 * 64 + b2 % 64 = x2 := by omega
  have c3 := hB.nth 3 (by omega)
  rw [hb3] at c3
  have q3 : ((3 : Nat) : Int) < (n : Int) := by omega
  have q3n : 3 < n := by omega
  have m3 : b3.tmod 64 = b3 % 64 := Int.tmod_eq_emod_of_nonneg (by omega)
  have t3 : IntKind.i64.wrap (x2 * 64) = x2 * 64 := IntWalk.i64_in _ (by omega)
  have s3 : IntKind.i64.wrap (x2 * 64 + b3 % 64) = x3 := by rw [IntWalk.i64_in _ (by omega)]; omega
  have s3' : x2 * 64 + b3 % 64 = x3 := by omega
  have hr : 0 ≤ x3 ∧ (x3 < 55296 ∨ 57343 < x3) ∧ x3 ≤ 1114111 := of_decide_eq_true hok
  have hbs := Bs_put w x3
  have hel := enc_len x3
  have HBY : Hid (∀ W, Calls Tryd.prog 29 #[.int .i64 x3] W fun e w' => e = .returned (.slice (some ⟨W.heap.size, 0, none⟩) (enc x3).length (enc x3).length) ∧ W.alloc (.cells (encCells x3) 5) = w') := fun W => by
    have := Rbytes_any x3 W (by omega) (by omega)
    skip
    exact this
  have hb1 : Below w.heap.size w (w.alloc (.cells (encCells x3) 5)) := (Below.refl _ _).alloc (Nat.le_refl _) _
  have HBG := Rbegins_any b off n c w.heap.size 0 _ _ l (enc x3) _ (hB.below hb1) hbs h0 (by omega) hn
  rw [hq] at HBG
  skip
  have HG := Lib.hid HBG
  have HB1 := Lib.hid hb1
  have hw : IntKind.i32.wrap x3 = x3 := IntWalk.i32_in _ (by omega)
  clear hbs HBG hb1 hel hq 
  have HV := Lib.hid (Rvalid x3 w)
  rw [hok] at HV
  clear hB hok hb0 hb1 hx1 hb2 hx2 hb3 hx3
  go_enter Tryd.func13, Tryd.ntmps13
  go_wp2
  refine wp_loop_rounds 4 ?_
  rw [rounds_succ]
  go_wp2
  rw [rounds_succ]
  go_wp2
  rw [rounds_succ]
  go_wp2
  rw [rounds_succ]
  go_wp2_with (first
    | (go_at_call 27; with_reducible refine HV.out.mono ?_; rintro e w1 ⟨rfl, rfl⟩)
    | (go_at_call 29; with_reducible refine (HBY.out _).mono ?_; rintro e w2 ⟨rfl, rfl⟩)
    | (go_at_call 28; with_reducible refine HG.out.mono ?_; rintro e w3 ⟨rfl, hb3⟩))
  go_ret2
  have q := HB1.out.trans (hb3.mono HB1.out.size)
  exact ⟨rfl, q⟩

set_option maxHeartbeats 2000000 in
theorem RNext_4_yes (b off n c : Nat) (l : List Int) (b0 b1 b2 b3 x1 x2 x3 : Int) (w : World) (hb0 : gl l 0 = b0) (hb1 : gl l 1 = b1) (hb2 : gl l 2 = b2) (hb3 : gl l 3 = b3) (g0 : 0 ≤ b0 ∧ b0 ≤ 255) (g1 : 0 ≤ b1 ∧ b1 ≤ 255) (g2 : 0 ≤ b2 ∧ b2 ≤ 255) (g3 : 0 ≤ b3 ∧ b3 ≤ 255) (hx1 : x1 = (b0 % 8) * 64 + b1 % 64) (hx2 : x2 = x1 * 64 + b2 % 64) (hx3 : x3 = x2 * 64 + b3 % 64) (hB : Bs w (.slice (some ⟨b, off, none⟩) n c) l) (h0 : 0 < n) (hn : n ≤ 140737488351232) (h1 : 240 ≤ b0) (_h2 : b0 < 256) (hs : 4 ≤ n) (hok : okRune x3 = true) (hq : decide (l.take (enc x3).length = enc x3) = true) (hlen : (enc x3).length = 4) :
    Calls Tryd.prog 13 #[.slice (some ⟨b, off, none⟩) n c] w fun e w' => e = .returned (.tuple #[.int .i32 x3, .int .i64 4]) ∧ Below w.heap.size w w' := by
  have c0 := hB.first h0
  rw [hb0] at c0
  have n0 : ((n : Int) == 0) = false := beq_eq_false_iff_ne.2 (by omega)
  have m0 : b0.tmod 8 = b0 % 8 := Int.tmod_eq_emod_of_nonneg (by omega)
  have n1 : decide ((n : Int) < 4) = false := decide_eq_false (by omega)
  have c1 := hB.nth 1 (by omega)
  rw [hb1] at c1
  have q1 : ((1 : Nat) : Int) < (n : Int) := by omega
  have q1n : 1 < n := by omega
  have m1 : b1.tmod 64 = b1 % 64 := Int.tmod_eq_emod_of_nonneg (by omega)
  have t1 : IntKind.i64.wrap (b0 % 8 * 64) = b0 % 8 * 64 := IntWalk.i64_in _ (by omega)
  have s1 : IntKind.i64.wrap (b0 % 8 * 64 + b1 % 64) = x1 := by rw [IntWalk.i64_in _ (by omega)]; omega
  have s1' : b0 % 8 * 64 + b1 % 64 = x1 := by omega
  have c2 := hB.nth 2 (by omega)
  rw [hb2] at c2
  have q2 : ((2 : Nat) : Int) < (n : Int) := by omega
  have q2n : 2 < n := by omega
  have m2 : b2.tmod 64 = b2 % 64 := Int.tmod_eq_emod_of_nonneg (by omega)
  have t2 : IntKind.i64.wrap (x1 * 64) = x1 * 64 := IntWalk.i64_in _ (by omega)
  have s2 : IntKind.i64.wrap (x1 * 64 + b2 % 64) = x2 := by rw [IntWalk.i64_in _ (by omega)]; omega
  have s2' : x1 * 64 + b2 % 64 = x2 := by omega
  have c3 := hB.nth 3 (by omega)
  rw [hb3] at c3
  have q3 : ((3 : Nat) : Int) < (n : Int) := by omega
  have q3n : 3 < n := by omega
  have m3 : b3.tmod 64 = b3 % 64 := Int.tmod_eq_emod_of_nonneg (by omega)
  have t3 : IntKind.i64.wrap (x2 * 64) = x2 * 64 := IntWalk.i64_in _ (by omega)
  have s3 : IntKind.i64.wrap (x2 * 64 + b3 % 64) = x3 := by rw [IntWalk.i64_in _ (by omega)]; omega
  have s3' : x2 * 64 + b3 % 64 = x3 := by omega
  have hr : 0 ≤ x3 ∧ (x3 < 55296 ∨ 57343 < x3) ∧ x3 ≤ 1114111 := of_decide_eq_true hok
  have hbs := Bs_put w x3
  have hel := enc_len x3
  have HBY : Hid (∀ W, Calls Tryd.prog 29 #[.int .i64 x3] W fun e w' => e = .returned (.slice (some ⟨W.heap.size, 0, none⟩) 4 4) ∧ W.alloc (.cells (encCells x3) 5) = w') := fun W => by
    have := Rbytes_any x3 W (by omega) (by omega)
    rw [hlen] at this
    exact this
  have hb1 : Below w.heap.size w (w.alloc (.cells (encCells x3) 5)) := (Below.refl _ _).alloc (Nat.le_refl _) _
  have HBG := Rbegins_any b off n c w.heap.size 0 _ _ l (enc x3) _ (hB.below hb1) hbs h0 (by omega) hn
  rw [hq] at HBG
  rw [hlen] at HBG
  have HG := Lib.hid HBG
  have HB1 := Lib.hid hb1
  have hw : IntKind.i32.wrap x3 = x3 := IntWalk.i32_in _ (by omega)
  clear hbs HBG hb1 hel hq hlen
  have HV := Lib.hid (Rvalid x3 w)
  rw [hok] at HV
  clear hB hok hb0 hb1 hx1 hb2 hx2 hb3 hx3
  go_enter Tryd.func13, Tryd.ntmps13
  go_wp2
  refine wp_loop_rounds 4 ?_
  rw [rounds_succ]
  go_wp2
  rw [rounds_succ]
  go_wp2
  rw [rounds_succ]
  go_wp2
  rw [rounds_succ]
  go_wp2_with (first
    | (go_at_call 27; with_reducible refine HV.out.mono ?_; rintro e w1 ⟨rfl, rfl⟩)
    | (go_at_call 29; with_reducible refine (HBY.out _).mono ?_; rintro e w2 ⟨rfl, rfl⟩)
    | (go_at_call 28; with_reducible refine HG.out.mono ?_; rintro e w3 ⟨rfl, hb3⟩))
  go_ret2
  have q := HB1.out.trans (hb3.mono HB1.out.size)
  exact ⟨rfl, q.alloc q.size _⟩
end Go.Proofs.YtbajejhhmacflaaDoor.utf
