/- The contracts of digits, escapeNumber, Escape. -/
import Derived.Test.YtbajejhhmacflaaDoorUtfR
namespace Go.Proofs.YtbajejhhmacflaaDoor.utf
open Go.PlainAid Go.ChangeShapes Go.WideShapes Go.ChangeAt Go.RowKit

/-- A digit of sixteen; below 0: it is none. -/
def hexv (c : Int) : Int := if 48 ≤ c ∧ c ≤ 57 then c - 48 else if 97 ≤ c ∧ c ≤ 102 then c - 87 else if 65 ≤ c ∧ c ≤ 70 then c - 55 else -1
/-- The first k digits' number, behind the first byte. -/
def hxk (l : List Int) : Nat → Option Int
  | 0 => some 0
  | k + 1 => (hxk l k).bind fun r => if hexv (gl l (k + 1)) < 0 then none else some (r * 16 + hexv (gl l (k + 1)))
def dig (l : List Int) : Int × Bool :=
  if l.length < 5 then (0, false) else if gl l 0 ≠ 117 then (0, false) else match hxk l 4 with | some r => (r, true) | none => (0, false)
theorem hexv_range (c : Int) : -1 ≤ hexv c ∧ hexv c ≤ 15 := by unfold hexv; split <;> (try split) <;> (try split) <;> omega
theorem hxk_range (l : List Int) : ∀ (k : Nat) (r : Int), hxk l k = some r → 0 ≤ r ∧ r < 16 ^ k
  | 0, r, h => by simp [hxk] at h; subst h; simp
  | k + 1, r, h => by
    simp only [hxk] at h
    cases hk : hxk l k with
    | none => rw [hk] at h; cases h
    | some q =>
      rw [hk] at h
      simp only [Option.bind_some] at h
      split at h
      · cases h
      · have := hxk_range l k q hk
        have hv := hexv_range (gl l (k + 1))
        injection h with h
        rw [Int.pow_succ]
        omega
theorem hxk_none {l : List Int} {k : Nat} (h : hxk l k = none) : ∀ j, hxk l (k + j) = none
  | 0 => h
  | j + 1 => by
    show hxk l (k + j + 1) = none
    simp only [hxk, hxk_none h j, Option.bind_none]
theorem or16 (r x : Int) (h0 : 0 ≤ r) (h1 : r < 4096) (h2 : 0 ≤ x) (h3 : x < 16) : bits .or .i32 (r * 16) x = r * 16 + x := by
  exact bits_join .i32 31 (by decide) (fun m a b => by rw [IntKind.wrap_i32]; omega) 4 (r * 16) x (by omega) (by omega) (by omega) h2 (by omega) (by omega)

theorem digits_short (p : Option Addr) (n c : Nat) (w : World) (hn : n < 5) :
    Calls Tryd.prog 43 #[.slice p n c] w fun e w' => e = .returned (.tuple #[.int .i32 0, .bool false]) ∧ w = w' := by
  go_enter Tryd.func43, Tryd.ntmps43
  go_wp2
  go_ret2
  exact ⟨rfl, rfl⟩

theorem digits_other (b off n c : Nat) (x : Int) (w : World) (hn : 5 ≤ n) (hm : n ≤ 140737488351232) (hc : w.cell? ⟨b, off, none⟩ = some (.int .u8 x)) (hx : x ≠ 117) :
    Calls Tryd.prog 43 #[.slice (some ⟨b, off, none⟩) n c] w fun e w' => e = .returned (.tuple #[.int .i32 0, .bool false]) ∧ w = w' := by
  have b1 : (x != 117) = true := by simpa using hx
  clear hx
  go_enter Tryd.func43, Tryd.ntmps43
  go_wp2
  go_ret2
  exact ⟨rfl, rfl⟩

set_option maxHeartbeats 1000000 in
theorem digits_some (b off n c : Nat) (l : List Int) (w : World) (hO : Oct l) (hl : l.length = n) (hn : 5 ≤ n) (hm : n ≤ 140737488351232) (hnc : n ≤ c)
    (hcell : ∀ i, i < n → w.cell? ⟨b, off + i, none⟩ = some (.int .u8 (gl l i))) (hx : gl l 0 = 117) :
    Calls Tryd.prog 43 #[.slice (some ⟨b, off, none⟩) n c] w fun e w' => e = .returned (.tuple #[.int .i32 (dig l).1, .bool (dig l).2]) ∧ w = w' := by
  have hd : dig l = match hxk l 4 with | some r => (r, true) | none => (0, false) := by
    unfold dig
    rw [if_neg (by omega), if_neg (by simpa using hx)]
  have hc0 : w.cell? ⟨b, off, none⟩ = some (.int .u8 117) := by have := hcell 0 (by omega); rw [hx] at this; simpa using this
  have HC := Lib.hid hcell
  have HD := Lib.hid hd
  have HO := Lib.hid hO
  clear hcell hd hx hl hO
  go_enter Tryd.func43, Tryd.ntmps43
  go_wp2
  go_loop [4, 19] (fun v i => ∃ (k : Nat) (r : Int), k ≤ 4 ∧ i = .int .i64 k ∧ v = .int .i32 r ∧ Hid (hxk l k = some r)) (fun _ i => 4 - (intOf i).toNat)
  case atStart => exact ⟨0, 0, by omega, rfl, rfl, rfl⟩
  case round =>
    obtain ⟨k, r, hk, rfl, rfl, hr⟩ := hrel
    by_cases hk4 : k < 4
    · have hxb := HO.out.gl (k + 1)
      have hcx := HC.out (k + 1) (by omega)
      rw [show off + (k + 1) = off + 1 + k by omega] at hcx
      have hrr := hxk_range l k r hr.out
      have hp : (16 : Int) ^ k ≤ 4096 := by
        have : k = 0 ∨ k = 1 ∨ k = 2 ∨ k = 3 := by omega
        rcases this with rfl | rfl | rfl | rfl <;> decide
      have hstep : hxk l (k + 1) = if hexv (gl l (k + 1)) < 0 then none else some (r * 16 + hexv (gl l (k + 1))) := by
        show (hxk l k).bind _ = _
        rw [hr.out]; rfl
      revert hstep hcx hxb
      generalize gl l (k + 1) = x
      intro hxb hcx hstep
      obtain ⟨x0, x1⟩ := hxb
      obtain ⟨r0, r1⟩ := hrr
      have r2 : r < 4096 := by omega
      clear hr hp r1
      have fin : ∀ d : Int, hexv x = d → 0 ≤ d → Hid (hxk l (k + 1) = some (r * 16 + d)) := fun d e h0 => by
        show _ = _
        rw [hstep, e, if_neg (by omega)]
      by_cases c1 : 48 ≤ x ∧ x ≤ 57
      · obtain ⟨a1, a2⟩ := c1
        have hres := fin (x - 48) (by unfold hexv; rw [if_pos ⟨a1, a2⟩]) (by omega)
        have hor : bits .or .i32 (r * 16) (x - 48) = r * 16 + (x - 48) := or16 r (x - 48) r0 r2 (by omega) (by omega)
        clear fin hstep
        go_wp2
        go_round
        case rel => exact ⟨k + 1, _, by omega, by go_num, rfl, hres⟩
        case measure => simp [intOf]; omega
      by_cases c2 : 97 ≤ x ∧ x ≤ 102
      · obtain ⟨a1, a2⟩ := c2
        have hres := fin (x - 87) (by unfold hexv; rw [if_neg (by omega), if_pos ⟨a1, a2⟩]) (by omega)
        have hor : bits .or .i32 (r * 16) (x - 97 + 10) = r * 16 + (x - 87) := by rw [or16 r (x - 97 + 10) r0 r2 (by omega) (by omega)]; omega
        clear fin hstep
        go_wp2
        go_round
        case rel => exact ⟨k + 1, _, by omega, by go_num, rfl, hres⟩
        case measure => simp [intOf]; omega
      by_cases c3 : 65 ≤ x ∧ x ≤ 70
      · obtain ⟨a1, a2⟩ := c3
        have hres := fin (x - 55) (by unfold hexv; rw [if_neg (by omega), if_neg (by omega), if_pos ⟨a1, a2⟩]) (by omega)
        have hor : bits .or .i32 (r * 16) (x - 65 + 10) = r * 16 + (x - 55) := by rw [or16 r (x - 65 + 10) r0 r2 (by omega) (by omega)]; omega
        have d1 : decide (x ≤ 57) = false := decide_eq_false (by omega)
        have d2 : decide (97 ≤ x) = false := decide_eq_false (by omega)
        clear fin hstep
        go_wp2
        go_round
        case rel => exact ⟨k + 1, _, by omega, by go_num, rfl, hres⟩
        case measure => simp [intOf]; omega
      · have hno : hexv x = -1 := by unfold hexv; rw [if_neg (by omega), if_neg (by omega), if_neg (by omega)]
        have h4 : hxk l 4 = none := by
          have e : hxk l (k + 1) = none := by rw [hstep, hno]; rfl
          have := hxk_none e (3 - k)
          rw [show k + 1 + (3 - k) = 4 by omega] at this
          exact this
        have hres : Hid (dig l = (0, false)) := by have := HD.out; rw [h4] at this; exact this
        have hb1 : (decide (48 ≤ x) && decide (x ≤ 57)) = false := by simp; omega
        have hb2 : (decide (97 ≤ x) && decide (x ≤ 102)) = false := by simp; omega
        have hb3 : (decide (65 ≤ x) && decide (x ≤ 70)) = false := by simp; omega
        clear fin hstep hno h4
        have hcase : x < 48 ∨ (57 < x ∧ x < 65) ∨ (70 < x ∧ x < 97) ∨ 102 < x := by omega
        rcases hcase with h | ⟨h, h'⟩ | ⟨h, h'⟩ | h
        all_goals
          go_wp2
          go_ret2
          rw [hres.out]
          exact ⟨rfl, rfl⟩
    · have hk' : k = 4 := by omega
      have hres : Hid (dig l = (r, true)) := by have := HD.out; rw [← hk', hr.out] at this; exact this
      clear hr hk'
      go_wp2
      go_ret2
      rw [hres.out]
      exact ⟨rfl, rfl⟩

/-- digits, of whatever bytes. -/
theorem digits_any (v : Value) (l : List Int) (w : World) (hO : Oct l) (hm : l.length ≤ 140737488351232) (hv : Bs w v l) :
    Calls Tryd.prog 43 #[v] w fun e w' => e = .returned (.tuple #[.int .i32 (dig l).1, .bool (dig l).2]) ∧ w = w' := by
  by_cases hn : l.length < 5
  · have hd : dig l = (0, false) := if_pos hn
    rw [hd]
    rcases hv with ⟨p, c, rfl, rfl⟩ | ⟨b, off, cap, rfl, h0, hc, _, hcell⟩
    · exact digits_short p 0 c w (by omega)
    · exact digits_short _ _ _ w hn
  rcases hv with ⟨p, c, rfl, rfl⟩ | ⟨b, off, cap, rfl, h0, hc, _, hcell⟩
  · simp at hn
  by_cases hx : gl l 0 = 117
  · exact digits_some b off l.length cap l w hO rfl (by omega) hm hc hcell hx
  · have hd : dig l = (0, false) := by unfold dig; rw [if_neg hn, if_pos hx]
    rw [hd]
    exact digits_other b off l.length cap (gl l 0) w (by omega) hm (by simpa using hcell 0 h0) hx

theorem escapeNumber_one (v : Value) (l : List Int) (w : World) (hO : Oct l) (hm : l.length ≤ 140737488351232) (hv : Bs w v l) (h : Int) (hd : dig l = (h, true)) (hk : h < 55296 ∨ 57343 < h) :
    Calls Tryd.prog 30 #[v] w fun e w' => e = .returned (.tuple #[.int .i32 h, .int .i64 5]) ∧ w = w' := by
  have H := digits_any v l w hO hm hv
  rw [hd] at H
  have HH := Lib.hid H
  clear H hd hv hO hm
  rcases hk with hk | hk
  all_goals
    go_enter Tryd.func30, Tryd.ntmps30
    go_wp2_with (go_at_call 43; refine HH.out.mono ?_; rintro e w' ⟨rfl, rfl⟩)
    go_ret2
    exact ⟨rfl, rfl⟩

theorem escapeNumber_two (b off n c : Nat) (l : List Int) (w : World) (hO : Oct l) (hl : l.length = n) (hn : 11 ≤ n) (hm : n ≤ 140737488351232) (hv : Bs w (.slice (some ⟨b, off, none⟩) n c) l) (h k : Int)
    (hd : dig l = (h, true)) (h0 : 55296 ≤ h) (h1 : h ≤ 56319) (h5 : gl l 5 = 92) (hd2 : dig (l.drop 6) = (k, true)) (k0 : 56320 ≤ k) (k1 : k ≤ 57343) :
    Calls Tryd.prog 30 #[.slice (some ⟨b, off, none⟩) n c] w fun e w' => e = .returned (.tuple #[.int .i32 (65536 + (h - 55296) * 1024 + (k - 56320)), .int .i64 11]) ∧ w = w' := by
  have H := digits_any _ l w hO (by rw [hl]; exact hm) hv
  rw [hd] at H
  have HH := Lib.hid H
  obtain ⟨hnc, hlt, hcell⟩ : n ≤ c ∧ b < w.heap.size ∧ ∀ i, i < n → w.cell? ⟨b, off + i, none⟩ = some (.int .u8 (gl l i)) := by
    rcases hv with ⟨_, _, hv, rfl⟩ | ⟨b', off', cap', hv, _, hc, hlt, hcell⟩
    · simp at hl; omega
    · injection hv with ha hm2 hcap
      injection ha with ha
      injection ha with hb ho
      subst hb ho hcap
      rw [hl] at hc hcell
      exact ⟨hc, hlt, hcell⟩
  have hc5 := hcell 5 (by omega)
  rw [h5] at hc5
  have hdr : Bs w (.slice (some ⟨b, off + 6, none⟩) (n - 6) (c - 6)) (l.drop 6) := by
    have := Bs.drop (w := w) (b := b) (off := off) (cap := c) (k := 6) (l := l) (by omega) (by omega) hlt (fun i hi => hcell i (by omega))
    rw [hl] at this
    exact this
  have H2 := digits_any _ (l.drop 6) w (hO.drop 6) (by simp; omega) hdr
  rw [hd2] at H2
  have HH2 := Lib.hid H2
  have d1 : decide (56320 ≤ h) = false := decide_eq_false (by omega)
  have d2 : decide (h < 55296) = false := decide_eq_false (by omega)
  have d3 : decide (57343 < h) = false := decide_eq_false (by omega)
  have d4 : decide (k < 56320) = false := decide_eq_false (by omega)
  have d5 : decide (57343 < k) = false := decide_eq_false (by omega)
  have n6 : 6 < c := by omega
  clear H H2 hd hd2 hv hO h5 hl hdr hcell
  go_enter Tryd.func30, Tryd.ntmps30
  go_wp2_with fail
  refine HH.out.mono ?_
  rintro e w' ⟨rfl, rfl⟩
  go_wp2_with fail
  refine HH2.out.mono ?_
  rintro e w' ⟨rfl, rfl⟩
  go_wp2
  go_ret2
  exact ⟨rfl, rfl⟩

theorem Escape_u (b off n c : Nat) (r m : Int) (w : World) (hn : 0 < n) (hm : n ≤ 140737488351232) (hc0 : w.cell? ⟨b, off, none⟩ = some (.int .u8 117))
    (H : Calls Tryd.prog 30 #[.slice (some ⟨b, off, none⟩) n c] w fun e w' => e = .returned (.tuple #[.int .i32 r, .int .i64 m]) ∧ w = w') :
    Calls Tryd.prog 14 #[.slice (some ⟨b, off, none⟩) n c] w fun e w' => e = .returned (.tuple #[.int .i32 r, .int .i64 m]) ∧ w = w' := by
  have HH := Lib.hid H
  have b0 : ((n : Int) == 0) = false := beq_eq_false_iff_ne.2 (by omega)
  clear H
  go_enter Tryd.func14, Tryd.ntmps14
  go_wp2_with (go_at_call 30; refine HH.out.mono ?_; rintro e w' ⟨rfl, rfl⟩)
  go_ret2
  exact ⟨rfl, rfl⟩
end Go.Proofs.YtbajejhhmacflaaDoor.utf
