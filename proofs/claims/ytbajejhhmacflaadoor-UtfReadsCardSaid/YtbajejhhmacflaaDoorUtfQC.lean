/- The contract of Escape, on any bytes. -/
import Derived.Test.YtbajejhhmacflaaDoorUtfH
namespace Go.Proofs.YtbajejhhmacflaaDoor.utf
open Go.PlainAid Go.ChangeShapes Go.WideShapes Go.ChangeAt Go.RowKit

/-- u and four digits, or two such. -/
def escn (l : List Int) : Int × Int :=
  if (dig l).2 = false ∨ (56320 ≤ (dig l).1 ∧ (dig l).1 ≤ 57343) then (0, 0)
  else if (dig l).1 < 55296 ∨ 57343 < (dig l).1 then ((dig l).1, 5)
  else if l.length < 6 ∨ gl l 5 ≠ 92 then (0, 0)
  else if (dig (l.drop 6)).2 = false ∨ (dig (l.drop 6)).1 < 56320 ∨ 57343 < (dig (l.drop 6)).1 then (0, 0)
  else (65536 + ((dig l).1 - 55296) * 1024 + ((dig (l.drop 6)).1 - 56320), 11)
def esc (l : List Int) : Int × Int :=
  if l.length = 0 then (0, 0)
  else if gl l 0 = 34 ∨ gl l 0 = 47 ∨ gl l 0 = 92 then (gl l 0, 1)
  else if gl l 0 = 98 then (8, 1)
  else if gl l 0 = 102 then (12, 1)
  else if gl l 0 = 110 then (10, 1)
  else if gl l 0 = 114 then (13, 1)
  else if gl l 0 = 116 then (9, 1)
  else escn l

theorem escapeNumber_bad (v : Value) (l : List Int) (w : World) (hO : Oct l) (hm : l.length ≤ 140737488351232) (hv : Bs w v l) (h : (dig l).2 = false ∨ (56320 ≤ (dig l).1 ∧ (dig l).1 ≤ 57343)) :
    Calls Tryd.prog 30 #[v] w fun e w' => e = .returned (.tuple #[.int .i32 0, .int .i64 0]) ∧ w = w' := by
  have H := digits_any v l w hO hm hv
  generalize dig l = d at H h
  obtain ⟨x, ok⟩ := d
  simp only at h H
  clear hv hO hm
  cases ok with
  | false =>
    have HH := Lib.hid H
    clear H h
    go_enter Tryd.func30, Tryd.ntmps30
    go_wp2_with (go_at_call 43; refine HH.out.mono ?_; rintro e w' ⟨rfl, rfl⟩)
    go_ret2
    exact ⟨rfl, rfl⟩
  | true =>
    rcases h with h | ⟨h0, h1⟩
    · cases h
    have HH := Lib.hid H
    clear H
    go_enter Tryd.func30, Tryd.ntmps30
    go_wp2_with (go_at_call 43; refine HH.out.mono ?_; rintro e w' ⟨rfl, rfl⟩)
    go_ret2
    exact ⟨rfl, rfl⟩

theorem escapeNumber_half (b off n c : Nat) (l : List Int) (w : World) (hO : Oct l) (hl : l.length = n) (hn0 : 0 < n) (hm : n ≤ 140737488351232) (hv : Bs w (.slice (some ⟨b, off, none⟩) n c) l) (h : Int)
    (hd : dig l = (h, true)) (h0 : 55296 ≤ h) (h1 : h ≤ 56319) (hbad : n < 6 ∨ gl l 5 ≠ 92 ∨ (dig (l.drop 6)).2 = false ∨ (dig (l.drop 6)).1 < 56320 ∨ 57343 < (dig (l.drop 6)).1) :
    Calls Tryd.prog 30 #[.slice (some ⟨b, off, none⟩) n c] w fun e w' => e = .returned (.tuple #[.int .i32 0, .int .i64 0]) ∧ w = w' := by
  have H := digits_any _ l w hO (by rw [hl]; exact hm) hv
  rw [hd] at H
  have HH := Lib.hid H
  obtain ⟨hnc, hlt, hcell⟩ : n ≤ c ∧ b < w.heap.size ∧ ∀ i, i < n → w.cell? ⟨b, off + i, none⟩ = some (.int .u8 (gl l i)) := by
    rcases hv with ⟨_, _, hv, rfl⟩ | ⟨b', off', cap', hv, _, hc, hlt, hcell⟩
    · simp at hl; omega
    · injection hv with ha hm2 hcap
      injection ha with ha
      injection ha with hb ho
      subst hb ho hcap
      rw [hl] at hc hcell
      exact ⟨hc, hlt, hcell⟩
  have d1 : decide (56320 ≤ h) = false := decide_eq_false (by omega)
  have d2 : decide (h < 55296) = false := decide_eq_false (by omega)
  have d3 : decide (57343 < h) = false := decide_eq_false (by omega)
  by_cases hn6 : n < 6
  · have d6 : decide ((n : Int) < 6) = true := decide_eq_true (by omega)
    clear H hd hv hO hl hcell hbad
    go_enter Tryd.func30, Tryd.ntmps30
    go_wp2_with (go_at_call 43; refine HH.out.mono ?_; rintro e w' ⟨rfl, rfl⟩)
    go_ret2
    exact ⟨rfl, rfl⟩
  have d6 : decide ((n : Int) < 6) = false := decide_eq_false (by omega)
  have hc5 := hcell 5 (by omega)
  by_cases h5 : gl l 5 = 92
  · rw [h5] at hc5
    by_cases hn11 : n < 11
    · have HS : Hid (∀ p cc, Calls Tryd.prog 43 #[.slice p (n - 6) cc] w fun e w' => e = .returned (.tuple #[.int .i32 0, .bool false]) ∧ w = w') := fun p cc => digits_short p (n - 6) cc w (by omega)
      clear H hd hv hO h5 hl hcell hbad
      by_cases hc6 : 6 < c
      · go_enter Tryd.func30, Tryd.ntmps30
        go_wp2_with fail
        refine HH.out.mono ?_
        rintro e w' ⟨rfl, rfl⟩
        go_wp2_with fail
        refine (HS.out _ _).mono ?_
        rintro e w' ⟨rfl, rfl⟩
        go_wp2
        go_ret2
        exact ⟨rfl, rfl⟩
      · obtain ⟨rfl, rfl⟩ : c = 6 ∧ n = 6 := by omega
        go_enter Tryd.func30, Tryd.ntmps30
        go_wp2_with fail
        refine HH.out.mono ?_
        rintro e w' ⟨rfl, rfl⟩
        go_wp2_with fail
        refine (HS.out _ _).mono ?_
        rintro e w' ⟨rfl, rfl⟩
        go_wp2
        go_ret2
        exact ⟨rfl, rfl⟩
    · have hdr : Bs w (.slice (some ⟨b, off + 6, none⟩) (n - 6) (c - 6)) (l.drop 6) := by
        have := Bs.drop (w := w) (b := b) (off := off) (cap := c) (k := 6) (l := l) (by omega) (by omega) hlt (fun i hi => hcell i (by omega))
        rw [hl] at this
        exact this
      have H2 := digits_any _ (l.drop 6) w (hO.drop 6) (by simp; omega) hdr
      have hbad' : (dig (l.drop 6)).2 = false ∨ (dig (l.drop 6)).1 < 56320 ∨ 57343 < (dig (l.drop 6)).1 := by
        rcases hbad with h | h | h
        · omega
        · exact absurd h5 h
        · exact h
      have n6 : 6 < c := by omega
      clear H hd hv hO h5 hl hdr hcell hbad
      generalize dig (l.drop 6) = d at H2 hbad'
      obtain ⟨k, ok⟩ := d
      have HH2 := Lib.hid H2
      clear H2
      simp only at hbad'
      cases ok with
      | false =>
        clear hbad'
        go_enter Tryd.func30, Tryd.ntmps30
        go_wp2_with fail
        refine HH.out.mono ?_
        rintro e w' ⟨rfl, rfl⟩
        go_wp2_with fail
        refine HH2.out.mono ?_
        rintro e w' ⟨rfl, rfl⟩
        go_wp2
        go_ret2
        exact ⟨rfl, rfl⟩
      | true =>
        rcases hbad' with h | h | h
        · cases h
        all_goals
          go_enter Tryd.func30, Tryd.ntmps30
          go_wp2_with fail
          refine HH.out.mono ?_
          rintro e w' ⟨rfl, rfl⟩
          go_wp2_with fail
          refine HH2.out.mono ?_
          rintro e w' ⟨rfl, rfl⟩
          go_wp2
          go_ret2
          exact ⟨rfl, rfl⟩
  · have hne : (gl l 5 != 92) = true := by simp [h5]
    generalize gl l 5 = x at hc5 hne
    clear H hd hv hO h5 hl hcell hbad
    go_enter Tryd.func30, Tryd.ntmps30
    go_wp2_with (go_at_call 43; refine HH.out.mono ?_; rintro e w' ⟨rfl, rfl⟩)
    go_ret2
    exact ⟨rfl, rfl⟩

theorem escapeNumber_any (b off n c : Nat) (l : List Int) (w : World) (hO : Oct l) (hl : l.length = n) (hn : 0 < n) (hm : n ≤ 140737488351232) (hv : Bs w (.slice (some ⟨b, off, none⟩) n c) l) :
    Calls Tryd.prog 30 #[.slice (some ⟨b, off, none⟩) n c] w fun e w' => e = .returned (.tuple #[.int .i32 (escn l).1, .int .i64 (escn l).2]) ∧ w = w' := by
  unfold escn
  by_cases h1 : (dig l).2 = false ∨ (56320 ≤ (dig l).1 ∧ (dig l).1 ≤ 57343)
  · rw [if_pos h1]
    exact escapeNumber_bad _ l w hO (by omega) hv h1
  rw [if_neg h1]
  have hd : dig l = ((dig l).1, true) := Prod.ext rfl (by cases h : (dig l).2 with | true => rfl | false => exact absurd (.inl h) h1)
  by_cases h2 : (dig l).1 < 55296 ∨ 57343 < (dig l).1
  · rw [if_pos h2]
    exact escapeNumber_one _ l w hO (by omega) hv _ hd h2
  rw [if_neg h2]
  by_cases h3 : l.length < 6 ∨ gl l 5 ≠ 92
  · rw [if_pos h3]
    exact escapeNumber_half b off n c l w hO hl hn hm hv _ hd (by omega) (by omega) (by rcases h3 with h | h; exact .inl (by omega); exact .inr (.inl h))
  rw [if_neg h3]
  by_cases h4 : (dig (l.drop 6)).2 = false ∨ (dig (l.drop 6)).1 < 56320 ∨ 57343 < (dig (l.drop 6)).1
  · rw [if_pos h4]
    exact escapeNumber_half b off n c l w hO hl hn hm hv _ hd (by omega) (by omega) (.inr (.inr h4))
  rw [if_neg h4]
  have hd2 : dig (l.drop 6) = ((dig (l.drop 6)).1, true) := Prod.ext rfl (by cases h : (dig (l.drop 6)).2 with | true => rfl | false => exact absurd (.inl h) h4)
  have h11 : 11 ≤ n := by
    have hnl : ¬ (l.drop 6).length < 5 := fun h => by
      have : dig (l.drop 6) = (0, false) := if_pos h
      rw [this] at hd2
      injection hd2 with _ h
      cases h
    simp at hnl
    omega
  exact escapeNumber_two b off n c l w hO hl h11 hm hv _ _ hd (by omega) (by omega) (by omega) hd2 (by omega) (by omega)

theorem Escape_none (p : Option Addr) (c : Nat) (w : World) : Calls Tryd.prog 14 #[.slice p 0 c] w fun e w' => e = .returned (.tuple #[.int .i32 0, .int .i64 0]) ∧ w = w' := by
  go_enter Tryd.func14, Tryd.ntmps14
  go_wp2
  go_ret2
  exact ⟨rfl, rfl⟩
theorem Escape_lit (b off n c : Nat) (x r : Int) (w : World) (hn : 0 < n) (hm : n ≤ 140737488351232) (hc0 : w.cell? ⟨b, off, none⟩ = some (.int .u8 x))
    (hx : (x = 34 ∧ r = 34) ∨ (x = 47 ∧ r = 47) ∨ (x = 92 ∧ r = 92) ∨ (x = 98 ∧ r = 8) ∨ (x = 102 ∧ r = 12) ∨ (x = 110 ∧ r = 10) ∨ (x = 114 ∧ r = 13) ∨ (x = 116 ∧ r = 9)) :
    Calls Tryd.prog 14 #[.slice (some ⟨b, off, none⟩) n c] w fun e w' => e = .returned (.tuple #[.int .i32 r, .int .i64 1]) ∧ w = w' := by
  have b0 : ((n : Int) == 0) = false := beq_eq_false_iff_ne.2 (by omega)
  rcases hx with ⟨rfl, rfl⟩ | ⟨rfl, rfl⟩ | ⟨rfl, rfl⟩ | ⟨rfl, rfl⟩ | ⟨rfl, rfl⟩ | ⟨rfl, rfl⟩ | ⟨rfl, rfl⟩ | ⟨rfl, rfl⟩
  all_goals
    go_enter Tryd.func14, Tryd.ntmps14
    go_wp2
    go_ret2
    exact ⟨rfl, rfl⟩
theorem Escape_other (b off n c : Nat) (x r m : Int) (w : World) (hn : 0 < n) (hm : n ≤ 140737488351232) (hc0 : w.cell? ⟨b, off, none⟩ = some (.int .u8 x))
    (hx : ¬ x = 34 ∧ ¬ x = 47 ∧ ¬ x = 92 ∧ ¬ x = 98 ∧ ¬ x = 102 ∧ ¬ x = 110 ∧ ¬ x = 114 ∧ ¬ x = 116)
    (H : Calls Tryd.prog 30 #[.slice (some ⟨b, off, none⟩) n c] w fun e w' => e = .returned (.tuple #[.int .i32 r, .int .i64 m]) ∧ w = w') :
    Calls Tryd.prog 14 #[.slice (some ⟨b, off, none⟩) n c] w fun e w' => e = .returned (.tuple #[.int .i32 r, .int .i64 m]) ∧ w = w' := by
  have HH := Lib.hid H
  have b0 : ((n : Int) == 0) = false := beq_eq_false_iff_ne.2 (by omega)
  obtain ⟨k1, k2, k3, k4, k5, k6, k7, k8⟩ := hx
  have b1 : (x == 34) = false := beq_eq_false_iff_ne.2 k1
  have b2 : (x == 47) = false := beq_eq_false_iff_ne.2 k2
  have b3 : (x == 92) = false := beq_eq_false_iff_ne.2 k3
  have b4 : (x == 98) = false := beq_eq_false_iff_ne.2 k4
  have b5 : (x == 102) = false := beq_eq_false_iff_ne.2 k5
  have b6 : (x == 110) = false := beq_eq_false_iff_ne.2 k6
  have b7 : (x == 114) = false := beq_eq_false_iff_ne.2 k7
  have b8 : (x == 116) = false := beq_eq_false_iff_ne.2 k8
  clear H k1 k2 k3 k4 k5 k6 k7 k8
  go_enter Tryd.func14, Tryd.ntmps14
  go_wp2_with (go_at_call 30; refine HH.out.mono ?_; rintro e w' ⟨rfl, rfl⟩)
  go_ret2
  exact ⟨rfl, rfl⟩

theorem esc_lit {l : List Int} {r : Int} (hl : l.length ≠ 0) (hx : (gl l 0 = 34 ∧ r = 34) ∨ (gl l 0 = 47 ∧ r = 47) ∨ (gl l 0 = 92 ∧ r = 92) ∨ (gl l 0 = 98 ∧ r = 8) ∨ (gl l 0 = 102 ∧ r = 12) ∨ (gl l 0 = 110 ∧ r = 10) ∨ (gl l 0 = 114 ∧ r = 13) ∨ (gl l 0 = 116 ∧ r = 9)) : esc l = (r, 1) := by
  unfold esc
  rw [if_neg hl]
  rcases hx with ⟨h, rfl⟩ | ⟨h, rfl⟩ | ⟨h, rfl⟩ | ⟨h, rfl⟩ | ⟨h, rfl⟩ | ⟨h, rfl⟩ | ⟨h, rfl⟩ | ⟨h, rfl⟩ <;> rw [h] <;> rfl
theorem esc_other {l : List Int} (hl : l.length ≠ 0) (hx : ¬ gl l 0 = 34 ∧ ¬ gl l 0 = 47 ∧ ¬ gl l 0 = 92 ∧ ¬ gl l 0 = 98 ∧ ¬ gl l 0 = 102 ∧ ¬ gl l 0 = 110 ∧ ¬ gl l 0 = 114 ∧ ¬ gl l 0 = 116) : esc l = escn l := by
  obtain ⟨k1, k2, k3, k4, k5, k6, k7, k8⟩ := hx
  unfold esc
  rw [if_neg hl, if_neg (by omega), if_neg k4, if_neg k5, if_neg k6, if_neg k7, if_neg k8]

theorem Escape_any (v : Value) (l : List Int) (w : World) (hO : Oct l) (hm : l.length ≤ 140737488351232) (hv : Bs w v l) :
    Calls Tryd.prog 14 #[v] w fun e w' => e = .returned (.tuple #[.int .i32 (esc l).1, .int .i64 (esc l).2]) ∧ w = w' := by
  have hv' := hv
  rcases hv with ⟨p, c, rfl, rfl⟩ | ⟨b, off, cap, rfl, h0, hc, hlt, hcell⟩
  · exact Escape_none p c w
  have hc0 := hcell 0 h0
  rw [Nat.add_zero] at hc0
  by_cases hx : gl l 0 = 34 ∨ gl l 0 = 47 ∨ gl l 0 = 92 ∨ gl l 0 = 98 ∨ gl l 0 = 102 ∨ gl l 0 = 110 ∨ gl l 0 = 114 ∨ gl l 0 = 116
  · obtain ⟨r, hr⟩ : ∃ r : Int, (gl l 0 = 34 ∧ r = 34) ∨ (gl l 0 = 47 ∧ r = 47) ∨ (gl l 0 = 92 ∧ r = 92) ∨ (gl l 0 = 98 ∧ r = 8) ∨ (gl l 0 = 102 ∧ r = 12) ∨ (gl l 0 = 110 ∧ r = 10) ∨ (gl l 0 = 114 ∧ r = 13) ∨ (gl l 0 = 116 ∧ r = 9) := by
      rcases hx with h | h | h | h | h | h | h | h
      · exact ⟨34, by simp [h]⟩
      · exact ⟨47, by simp [h]⟩
      · exact ⟨92, by simp [h]⟩
      · exact ⟨8, by simp [h]⟩
      · exact ⟨12, by simp [h]⟩
      · exact ⟨10, by simp [h]⟩
      · exact ⟨13, by simp [h]⟩
      · exact ⟨9, by simp [h]⟩
    rw [esc_lit (r := r) (by omega) hr]
    exact Escape_lit b off l.length cap (gl l 0) r w h0 hm hc0 hr
  · have hx' : ¬ gl l 0 = 34 ∧ ¬ gl l 0 = 47 ∧ ¬ gl l 0 = 92 ∧ ¬ gl l 0 = 98 ∧ ¬ gl l 0 = 102 ∧ ¬ gl l 0 = 110 ∧ ¬ gl l 0 = 114 ∧ ¬ gl l 0 = 116 := by omega
    rw [esc_other (by omega) hx']
    exact Escape_other b off l.length cap (gl l 0) _ _ w h0 hm hc0 hx' (escapeNumber_any b off l.length cap l w hO rfl h0 hm hv')
end Go.Proofs.YtbajejhhmacflaaDoor.utf
