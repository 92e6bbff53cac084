/- The document's answer: four digits of sixteen. -/
import Derived.Test.YtbajejhhmacflaaDoorUtfQM
import Derived.Deep.QuietTactic
import Derived.BigQuiet
namespace Go.Proofs.YtbajejhhmacflaaDoor.utf
open Go.PlainAid Go.ChangeShapes Go.WideShapes Go.ChangeAt Go.RowKit

theorem hex_low (k : Nat) (h : k < 16) : ((((⟨#[48, 49, 50, 51, 52, 53, 54, 55, 56, 57, 97, 98, 99, 100, 101, 102]⟩ : ByteArray)[k]'h).toNat : Nat) : Int) = hx false k := hex_at (k : Int) (by omega) (by omega) h
theorem hex_upp (n : Nat) (hn : n < 16) : ((((⟨#[48, 49, 50, 51, 52, 53, 54, 55, 56, 57, 65, 66, 67, 68, 69, 70]⟩ : ByteArray)[n]'hn).toNat : Nat) : Int) = hx true n := by
  match n, hn with
  | 0, _ => rfl
  | 1, _ => rfl
  | 2, _ => rfl
  | 3, _ => rfl
  | 4, _ => rfl
  | 5, _ => rfl
  | 6, _ => rfl
  | 7, _ => rfl
  | 8, _ => rfl
  | 9, _ => rfl
  | 10, _ => rfl
  | 11, _ => rfl
  | 12, _ => rfl
  | 13, _ => rfl
  | 14, _ => rfl
  | 15, _ => rfl
  | k + 16, h => omega
theorem hexv_is (x : Int) (k : Nat) (h : k < 16) : (x = hx false k ∨ x = hx true k) ↔ hexv x = k := by
  constructor
  · rintro (rfl | rfl)
    · exact hexv_hx false k (by omega) (by omega)
    · exact hexv_hx true k (by omega) (by omega)
  · intro e
    unfold hexv at e
    unfold hx
    split at e
    · left; rw [if_pos (by omega)]; omega
    split at e
    · left; rw [if_neg (by omega), if_neg (by decide)]; omega
    split at e
    · right; rw [if_neg (by omega), if_pos rfl]; omega
    · omega
/-- The digit found among the first k. -/
def df (x : Int) : Nat → Int
  | 0 => -1
  | k + 1 => if x = hx false k ∨ x = hx true k then k else df x k
theorem df_is (x : Int) : ∀ k : Nat, k ≤ 16 → df x k = if hexv x < k then hexv x else -1
  | 0, _ => by
    have := hexv_range x
    show (-1 : Int) = _
    split <;> omega
  | k + 1, h => by
    have ih := df_is x k (by omega)
    have he := hexv_is x k (by omega)
    show (if x = hx false k ∨ x = hx true k then (k : Int) else df x k) = _
    by_cases hk : hexv x = k
    · rw [if_pos (he.2 hk), if_pos (by omega), hk]
    · rw [if_neg (fun e => hk (he.1 e)), ih]
      by_cases h1 : hexv x < k
      · rw [if_pos h1, if_pos (by omega)]
      · rw [if_neg h1, if_neg (by omega)]
theorem df_all (x : Int) : df x 16 = hexv x := by
  have := hexv_range x
  rw [df_is x 16 (Nat.le_refl _), if_pos (by omega)]

/-- The first k digits' number. -/
def rh (l : List Int) : Nat → Option Int
  | 0 => some 0
  | k + 1 => (rh l k).bind fun r => if hexv (gl l k) < 0 then none else some (r * 16 + hexv (gl l k))
theorem rh_hxk (l : List Int) : ∀ k, hxk l k = rh (l.drop 1) k
  | 0 => rfl
  | k + 1 => by
    show (hxk l k).bind _ = (rh (l.drop 1) k).bind _
    rw [rh_hxk l k, gl_drop, Nat.add_comm 1 k]
theorem rh_none {l : List Int} {k : Nat} (h : rh l k = none) : ∀ j, rh l (k + j) = none
  | 0 => h
  | j + 1 => by
    show (rh l (k + j)).bind _ = none
    rw [rh_none h j]
    rfl
def rhex (l : List Int) : Int := if l.length < 4 then -1 else (rh l 4).getD (-1)

theorem Rhex_short (p : Option Addr) (n c : Nat) (w : World) (hn : n < 4) :
    Calls Tryd.prog 31 #[.slice p n c] w fun e w' => e = .returned (.int .i64 (-1)) ∧ w = w' := by
  have d0 : decide ((n : Int) < 4) = true := decide_eq_true (by omega)
  go_enter Tryd.func31, Tryd.ntmps31
  go_wp2
  go_ret
  exact ⟨rfl, rfl⟩

set_option maxHeartbeats 2000000 in
set_option maxRecDepth 20000 in
theorem Rhex_some (b off n c : Nat) (l : List Int) (w : World) (hO : Oct l) (hn : 4 ≤ n) (hl : l.length = n) (hm : n ≤ 140737488351232) (hlt : b < w.heap.size)
    (hcell : ∀ i, i < n → w.cell? ⟨b, off + i, none⟩ = some (.int .u8 (gl l i))) :
    Calls Tryd.prog 31 #[.slice (some ⟨b, off, none⟩) n c] w fun e w' => e = .returned (.int .i64 (rhex l)) ∧ Below w.heap.size w w' := by
  have HC := Lib.hid hcell
  obtain ⟨z, hz⟩ : ∃ z, z = rhex l := ⟨_, rfl⟩
  have HZ : Hid (z = (rh l 4).getD (-1)) := by rw [hz]; unfold rhex; rw [if_neg (by omega)]; trivial
  rw [← hz]
  have d0 : decide ((n : Int) < 4) = false := decide_eq_false (by omega)
  clear hcell hz hl
  go_enter Tryd.func31, Tryd.ntmps31
  go_wp2
  try simp only [d0]
  go_loopw [3, 4] (fun v i wr => ∃ (k : Nat) (y : Int), v = .int .i64 y ∧ i = .int .i64 k ∧ k ≤ 4 ∧ 0 ≤ y ∧ y < 65536 ∧ Hid (y < 16 ^ k) ∧ Hid (rh l k = some y) ∧ Below w.heap.size w wr) (fun _ i _ => 4 - (intOf i).toNat)
  case atStart => exact ⟨0, 0, rfl, rfl, by omega, by omega, by omega, by show (0 : Int) < 1; omega, rfl, Below.refl _ _⟩
  case round =>
    obtain ⟨i, y, rfl, rfl, hi, hy0, hy1, HY, HR, hb⟩ := hrel
    by_cases hi4 : i < 4
    · have di : decide ((i : Int) < 4) = true := decide_eq_true (by omega)
      have HCx := Lib.hid (HC.out i (by omega))
      have hgx := hO.gl i
      have HN : Hid (rh l (i + 1) = if hexv (gl l i) < 0 then none else some (y * 16 + hexv (gl l i))) := by
        show (rh l i).bind _ = _
        rw [HR.out]
        rfl
      generalize gl l i = x at HCx hgx HN
      obtain ⟨hx0, hx1⟩ := hgx
      go_wp2
      go_loopw [5, 6] (fun d j wq => ∃ (k : Nat), d = .int .i64 (df x k) ∧ j = .int .i64 k ∧ k ≤ 16 ∧ Below w.heap.size w wq) (fun _ j _ => 16 - (intOf j).toNat)
      case atStart => exact ⟨0, rfl, rfl, by omega, hb⟩
      case round =>
        clear hb
        obtain ⟨k, rfl, rfl, hk, hb⟩ := hrel
        by_cases hk16 : k < 16
        · have dk : decide ((k : Int) < 16) = true := decide_eq_true (by omega)
          have hcx := (hb.cell (p := ⟨b, off + i, none⟩) hlt).trans HCx.out
          have t1 := hex_low k hk16
          have t2 := hex_upp k hk16
          have hdf : df x (k + 1) = if x = hx false k ∨ x = hx true k then (k : Int) else df x k := rfl
          have HD := Lib.hid hdf
          generalize hx false k = y1 at t1 HD
          generalize hx true k = y2 at t2 HD
          clear hdf
          by_cases e1 : x = y1
          · have f1 : (x == y1) = true := by simp [e1]
            have hd2 : Hid (df x (k + 1) = k) := by have := HD.out; rw [if_pos (.inl e1)] at this; exact this
            clear HD e1
            go_wp2
            go_quiet (fail)
            go_wp2
            constructor
            · exact ⟨k + 1, congrArg (Value.int .i64) hd2.out.symm, by go_num, by omega, below_drewN hb _⟩
            · show 16 - ((k : Int) + 1).toNat < 16 - (k : Int).toNat
              omega
          · have f1 : (x == y1) = false := beq_eq_false_iff_ne.2 e1
            by_cases e2 : x = y2
            · have f2 : (x == y2) = true := by simp [e2]
              have hd2 : Hid (df x (k + 1) = k) := by have := HD.out; rw [if_pos (.inr e2)] at this; exact this
              clear HD e1 e2
              go_wp2
              go_quiet (fail)
              go_wp2
              constructor
              · exact ⟨k + 1, congrArg (Value.int .i64) hd2.out.symm, by go_num, by omega, below_drewN hb _⟩
              · show 16 - ((k : Int) + 1).toNat < 16 - (k : Int).toNat
                omega
            · have f2 : (x == y2) = false := beq_eq_false_iff_ne.2 e2
              have hd2 : Hid (df x (k + 1) = df x k) := by have := HD.out; rw [if_neg (by simp [e1, e2])] at this; exact this
              clear HD e1 e2
              go_wp2
              go_quiet (fail)
              go_wp2
              constructor
              · exact ⟨k + 1, congrArg (Value.int .i64) hd2.out.symm, by go_num, by omega, below_drewN hb _⟩
              · show 16 - ((k : Int) + 1).toNat < 16 - (k : Int).toNat
                omega
        · have dk : decide ((k : Int) < 16) = false := decide_eq_false (by omega)
          have hv : df x k = hexv x := by rw [show k = 16 by omega]; exact df_all x
          have hr := hexv_range x
          have hy4 : y < 4096 := by
            have := HY.out
            rcases (show i = 0 ∨ i = 1 ∨ i = 2 ∨ i = 3 by omega) with rfl | rfl | rfl | rfl <;> simp at this <;> omega
          rw [hv]
          clear hv
          generalize hexv x = h at hr HN
          obtain ⟨hr0, hr1⟩ := hr
          by_cases hh : h < 0
          · have hz : Hid (z = -1) := by
              have h1 := HN.out
              rw [if_pos hh] at h1
              have := rh_none h1 (3 - i)
              rw [show i + 1 + (3 - i) = 4 by omega] at this
              have h2 := HZ.out
              rw [this] at h2
              exact h2
            have dh : decide (h < 0) = true := decide_eq_true hh
            clear HN HZ HR HY
            go_wp2
            go_ret
            exact ⟨ret_int hz.out.symm, hb⟩
          · have dh : decide (h < 0) = false := decide_eq_false hh
            have HR2 : Hid (rh l (i + 1) = some (y * 16 + h)) := by
              have h1 := HN.out
              rw [if_neg hh] at h1
              exact h1
            have HY2 : Hid (y * 16 + h < 16 ^ (i + 1)) := by
              have := HY.out
              show y * 16 + h < 16 ^ (i + 1)
              rw [Int.pow_succ]
              omega
            clear HN HR HY
            go_wp2
            constructor
            · exact ⟨i + 1, y * 16 + h, rfl, by go_num, by omega, by omega, by omega, HY2, HR2, hb⟩
            · show 4 - ((i : Int) + 1).toNat < 4 - (i : Int).toNat
              omega
    · have di : decide ((i : Int) < 4) = false := decide_eq_false (by omega)
      have hz : Hid (z = y) := by
        have h1 := HR.out
        rw [show i = 4 by omega] at h1
        have h2 := HZ.out
        rw [h1] at h2
        exact h2
      clear HZ HR HY
      go_wp2
      go_ret
      exact ⟨ret_int hz.out.symm, hb⟩
theorem Rhex_any (v : Value) (l : List Int) (w : World) (hO : Oct l) (hm : l.length ≤ 140737488351232) (hv : Bs w v l) :
    Calls Tryd.prog 31 #[v] w fun e w' => e = .returned (.int .i64 (rhex l)) ∧ Below w.heap.size w w' := by
  by_cases hn : l.length < 4
  · have e : rhex l = -1 := if_pos hn
    rw [e]
    obtain ⟨p, c, rfl⟩ : ∃ p c, v = .slice p l.length c := by
      rcases hv with ⟨p, c, rfl, rfl⟩ | ⟨b, off, cap, rfl, _⟩
      · exact ⟨p, c, rfl⟩
      · exact ⟨_, _, rfl⟩
    refine (Rhex_short p l.length c w hn).mono ?_
    rintro e w' ⟨rfl, rfl⟩
    exact ⟨rfl, Below.refl _ _⟩
  · rcases hv with ⟨p, c, rfl, rfl⟩ | ⟨b, off, cap, rfl, h0, hc, hlt, hcell⟩
    · exact absurd (show [].length < 4 by decide) hn
    · exact Rhex_some b off l.length cap l w hO (by omega) rfl hm hlt hcell
end Go.Proofs.YtbajejhhmacflaaDoor.utf
