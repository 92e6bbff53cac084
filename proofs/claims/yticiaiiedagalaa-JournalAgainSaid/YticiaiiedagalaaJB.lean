/- The contracts of a piece's small functions. -/
import Derived.Test.YticiaiiedagalaaJA
import Derived.Laws.BitsLemmas
namespace Go.Proofs.Yticiaiiedagalaa.dk
open Go.PlainAid Go.ChangeShapes Go.WideShapes Go.ChangeAt Go.RowKit

theorem Rd.cell {W : World} {b off n : Nat} {l : List Int} (h : Rd W (some ⟨b, off, none⟩) n l) (i : Nat) (hi : i < n) : W.cell? ⟨b, off + i, none⟩ = some (.int .u8 (l.getD i 0)) := by
  obtain ⟨b', off', e, _, hc⟩ := h.2 (by omega)
  obtain ⟨rfl, rfl⟩ : b = b' ∧ off = off' := by injection e with e; injection e with e1 e2; exact ⟨e1, e2⟩
  exact hc i hi
theorem Rd.form {W : World} {p : Option Addr} {n : Nat} {l : List Int} (h : Rd W p n l) (h0 : 0 < n) : ∃ b off, p = some ⟨b, off, none⟩ ∧ b < W.heap.size := by
  obtain ⟨b, off, e, hl, _⟩ := h.2 h0
  exact ⟨b, off, e, hl⟩
theorem Rd.cut {W : World} {b off n : Nat} {l : List Int} (h : Rd W (some ⟨b, off, none⟩) n l) (i k : Nat) (hk : i + k ≤ n) : Rd W (some ⟨b, off + i, none⟩) k ((l.drop i).take k) := by
  refine ⟨by rw [List.length_take, List.length_drop, h.1]; omega, fun h0 => ?_⟩
  obtain ⟨b', off', e, hlt, hc⟩ := h.2 (by omega)
  obtain ⟨rfl, rfl⟩ : b = b' ∧ off = off' := by injection e with e; injection e with e1 e2; exact ⟨e1, e2⟩
  refine ⟨b, off + i, rfl, hlt, fun x hx => ?_⟩
  rw [Nat.add_assoc, hc (i + x) (by omega)]
  congr 2
  rw [List.getD_eq_getElem?_getD, List.getD_eq_getElem?_getD, List.getElem?_take, if_pos hx, List.getElem?_drop]
theorem or256 (x y : Int) (h2 : 0 ≤ y) (h3 : y ≤ 255) : bits .or .u32 (x * 256 % 4294967296) y = (x * 256 + y) % 4294967296 := by
  rw [bits_join .u32 32 (by decide) (fun m a b => by rw [IntKind.wrap_u32]; omega) 8 (x * 256 % 4294967296) y (by omega) (by omega) (by omega) h2 (by omega) (by omega)]
  omega
set_option maxHeartbeats 1000000 in
theorem high_any (w : World) (p : Option Addr) (n c : Nat) (l : List Int) (h : Rd w p n l) (hb : Bys l) (hn : n ≤ 1000) :
    Calls Try.prog 52 #[.slice p n c] w fun e w' => e = .returned (.int .u32 (hi l)) ∧ w = w' := by
  have HR := Lib.hid h
  have hl := h.1
  have HBy := Lib.hid hb
  clear h hb
  go_enter Try.func52, Try.ntmps52
  go_wp2
  go_loop [3, 8] (fun v i => ∃ k : Nat, k ≤ n ∧ i = .int .i64 (k : Int) ∧ v = .int .u32 (hi (l.take k))) (fun _ i => n - (intOf i).toNat)
  case atStart => exact ⟨0, Nat.zero_le _, rfl, rfl⟩
  case round =>
    obtain ⟨k, hk, rfl, rfl⟩ := hrel
    by_cases hkn : k < n
    · obtain ⟨b, off, rfl, _⟩ := HR.out.form (by omega)
      have hc := HR.out.cell k hkn
      have hx : 0 ≤ l.getD k 0 ∧ l.getD k 0 ≤ 255 := by
        rw [List.getD_eq_getElem?_getD, List.getElem?_eq_getElem (by omega)]
        exact HBy.out _ (List.getElem_mem _)
      have hs : Hid (hi (l.take (k + 1)) = (hi (l.take k) * 256 + l.getD k 0) % 4294967296) := by
        show hi (l.take (k + 1)) = _
        rw [List.take_succ_eq_append_getElem (by omega), hi_snoc, List.getD_eq_getElem?_getD, List.getElem?_eq_getElem (by omega)]
        rfl
      have hh := hi_bd (l.take k)
      generalize l.getD k 0 = y at hc hx hs
      generalize hi (l.take k) = x at hs hh ⊢
      have dk : decide ((k : Int) < n) = true := decide_eq_true (by omega)
      go_wp2
      constructor
      · exact ⟨k + 1, by omega, by go_num, by rw [hs.out, or256 x y hx.1 hx.2]⟩
      · show n - ((k : Int) + 1).toNat < n - (k : Int).toNat
        omega
    · have dk : decide ((k : Int) < n) = false := decide_eq_false (by omega)
      have e : Hid (l.take k = l) := List.take_of_length_le (by omega)
      go_wp2
      go_ret
      exact ⟨by rw [e.out]; rfl, rfl⟩
theorem session_any (w : World) (g : Nat) (l : List Int) (h : Rd w (some ⟨g, 0, none⟩) 64 l) (hb : Bys l) :
    Calls Try.prog 39 #[.slice (some ⟨g, 0, none⟩) 64 64] w fun e w' => e = .returned (.int .u32 (fS l)) ∧ w = w' := by
  have HH := Lib.hid (high_any w (some ⟨g, 2, none⟩) 4 62 ((l.drop 2).take 4) (by have := h.cut 2 4 (by omega); rw [Nat.zero_add] at this; exact this) ((hb.drop 2).take 4) (by omega))
  clear h hb
  go_enter Try.func39, Try.ntmps39
  go_wp2_with fail
  with_reducible refine HH.out.mono ?_
  rintro e w' ⟨rfl, rfl⟩
  go_wp2
  go_ret
  exact ⟨rfl, rfl⟩
theorem number_any (w : World) (g : Nat) (l : List Int) (h : Rd w (some ⟨g, 0, none⟩) 64 l) (hb : Bys l) :
    Calls Try.prog 53 #[.slice (some ⟨g, 0, none⟩) 64 64] w fun e w' => e = .returned (.int .u32 (fN l)) ∧ w = w' := by
  have HH := Lib.hid (high_any w (some ⟨g, 6, none⟩) 4 58 ((l.drop 6).take 4) (by have := h.cut 6 4 (by omega); rw [Nat.zero_add] at this; exact this) ((hb.drop 6).take 4) (by omega))
  clear h hb
  go_enter Try.func53, Try.ntmps53
  go_wp2_with fail
  with_reducible refine HH.out.mono ?_
  rintro e w' ⟨rfl, rfl⟩
  go_wp2
  go_ret
  exact ⟨rfl, rfl⟩
theorem place_any (w : World) (g : Nat) (l : List Int) (h : Rd w (some ⟨g, 0, none⟩) 64 l) (hb : Bys l) :
    Calls Try.prog 59 #[.slice (some ⟨g, 0, none⟩) 64 64] w fun e w' => e = .returned (.int .u32 (fP l)) ∧ w = w' := by
  have HH := Lib.hid (high_any w (some ⟨g, 10, none⟩) 2 54 ((l.drop 10).take 2) (by have := h.cut 10 2 (by omega); rw [Nat.zero_add] at this; exact this) ((hb.drop 10).take 2) (by omega))
  clear h hb
  go_enter Try.func59, Try.ntmps59
  go_wp2_with fail
  with_reducible refine HH.out.mono ?_
  rintro e w' ⟨rfl, rfl⟩
  go_wp2
  go_ret
  exact ⟨rfl, rfl⟩
theorem count_any (w : World) (g : Nat) (l : List Int) (h : Rd w (some ⟨g, 0, none⟩) 64 l) (hb : Bys l) :
    Calls Try.prog 58 #[.slice (some ⟨g, 0, none⟩) 64 64] w fun e w' => e = .returned (.int .u32 (fC l)) ∧ w = w' := by
  have HH := Lib.hid (high_any w (some ⟨g, 12, none⟩) 2 52 ((l.drop 12).take 2) (by have := h.cut 12 2 (by omega); rw [Nat.zero_add] at this; exact this) ((hb.drop 12).take 2) (by omega))
  clear h hb
  go_enter Try.func58, Try.ntmps58
  go_wp2_with fail
  with_reducible refine HH.out.mono ?_
  rintro e w' ⟨rfl, rfl⟩
  go_wp2
  go_ret
  exact ⟨rfl, rfl⟩
theorem size_any (w : World) (g : Nat) (l : List Int) (h : Rd w (some ⟨g, 0, none⟩) 64 l) (hb : Bys l) :
    Calls Try.prog 60 #[.slice (some ⟨g, 0, none⟩) 64 64] w fun e w' => e = .returned (.int .i64 (fZ l)) ∧ w = w' := by
  have hc := h.cell 14 (by omega)
  rw [Nat.zero_add] at hc
  have hx : 0 ≤ l.getD 14 0 ∧ l.getD 14 0 ≤ 255 := by
    rw [List.getD_eq_getElem?_getD, List.getElem?_eq_getElem (by rw [h.1]; omega)]
    exact hb _ (List.getElem_mem _)
  clear h hb
  unfold fZ
  generalize l.getD 14 0 = z at hc hx ⊢
  go_enter Try.func60, Try.ntmps60
  go_wp2
  go_ret
  exact ⟨by go_num, rfl⟩
theorem bytes_any (w : World) (g : Nat) (l : List Int) (h : Rd w (some ⟨g, 0, none⟩) 64 l) (hb : Bys l) (hz : isP l = true) :
    Calls Try.prog 61 #[.slice (some ⟨g, 0, none⟩) 64 64] w fun e w' => e = .returned (.slice (some ⟨g, 16, none⟩) (fB l).length 48) ∧ w = w' := by
  have HZ := size_any w g l h hb
  have hz1 : fZ l ≤ 48 := by
    unfold isP at hz
    simp only [Bool.and_eq_true, decide_eq_true_eq] at hz
    exact hz.2
  have hz0 : 0 ≤ fZ l := by
    unfold fZ
    rw [List.getD_eq_getElem?_getD, List.getElem?_eq_getElem (by rw [h.1]; omega)]
    exact (hb _ (List.getElem_mem _)).1
  have hlen : (fB l).length = (fZ l).toNat := by unfold fB; rw [List.length_take, List.length_drop, h.1]; omega
  rw [hlen]
  obtain ⟨z, hzz⟩ := Int.eq_ofNat_of_zero_le hz0
  rw [hzz] at HZ hz1 ⊢
  have HH := Lib.hid HZ
  clear HZ h hb hz hz0 hlen hzz
  rw [show ((z : Int)).toNat = z from rfl]
  go_enter Try.func61, Try.ntmps61
  go_wp2_with fail
  with_reducible refine HH.out.mono ?_
  rintro e w' ⟨rfl, rfl⟩
  go_wp2
  go_ret
  refine ⟨?_, rfl⟩
  show Ending.returned (Value.slice _ (16 + z - 16) 48) = _
  rw [show 16 + z - 16 = z by omega]
theorem isP_any (w : World) (p : Option Addr) (n c : Nat) (l : List Int) (h : Rd w p n l) (hn : n ≤ 1000) :
    Calls Try.prog 51 #[.slice p n c] w fun e w' => e = .returned (.bool (isP l)) ∧ w = w' := by
  have hl := h.1
  by_cases h64 : n = 64
  · subst h64
    obtain ⟨b, off, rfl, _⟩ := h.form (by omega)
    have c0 := h.cell 0 (by omega)
    have c1 := h.cell 1 (by omega)
    have c2 := h.cell 14 (by omega)
    rw [Nat.add_zero] at c0
    have e : Hid (isP l = ((decide (l.getD 0 0 = 165) && decide (l.getD 1 0 = 90)) && decide (l.getD 14 0 ≤ 48))) := by
      show isP l = _
      unfold isP; rw [hl]; simp
    generalize l.getD 0 0 = x0 at c0 e
    generalize l.getD 1 0 = x1 at c1 e
    generalize l.getD 14 0 = x2 at c2 e
    rw [e.out]
    clear e h hl
    by_cases e0 : x0 = 165
    · subst e0
      by_cases e1 : x1 = 90
      · subst e1
        by_cases e2 : x2 ≤ 48
        · have d : decide (x2 ≤ 48) = true := decide_eq_true e2
          go_enter Try.func51, Try.ntmps51
          go_wp2
          go_ret
          exact ⟨by simp [e2], rfl⟩
        · have d : decide (x2 ≤ 48) = false := decide_eq_false e2
          go_enter Try.func51, Try.ntmps51
          go_wp2
          go_ret
          exact ⟨by simp, rfl⟩
      · have d : (x1 == 90) = false := beq_eq_false_iff_ne.2 e1
        go_enter Try.func51, Try.ntmps51
        go_wp2
        go_ret
        exact ⟨by simp [e1], rfl⟩
    · have d : (x0 == 165) = false := beq_eq_false_iff_ne.2 e0
      go_enter Try.func51, Try.ntmps51
      go_wp2
      go_ret
      exact ⟨by simp [e0], rfl⟩
  · have e : isP l = false := by unfold isP; rw [hl]; simp [h64]
    rw [e]
    have d : ((n : Int) == 64) = false := beq_eq_false_iff_ne.2 (by omega)
    clear e h hl
    go_enter Try.func51, Try.ntmps51
    go_wp2
    go_ret
    exact ⟨rfl, rfl⟩
/-- How many pieces so many bytes are. -/
def need (x : Int) : Int := if x ≤ 0 then 1 else (x - 1) / 48 + 1
theorem Need_any (w : World) (x : Int) (h1 : x ≤ 9223372036854775807) :
    Calls Try.prog 32 #[.int .i64 x] w fun e w' => e = .returned (.int .i64 (need x)) ∧ w = w' := by
  by_cases h : x ≤ 0
  · have d : decide (x ≤ 0) = true := decide_eq_true h
    have e : Hid (need x = 1) := by show need x = 1; unfold need; rw [if_pos h]
    go_enter Try.func32, Try.ntmps32
    go_wp2
    go_ret
    exact ⟨by rw [e.out]; rfl, rfl⟩
  · have d : decide (x ≤ 0) = false := decide_eq_false h
    have e : Hid (need x = (x - 1) / 48 + 1) := by show need x = _; unfold need; rw [if_neg h]
    go_enter Try.func32, Try.ntmps32
    go_wp2
    go_ret
    exact ⟨by rw [e.out]; rfl, rfl⟩
end Go.Proofs.Yticiaiiedagalaa.dk
