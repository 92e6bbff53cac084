/- The contracts of a disk's small functions. -/
import Derived.Test.YticiaiiedagalaaDA
namespace Go.Proofs.Yticiaiiedagalaa.dk
open Go.PlainAid Go.ChangeShapes Go.WideShapes Go.ChangeAt Go.RowKit

theorem DiskAt.slice {B D L N : Nat} {P : Value} {m : Dk} {W : World} (h : DiskAt B D L N P m W) : ∃ p c, P = .slice p m.pend.length c := by
  rcases h.hP.2 with ⟨hv, h0⟩ | ⟨g, cap, cur, hv, _⟩
  · exact ⟨none, 0, by rw [hv, h0]⟩
  · exact ⟨some ⟨g, 0, none⟩, cap, hv⟩
theorem made_any {B D L N : Nat} {P : Value} {m : Dk} {w : World} (h : DiskAt B D L N P m w) :
    Calls Try.prog 44 #[.pointer (some ⟨D, 0, none⟩)] w fun e w' => e = .returned (.bool true) ∧ w = w' := by
  have k0 := h.cell 0
  have k1 := h.cell 1
  have k2 := h.cell 2
  have k3 := h.cell 3
  have k4 := h.cell 4
  have k5 := h.cell 5
  have f3 := h.frozen 3
  have f4 := h.frozen 4
  have f5 := h.frozen 5
  simp only [dcells] at k0 k1 k2 k3 k4 k5
  simp at k0 k1 k2 k3 k4 k5
  go_enter Try.func44, Try.ntmps44
  go_wp2
  go_ret
  exact ⟨rfl, rfl⟩
theorem made_nil (w : World) :
    Calls Try.prog 44 #[.pointer none] w fun e w' => e = .returned (.bool false) ∧ w = w' := by
  go_enter Try.func44, Try.ntmps44
  go_wp2
  go_ret
  exact ⟨rfl, rfl⟩
theorem Dead_any {B D L N : Nat} {P : Value} {m : Dk} {w : World} (h : DiskAt B D L N P m w) :
    Calls Try.prog 34 #[.pointer (some ⟨D, 0, none⟩)] w fun e w' => e = .returned (.bool m.dead) ∧ w = w' := by
  have k0 := h.cell 0
  have k1 := h.cell 1
  have k2 := h.cell 2
  have k3 := h.cell 3
  have k4 := h.cell 4
  have k5 := h.cell 5
  have f3 := h.frozen 3
  have f4 := h.frozen 4
  have f5 := h.frozen 5
  simp only [dcells] at k0 k1 k2 k3 k4 k5
  simp at k0 k1 k2 k3 k4 k5
  go_enter Try.func34, Try.ntmps34
  go_wp2_with (go_at_call 44; with_reducible refine (made_any h).mono ?_; rintro e w' ⟨rfl, rfl⟩)
  go_ret
  exact ⟨rfl, rfl⟩
theorem Dead_nil (w : World) :
    Calls Try.prog 34 #[.pointer none] w fun e w' => e = .returned (.bool true) ∧ w = w' := by
  go_enter Try.func34, Try.ntmps34
  go_wp2_with (go_at_call 44; with_reducible refine (made_nil _).mono ?_; rintro e w' ⟨rfl, rfl⟩)
  go_ret
  exact ⟨rfl, rfl⟩
theorem Size_any {B D L N : Nat} {P : Value} {m : Dk} {w : World} (h : DiskAt B D L N P m w) :
    Calls Try.prog 36 #[.pointer (some ⟨D, 0, none⟩)] w fun e w' => e = .returned (.int .i64 m.n) ∧ w = w' := by
  have k0 := h.cell 0
  have k1 := h.cell 1
  have k2 := h.cell 2
  have k3 := h.cell 3
  have k4 := h.cell 4
  have k5 := h.cell 5
  have f3 := h.frozen 3
  have f4 := h.frozen 4
  have f5 := h.frozen 5
  simp only [dcells] at k0 k1 k2 k3 k4 k5
  simp at k0 k1 k2 k3 k4 k5
  have hn1 := h.n1
  have hn2 := h.n2
  go_enter Try.func36, Try.ntmps36
  go_wp2_with (go_at_call 44; with_reducible refine (made_any h).mono ?_; rintro e w' ⟨rfl, rfl⟩)
  go_ret
  exact ⟨by go_num, rfl⟩
theorem Size_nil (w : World) :
    Calls Try.prog 36 #[.pointer none] w fun e w' => e = .returned (.int .i64 0) ∧ w = w' := by
  go_enter Try.func36, Try.ntmps36
  go_wp2_with (go_at_call 44; with_reducible refine (made_nil _).mono ?_; rintro e w' ⟨rfl, rfl⟩)
  go_ret
  exact ⟨rfl, rfl⟩
theorem Writes_any {B D L N : Nat} {P : Value} {m : Dk} {w : World} (h : DiskAt B D L N P m w) :
    Calls Try.prog 16 #[.pointer (some ⟨D, 0, none⟩)] w fun e w' => e = .returned (.int .i64 m.writes) ∧ w = w' := by
  have k0 := h.cell 0
  have k1 := h.cell 1
  have k2 := h.cell 2
  have k3 := h.cell 3
  have k4 := h.cell 4
  have k5 := h.cell 5
  have f3 := h.frozen 3
  have f4 := h.frozen 4
  have f5 := h.frozen 5
  simp only [dcells] at k0 k1 k2 k3 k4 k5
  simp at k0 k1 k2 k3 k4 k5
  go_enter Try.func16, Try.ntmps16
  go_wp2_with (go_at_call 44; with_reducible refine (made_any h).mono ?_; rintro e w' ⟨rfl, rfl⟩)
  go_ret
  exact ⟨rfl, rfl⟩
theorem Writes_nil (w : World) :
    Calls Try.prog 16 #[.pointer none] w fun e w' => e = .returned (.int .i64 0) ∧ w = w' := by
  go_enter Try.func16, Try.ntmps16
  go_wp2_with (go_at_call 44; with_reducible refine (made_nil _).mono ?_; rintro e w' ⟨rfl, rfl⟩)
  go_ret
  exact ⟨rfl, rfl⟩
theorem spend_dead {B D L N : Nat} {P : Value} {m : Dk} {w : World} (h : DiskAt B D L N P m w) (h0 : m.limit = 0) :
    Calls Try.prog 46 #[.pointer (some ⟨D, 0, none⟩)] w fun e w' => e = .returned (.bool false) ∧ DiskAt B D L N P { m with dead := true } w' ∧ Below B w w' ∧ Fr D w w' := by
  have T := h.turn (m' := { m with dead := true }) 4 (.bool true) rfl rfl rfl rfl rfl h.lim h.wr0 h.wr1 h.lim1
  have k0 := h.cell 0
  have k1 := h.cell 1
  have k2 := h.cell 2
  have k3 := h.cell 3
  have k4 := h.cell 4
  have k5 := h.cell 5
  have f3 := h.frozen 3
  have f4 := h.frozen 4
  have f5 := h.frozen 5
  simp only [dcells] at k0 k1 k2 k3 k4 k5
  simp at k0 k1 k2 k3 k4 k5
  rw [h0] at k3
  have TT := Lib.hid T
  clear T
  go_enter Try.func46, Try.ntmps46
  go_wp2
  go_ret
  exact ⟨rfl, TT.out⟩
theorem spend_free {B D L N : Nat} {P : Value} {m : Dk} {w : World} (h : DiskAt B D L N P m w) (h0 : m.limit < 0) (hw : m.writes < 1000000) :
    Calls Try.prog 46 #[.pointer (some ⟨D, 0, none⟩)] w fun e w' => e = .returned (.bool true) ∧ DiskAt B D L N P { m with writes := m.writes + 1 } w' ∧ Below B w w' ∧ Fr D w w' := by
  have w0 := h.wr0
  have T := h.turn (m' := { m with writes := m.writes + 1 }) 5 (.int .i64 (m.writes + 1)) rfl rfl rfl rfl rfl h.lim (show 0 ≤ m.writes + 1 by omega) (show m.writes + 1 ≤ 1000000 by omega) h.lim1
  have k0 := h.cell 0
  have k1 := h.cell 1
  have k2 := h.cell 2
  have k3 := h.cell 3
  have k4 := h.cell 4
  have k5 := h.cell 5
  have f3 := h.frozen 3
  have f4 := h.frozen 4
  have f5 := h.frozen 5
  simp only [dcells] at k0 k1 k2 k3 k4 k5
  simp at k0 k1 k2 k3 k4 k5
  have TT := Lib.hid T
  have hl := h.lim
  clear T
  have e0 : (m.limit == 0) = false := beq_eq_false_iff_ne.2 (by omega)
  have e1 : decide (0 < m.limit) = false := decide_eq_false (by omega)
  go_enter Try.func46, Try.ntmps46
  go_wp2
  go_ret
  exact ⟨rfl, TT.out⟩
theorem spend_some {B D L N : Nat} {P : Value} {m : Dk} {w : World} (h : DiskAt B D L N P m w) (h0 : 0 < m.limit) (hw : m.writes < 1000000) :
    Calls Try.prog 46 #[.pointer (some ⟨D, 0, none⟩)] w fun e w' => e = .returned (.bool true) ∧ DiskAt B D L N P { m with limit := m.limit - 1, writes := m.writes + 1 } w' ∧ Below B w w' ∧ Fr D w w' := by
  have w0 := h.wr0
  have hx1 := h.lim1
  obtain ⟨T1, T1b, T1c⟩ := h.turn (m' := { m with limit := m.limit - 1 }) 3 (.int .i64 (m.limit - 1)) rfl rfl rfl rfl rfl (show -1 ≤ m.limit - 1 by omega) h.wr0 h.wr1 (show m.limit - 1 ≤ 9223372036854775807 by omega)
  have T2 := T1.turn (m' := { m with limit := m.limit - 1, writes := m.writes + 1 }) 5 (.int .i64 (m.writes + 1)) rfl rfl rfl rfl rfl (show -1 ≤ m.limit - 1 by omega) (show 0 ≤ m.writes + 1 by omega) (show m.writes + 1 ≤ 1000000 by omega) (show m.limit - 1 ≤ 9223372036854775807 by omega)
  have k0 := h.cell 0
  have k1 := h.cell 1
  have k2 := h.cell 2
  have k3 := h.cell 3
  have k4 := h.cell 4
  have k5 := h.cell 5
  have f3 := h.frozen 3
  have f4 := h.frozen 4
  have f5 := h.frozen 5
  simp only [dcells] at k0 k1 k2 k3 k4 k5
  simp at k0 k1 k2 k3 k4 k5
  have TT := Lib.hid (And.intro T2.1 (And.intro (T1b.trans T2.2.1) (show Fr D _ _ from fun k hk => (T2.2.2 k hk).trans (T1c k hk))))
  clear T1 T1b T1c T2
  generalize m.limit = x at k3 h0 hx1 TT
  have e0 : (x == 0) = false := beq_eq_false_iff_ne.2 (by omega)
  have e1 : decide (0 < x) = true := decide_eq_true (by omega)
  go_enter Try.func46, Try.ntmps46
  go_wp2
  go_ret
  exact ⟨rfl, TT.out⟩
theorem Limit_any {B D L N : Nat} {P : Value} {m : Dk} {w : World} (h : DiskAt B D L N P m w) (k : Int) (hk0 : -9223372036854775808 ≤ k) (hk1 : k ≤ 9223372036854775807) :
    Calls Try.prog 23 #[.pointer (some ⟨D, 0, none⟩), .int .i64 k] w fun e w' => e = .returned (.tuple #[]) ∧ DiskAt B D L N P { m with limit := max k (-1) } w' ∧ Below B w w' ∧ Fr D w w' := by
  have T := h.turn (m' := { m with limit := max k (-1) }) 3 (.int .i64 (max k (-1))) rfl rfl rfl rfl rfl (show -1 ≤ max k (-1) by omega) h.wr0 h.wr1 (show max k (-1) ≤ 9223372036854775807 by omega)
  have k0 := h.cell 0
  have k1 := h.cell 1
  have k2 := h.cell 2
  have k3 := h.cell 3
  have k4 := h.cell 4
  have k5 := h.cell 5
  have f3 := h.frozen 3
  have f4 := h.frozen 4
  have f5 := h.frozen 5
  simp only [dcells] at k0 k1 k2 k3 k4 k5
  simp at k0 k1 k2 k3 k4 k5
  have TT := Lib.hid T
  clear T
  have CMm := Lib.hid (made_any h)
  rcases (show -1 ≤ k ∨ k < -1 by omega) with hk | hk
  · have hmx : max k (-1) = k := by omega
    rw [hmx] at TT ⊢
    clear hmx
    go_enter Try.func23, Try.ntmps23
    go_wp2_with (go_at_call 44; with_reducible refine CMm.out.mono ?_; rintro e w' ⟨rfl, rfl⟩)
    all_goals
      go_end0
      exact ⟨rfl, TT.out⟩
  · have hmx : max k (-1) = -1 := by omega
    rw [hmx] at TT ⊢
    clear hmx
    go_enter Try.func23, Try.ntmps23
    go_wp2_with (go_at_call 44; with_reducible refine CMm.out.mono ?_; rintro e w' ⟨rfl, rfl⟩)
    all_goals
      go_end0
      exact ⟨rfl, TT.out⟩
theorem Limit_nil (k : Int) (w : World) :
    Calls Try.prog 23 #[.pointer none, .int .i64 k] w fun e w' => e = .returned (.tuple #[]) ∧ w = w' := by
  go_enter Try.func23, Try.ntmps23
  go_wp2_with (go_at_call 44; with_reducible refine (made_nil _).mono ?_; rintro e w' ⟨rfl, rfl⟩)
  go_end0
  exact ⟨rfl, rfl⟩
end Go.Proofs.Yticiaiiedagalaa.dk
