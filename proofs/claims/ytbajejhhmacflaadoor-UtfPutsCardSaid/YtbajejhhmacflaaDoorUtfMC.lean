/- The document's answer: Less. -/
import Derived.Test.YtbajejhhmacflaaDoorUtfMB
import Derived.Deep.QuietTactic
import Derived.BigQuiet
namespace Go.Proofs.YtbajejhhmacflaaDoor.utf
open Go.PlainAid Go.ChangeShapes Go.WideShapes Go.ChangeAt Go.RowKit

theorem lx_nil_right (l : List Int) : lx l [] = false := by cases l <;> rfl
theorem lx_nil_left {l : List Int} (h : l ≠ []) : lx [] l = true := by cases l with | nil => exact absurd rfl h | cons _ _ => rfl
theorem lx_drop {a b : List Int} {k : Nat} (ha : k < a.length) (hb : k < b.length) : lx (a.drop k) (b.drop k) = (decide (gl a k < gl b k) || (gl a k == gl b k && lx (a.drop (k + 1)) (b.drop (k + 1)))) := by
  rw [List.drop_eq_getElem_cons ha, List.drop_eq_getElem_cons hb]
  have e1 : gl a k = a[k] := by unfold gl; rw [List.getD_eq_getElem?_getD, List.getElem?_eq_getElem ha]; rfl
  have e2 : gl b k = b[k] := by unfold gl; rw [List.getD_eq_getElem?_getD, List.getElem?_eq_getElem hb]; rfl
  rw [e1, e2]
  rfl

theorem ranks_length : ∀ (n : Nat) {l : List Int}, l.length ≤ n → Oct l → (ranks l).length ≤ l.length := by
  intro n
  induction n with
  | zero => intro l hl _; rw [List.length_eq_zero_iff.1 (Nat.le_zero.1 hl)]; exact Nat.le_refl _
  | succ n ih =>
    intro l hl h
    by_cases hn : l = []
    · rw [hn]; exact Nat.le_refl _
    have hm := rk_len h hn
    have := ih (l := l.drop (rk l).2.toNat) (by simp; omega) (h.drop _)
    have hd : (l.drop (rk l).2.toNat).length = l.length - (rk l).2.toNat := by simp
    rw [ranks_step h hn, List.length_cons]
    omega
theorem marks_length {l : List Int} (h : Oct l) : (marks l).length ≤ l.length := by
  unfold marks
  rw [List.length_map]
  exact ranks_length _ (Nat.le_refl _) h

set_option maxHeartbeats 2000000 in
theorem RLess_any (a b : ByteArray) (w : World) (ha : a.size ≤ 1000) (hb : b.size ≤ 1000) :
    Calls Tryd.prog 25 #[.string a, .string b] w fun e w' => e = .returned (.bool (lx (marks (ints a)) (marks (ints b)))) ∧ Below w.heap.size w w' := by
  have H1 := Lib.hid (Marks_any a w ha)
  have H2 : Hid (∀ W, Calls Tryd.prog 42 #[.string b] W fun e w' => ∃ v, e = .returned v ∧ Is w' v (marks (ints b)) ∧ Below W.heap.size W w') := fun W => Marks_any b W hb
  have hLl : (marks (ints a)).length ≤ 1000 := by have := marks_length (ints_oct a); have := ints_length a; omega
  have hMl : (marks (ints b)).length ≤ 1000 := by have := marks_length (ints_oct b); have := ints_length b; omega
  generalize marks (ints a) = L at H1 hLl
  generalize marks (ints b) = M at H2 hMl
  obtain ⟨v, hv⟩ : ∃ v, v = lx L M := ⟨_, rfl⟩
  have HV : Hid (v = lx L M) := hv
  rw [← hv]
  clear hv ha hb
  go_enter Tryd.func25, Tryd.ntmps25
  go_wp2_with (go_at_call 42; with_reducible refine H1.out.mono ?_; rintro e w1 ⟨x, rfl, hI1, hb1⟩)
  clear H1
  with_reducible refine (H2.out w1).mono ?_
  rintro e w2 ⟨y, rfl, hI2, hb2⟩
  clear H2
  have hI1 := hI1.below hb2
  have hB := hb1.trans (hb2.mono hb1.size)
  clear hb1 hb2
  rcases hI2 with ⟨rfl, rfl⟩ | ⟨b2, cap2, rfl, h02, hc2, hlt2, hcell2⟩
  · have hv : Hid (v = false) := by
      have := HV.out
      rw [lx_nil_right] at this
      exact this
    clear HV
    rcases hI1 with ⟨rfl, rfl⟩ | ⟨b1, cap1, rfl, h01, hc1, hlt1, hcell1⟩
    · go_wp2
      go_rounds 1
      go_ret
      exact ⟨ret_bool hv.out.symm, hB⟩
    · clear hcell1
      go_wp2
      go_rounds 1
      go_ret
      exact ⟨ret_bool hv.out.symm, hB⟩
  rcases hI1 with ⟨rfl, rfl⟩ | ⟨b1, cap1, rfl, h01, hc1, hlt1, hcell1⟩
  · have hv : Hid (v = true) := by
      have := HV.out
      rw [lx_nil_left (fun e => by rw [e] at h02; simp at h02)] at this
      exact this
    clear HV hcell2
    have hd : decide ((0 : Int) < M.length) = true := decide_eq_true (by omega)
    go_wp2
    go_rounds 1
    go_ret
    exact ⟨ret_bool hv.out.symm, hB⟩
  have HC1 := Lib.hid hcell1
  have HC2 := Lib.hid hcell2
  clear hcell1 hcell2
  go_wp2
  go_loopw [7] (fun i wr => ∃ k : Nat, i = .int .i64 k ∧ k ≤ L.length ∧ k ≤ M.length ∧ Hid (v = lx (L.drop k) (M.drop k)) ∧ Below w2.heap.size w2 wr) (fun i _ => L.length - (intOf i).toNat)
  case atStart => exact ⟨0, rfl, by omega, by omega, HV, Below.refl _ _⟩
  case round =>
    obtain ⟨k, rfl, hk1, hk2, hN, hb⟩ := hrel
    have hbs := hb.size
    by_cases hl1 : k < L.length
    · by_cases hl2 : k < M.length
      · have hc1' : wr.cell? ⟨b1, k, none⟩ = some (.int .i64 (gl L k)) := (hb.cell (p := ⟨b1, k, none⟩) hlt1).trans (HC1.out k hl1)
        have hc2' : wr.cell? ⟨b2, k, none⟩ = some (.int .i64 (gl M k)) := (hb.cell (p := ⟨b2, k, none⟩) hlt2).trans (HC2.out k hl2)
        have hv := hN.out
        rw [lx_drop hl1 hl2] at hv
        clear hN HV
        generalize gl L k = x at hc1' hv
        generalize gl M k = y at hc2' hv
        have d1 : decide ((k : Int) < L.length) = true := decide_eq_true (by omega)
        have d2 : decide ((k : Int) < M.length) = true := decide_eq_true (by omega)
        by_cases he : x = y
        · subst he
          have hN : Hid (v = lx (L.drop (k + 1)) (M.drop (k + 1))) := by have := hv; simp at this; exact this
          clear hv
          have hxx : (x != x) = false := by simp
          go_wp2
          go_quiet (fail)
          go_wp2
          constructor
          · exact ⟨k + 1, by go_num, by omega, by omega, hN, below_drewN hb _⟩
          · simp [intOf]; omega
        · have hv' : Hid (v = decide (x < y)) := by rw [hv, show (x == y) = false from beq_eq_false_iff_ne.2 he]; simp only [Bool.false_and, Bool.or_false]; trivial
          have hxy : (x != y) = true := by simp [he]
          clear hv he
          go_wp2
          go_quiet (fail)
          go_wp2
          go_quiet (fail)
          go_wp2
          go_ret
          exact ⟨ret_bool hv'.out.symm, hB.trans ((below_drewN (below_drewN hb _) _).mono hB.size)⟩
      · have hkm : k = M.length := by omega
        have hv' : Hid (v = decide (L.length < M.length)) := by
          rw [hN.out, hkm, List.drop_length, lx_nil_right]
          exact (decide_eq_false (by omega)).symm
        have d1 : decide ((k : Int) < L.length) = true := decide_eq_true (by omega)
        have d2 : decide ((k : Int) < M.length) = false := decide_eq_false (by omega)
        clear hN HV hkm
        go_wp2
        go_ret
        exact ⟨ret_bool hv'.out.symm, hB.trans (hb.mono hB.size)⟩
    · have hkl : k = L.length := by omega
      have hv' : Hid (v = decide (L.length < M.length)) := by
        rw [hN.out, hkl, List.drop_length]
        by_cases hm : L.length < M.length
        · rw [lx_nil_left (fun e => by have := congrArg List.length e; simp at this; omega)]
          exact (decide_eq_true (by omega)).symm
        · rw [List.drop_eq_nil_of_le (by omega), lx_nil_right]
          exact (decide_eq_false (by omega)).symm
      have d1 : decide ((k : Int) < L.length) = false := decide_eq_false (by omega)
      clear hN HV hkl
      go_wp2
      go_ret
      exact ⟨ret_bool hv'.out.symm, hB.trans (hb.mono hB.size)⟩
end Go.Proofs.YtbajejhhmacflaaDoor.utf
