/- digit, begins, inNumber. -/
import Derived.Test.YtkifndecpbphbaaDoorH
import Derived.Test.YtkifndecpbphbaaDoorJ
import Derived.Test.YtkifndecpbphbaaDoorShelfC
namespace Go.Proofs.YtkifndecpbphbaaDoor.dk
open Go.PlainAid Go.ChangeShapes Go.WideShapes Go.ChangeAt Go.RowKit

set_option maxRecDepth 100000 in
theorem digit_any (w : World) (c : Int) : Calls Tryd.prog 37 #[.int .u8 c] w fun e w' => e = .returned (.bool (isDig c)) ∧ w' = w := by
  unfold isDig
  by_cases h1 : 48 ≤ c
  · have d1 : decide (48 ≤ c) = true := decide_eq_true h1
    by_cases h2 : c ≤ 57
    · have d2 : decide (c ≤ 57) = true := decide_eq_true h2
      rw [d1, d2]
      go_enter Tryd.func37, Tryd.ntmps37
      go_wp2_with fail
      go_ret
      exact ⟨rfl, rfl⟩
    · have d2 : decide (c ≤ 57) = false := decide_eq_false h2
      rw [d1, d2]
      go_enter Tryd.func37, Tryd.ntmps37
      go_wp2_with fail
      go_ret
      exact ⟨rfl, rfl⟩
  · have d1 : decide (48 ≤ c) = false := decide_eq_false h1
    rw [d1, Bool.false_and]
    go_enter Tryd.func37, Tryd.ntmps37
    go_wp2_with fail
    go_ret
    exact ⟨rfl, rfl⟩
/-- May a name begin so? -/
def bgn (r : Int) : Bool := (decide (97 ≤ r) && decide (r ≤ 122)) || ((decide (65 ≤ r) && decide (r ≤ 90)) || (decide (r = 95) || decide (127 < r)))
set_option maxRecDepth 100000 in
theorem begins_any (w : World) (r : Int) : Calls Tryd.prog 20 #[.int .i32 r] w fun e w' => e = .returned (.bool (bgn r)) ∧ w' = w := by
  by_cases h1 : 97 ≤ r
  · have d1 : decide (97 ≤ r) = true := decide_eq_true h1
    by_cases h2 : r ≤ 122
    · have d2 : decide (r ≤ 122) = true := decide_eq_true h2
      have e : bgn r = true := by unfold bgn; rw [d1, d2]; rfl
      rw [e]
      go_enter Tryd.func20, Tryd.ntmps20
      go_wp2_with fail
      go_ret
      exact ⟨rfl, rfl⟩
    · have d2 : decide (r ≤ 122) = false := decide_eq_false h2
      by_cases h3 : 65 ≤ r
      · have d3 : decide (65 ≤ r) = true := decide_eq_true h3
        by_cases h4 : r ≤ 90
        · have d4 : decide (r ≤ 90) = true := decide_eq_true h4
          have e : bgn r = true := by unfold bgn; rw [d1, d2, d3, d4]; rfl
          rw [e]
          go_enter Tryd.func20, Tryd.ntmps20
          go_wp2_with fail
          go_ret
          exact ⟨rfl, rfl⟩
        · have d4 : decide (r ≤ 90) = false := decide_eq_false h4
          by_cases h5 : r = 95
          · have d5 : decide (r = 95) = true := decide_eq_true h5
            have b5 : (r == 95) = true := beq_iff_eq.2 h5
            have e : bgn r = true := by unfold bgn; rw [d1, d2, d3, d4, d5]; rfl
            rw [e]
            go_enter Tryd.func20, Tryd.ntmps20
            go_wp2_with fail
            go_ret
            exact ⟨rfl, rfl⟩
          · have d5 : decide (r = 95) = false := decide_eq_false h5
            have b5 : (r == 95) = false := beq_eq_false_iff_ne.2 h5
            by_cases h6 : 127 < r
            · have d6 : decide (127 < r) = true := decide_eq_true h6
              have e : bgn r = true := by unfold bgn; rw [d1, d2, d3, d4, d5, d6]; rfl
              rw [e]
              go_enter Tryd.func20, Tryd.ntmps20
              go_wp2_with fail
              go_ret
              exact ⟨rfl, rfl⟩
            · have d6 : decide (127 < r) = false := decide_eq_false h6
              have e : bgn r = false := by unfold bgn; rw [d1, d2, d3, d4, d5, d6]; rfl
              rw [e]
              go_enter Tryd.func20, Tryd.ntmps20
              go_wp2_with fail
              go_ret
              exact ⟨rfl, rfl⟩
      · have d3 : decide (65 ≤ r) = false := decide_eq_false h3
        by_cases h5 : r = 95
        · have d5 : decide (r = 95) = true := decide_eq_true h5
          have b5 : (r == 95) = true := beq_iff_eq.2 h5
          have e : bgn r = true := by unfold bgn; rw [d1, d2, d3, d5]; rfl
          rw [e]
          go_enter Tryd.func20, Tryd.ntmps20
          go_wp2_with fail
          go_ret
          exact ⟨rfl, rfl⟩
        · have d5 : decide (r = 95) = false := decide_eq_false h5
          have b5 : (r == 95) = false := beq_eq_false_iff_ne.2 h5
          by_cases h6 : 127 < r
          · have d6 : decide (127 < r) = true := decide_eq_true h6
            have e : bgn r = true := by unfold bgn; rw [d1, d2, d3, d5, d6]; rfl
            rw [e]
            go_enter Tryd.func20, Tryd.ntmps20
            go_wp2_with fail
            go_ret
            exact ⟨rfl, rfl⟩
          · have d6 : decide (127 < r) = false := decide_eq_false h6
            have e : bgn r = false := by unfold bgn; rw [d1, d2, d3, d5, d6]; rfl
            rw [e]
            go_enter Tryd.func20, Tryd.ntmps20
            go_wp2_with fail
            go_ret
            exact ⟨rfl, rfl⟩
  · have d1 : decide (97 ≤ r) = false := decide_eq_false h1
    by_cases h3 : 65 ≤ r
    · have d3 : decide (65 ≤ r) = true := decide_eq_true h3
      by_cases h4 : r ≤ 90
      · have d4 : decide (r ≤ 90) = true := decide_eq_true h4
        have e : bgn r = true := by unfold bgn; rw [d1, d3, d4]; rfl
        rw [e]
        go_enter Tryd.func20, Tryd.ntmps20
        go_wp2_with fail
        go_ret
        exact ⟨rfl, rfl⟩
      · have d4 : decide (r ≤ 90) = false := decide_eq_false h4
        by_cases h5 : r = 95
        · have d5 : decide (r = 95) = true := decide_eq_true h5
          have b5 : (r == 95) = true := beq_iff_eq.2 h5
          have e : bgn r = true := by unfold bgn; rw [d1, d3, d4, d5]; rfl
          rw [e]
          go_enter Tryd.func20, Tryd.ntmps20
          go_wp2_with fail
          go_ret
          exact ⟨rfl, rfl⟩
        · have d5 : decide (r = 95) = false := decide_eq_false h5
          have b5 : (r == 95) = false := beq_eq_false_iff_ne.2 h5
          by_cases h6 : 127 < r
          · have d6 : decide (127 < r) = true := decide_eq_true h6
            have e : bgn r = true := by unfold bgn; rw [d1, d3, d4, d5, d6]; rfl
            rw [e]
            go_enter Tryd.func20, Tryd.ntmps20
            go_wp2_with fail
            go_ret
            exact ⟨rfl, rfl⟩
          · have d6 : decide (127 < r) = false := decide_eq_false h6
            have e : bgn r = false := by unfold bgn; rw [d1, d3, d4, d5, d6]; rfl
            rw [e]
            go_enter Tryd.func20, Tryd.ntmps20
            go_wp2_with fail
            go_ret
            exact ⟨rfl, rfl⟩
    · have d3 : decide (65 ≤ r) = false := decide_eq_false h3
      by_cases h5 : r = 95
      · have d5 : decide (r = 95) = true := decide_eq_true h5
        have b5 : (r == 95) = true := beq_iff_eq.2 h5
        have e : bgn r = true := by unfold bgn; rw [d1, d3, d5]; rfl
        rw [e]
        go_enter Tryd.func20, Tryd.ntmps20
        go_wp2_with fail
        go_ret
        exact ⟨rfl, rfl⟩
      · have d5 : decide (r = 95) = false := decide_eq_false h5
        have b5 : (r == 95) = false := beq_eq_false_iff_ne.2 h5
        by_cases h6 : 127 < r
        · have d6 : decide (127 < r) = true := decide_eq_true h6
          have e : bgn r = true := by unfold bgn; rw [d1, d3, d5, d6]; rfl
          rw [e]
          go_enter Tryd.func20, Tryd.ntmps20
          go_wp2_with fail
          go_ret
          exact ⟨rfl, rfl⟩
        · have d6 : decide (127 < r) = false := decide_eq_false h6
          have e : bgn r = false := by unfold bgn; rw [d1, d3, d5, d6]; rfl
          rw [e]
          go_enter Tryd.func20, Tryd.ntmps20
          go_wp2_with fail
          go_ret
          exact ⟨rfl, rfl⟩
end Go.Proofs.YtkifndecpbphbaaDoor.dk
/- inNumber: does a byte belong to the number with which a text begins? -/
namespace Go.Proofs.YtkifndecpbphbaaDoor.dk
open Go.PlainAid Go.ChangeShapes Go.WideShapes Go.ChangeAt Go.RowKit

/-- Does the byte at place k belong to a number? -/
def inNum (l : List Int) (k : Nat) : Bool :=
  if l.getD k 0 = 46 then decide (k + 1 = l.length) || !decide (l.getD (k + 1) 0 = 46)
  else if l.getD k 0 = 43 ∨ l.getD k 0 = 45 then decide (k = 0) || (decide (l.getD (k - 1) 0 = 101) || decide (l.getD (k - 1) 0 = 69))
  else if l.getD k 0 = 101 ∨ l.getD k 0 = 69 then true else isDig (l.getD k 0)
set_option maxRecDepth 100000 in
set_option maxHeartbeats 2000000 in
theorem inNumber_any (w : World) (s : ByteArray) (k : Nat) (hs : s.size ≤ 1000000000) (hk : k < s.size) :
    Calls Tryd.prog 49 #[.string s, .int .i64 (k : Int)] w fun e w' => e = .returned (.bool (inNum (unstr s) k)) ∧ w' = w := by
  have hl := unstr_length s
  have hat := byte_at s k hk
  have wk1 : IntKind.i64.wrap ((k : Int) + 1) = ((k + 1 : Nat) : Int) := by rw [IntKind.wrap_i64]; omega
  by_cases c46 : (unstr s).getD k 0 = 46
  · have n46 : ((s[k].toNat : Nat) : Int) = 46 := by rw [hat]; exact c46
    have u : inNum (unstr s) k = (decide (k + 1 = (unstr s).length) || !decide ((unstr s).getD (k + 1) 0 = 46)) := if_pos c46
    rw [u]
    by_cases g1 : k + 1 = s.size
    · rw [show decide (k + 1 = (unstr s).length) = true from decide_eq_true (by omega), Bool.true_or]
      have q : ((k : Int) + 1 == (s.size : Int)) = true := beq_iff_eq.2 (by omega)
      clear u hat hl
      go_enter Tryd.func49, Tryd.ntmps49
      go_wp2_with fail
      go_ret
      exact ⟨rfl, rfl⟩
    · have q : ((k : Int) + 1 == (s.size : Int)) = false := beq_eq_false_iff_ne.2 (by omega)
      have hk1 : k + 1 < s.size := by omega
      have hat1 := byte_at s (k + 1) hk1
      rw [show decide (k + 1 = (unstr s).length) = false from decide_eq_false (by omega), Bool.false_or]
      by_cases g2 : (unstr s).getD (k + 1) 0 = 46
      · rw [decide_eq_true g2]
        have r : ((s[k + 1].toNat : Nat) : Int) = 46 := by rw [hat1]; exact g2
        clear u hat hat1 hl
        go_enter Tryd.func49, Tryd.ntmps49
        go_wp2_with fail
        go_ret
        exact ⟨rfl, rfl⟩
      · rw [decide_eq_false g2]
        have r : ¬ ((s[k + 1].toNat : Nat) : Int) = 46 := by rw [hat1]; exact g2
        have r2 : (((s[k + 1].toNat : Nat) : Int) != 46) = true := bne_iff_ne.2 r
        clear u hat hat1 hl
        go_enter Tryd.func49, Tryd.ntmps49
        go_wp2_with fail
        go_ret
        exact ⟨rfl, rfl⟩
  · have n46 : ¬ ((s[k].toNat : Nat) : Int) = 46 := by rw [hat]; exact c46
    have m46 : (((s[k].toNat : Nat) : Int) == 46) = false := beq_eq_false_iff_ne.2 n46
    by_cases c43 : (unstr s).getD k 0 = 43
    · have n43 : ((s[k].toNat : Nat) : Int) = 43 := by rw [hat]; exact c43
      have u : inNum (unstr s) k = (decide (k = 0) || (decide ((unstr s).getD (k - 1) 0 = 101) || decide ((unstr s).getD (k - 1) 0 = 69))) := by
        unfold inNum
        rw [if_neg c46, if_pos (.inl c43)]
      rw [u]
      by_cases g1 : k = 0
      · subst g1
        rw [show decide ((0 : Nat) = 0) = true from rfl, Bool.true_or]
        clear u hat hl
        go_enter Tryd.func49, Tryd.ntmps49
        go_wp2_with fail
        go_ret
        exact ⟨rfl, rfl⟩
      · have q : ((k : Int) == 0) = false := beq_eq_false_iff_ne.2 (by omega)
        have hk1 : k - 1 < s.size := by omega
        have hat1 := byte_at s (k - 1) hk1
        have wk2 : IntKind.i64.wrap ((k : Int) - 1) = ((k - 1 : Nat) : Int) := by rw [IntKind.wrap_i64]; omega
        rw [decide_eq_false g1, Bool.false_or]
        by_cases g2 : (unstr s).getD (k - 1) 0 = 101
        · rw [decide_eq_true g2, Bool.true_or]
          have r : ((s[k - 1].toNat : Nat) : Int) = 101 := by rw [hat1]; exact g2
          clear u hat hat1 hl
          go_enter Tryd.func49, Tryd.ntmps49
          go_wp2_with fail
          go_ret
          exact ⟨rfl, rfl⟩
        · rw [decide_eq_false g2, Bool.false_or]
          have r : (((s[k - 1].toNat : Nat) : Int) == 101) = false := by rw [hat1]; exact beq_eq_false_iff_ne.2 g2
          by_cases g3 : (unstr s).getD (k - 1) 0 = 69
          · rw [decide_eq_true g3]
            have r2 : ((s[k - 1].toNat : Nat) : Int) = 69 := by rw [hat1]; exact g3
            clear u hat hat1 hl
            go_enter Tryd.func49, Tryd.ntmps49
            go_wp2_with fail
            go_ret
            exact ⟨rfl, rfl⟩
          · rw [decide_eq_false g3]
            have r2 : (((s[k - 1].toNat : Nat) : Int) == 69) = false := by rw [hat1]; exact beq_eq_false_iff_ne.2 g3
            clear u hat hat1 hl
            go_enter Tryd.func49, Tryd.ntmps49
            go_wp2_with fail
            go_ret
            exact ⟨rfl, rfl⟩
    · have n43 : ¬ ((s[k].toNat : Nat) : Int) = 43 := by rw [hat]; exact c43
      have m43 : (((s[k].toNat : Nat) : Int) == 43) = false := beq_eq_false_iff_ne.2 n43
      by_cases c45 : (unstr s).getD k 0 = 45
      · have n45 : ((s[k].toNat : Nat) : Int) = 45 := by rw [hat]; exact c45
        have u : inNum (unstr s) k = (decide (k = 0) || (decide ((unstr s).getD (k - 1) 0 = 101) || decide ((unstr s).getD (k - 1) 0 = 69))) := by
          unfold inNum
          rw [if_neg c46, if_pos (.inr c45)]
        rw [u]
        by_cases g1 : k = 0
        · subst g1
          rw [show decide ((0 : Nat) = 0) = true from rfl, Bool.true_or]
          clear u hat hl
          go_enter Tryd.func49, Tryd.ntmps49
          go_wp2_with fail
          go_ret
          exact ⟨rfl, rfl⟩
        · have q : ((k : Int) == 0) = false := beq_eq_false_iff_ne.2 (by omega)
          have hk1 : k - 1 < s.size := by omega
          have hat1 := byte_at s (k - 1) hk1
          have wk2 : IntKind.i64.wrap ((k : Int) - 1) = ((k - 1 : Nat) : Int) := by rw [IntKind.wrap_i64]; omega
          rw [decide_eq_false g1, Bool.false_or]
          by_cases g2 : (unstr s).getD (k - 1) 0 = 101
          · rw [decide_eq_true g2, Bool.true_or]
            have r : ((s[k - 1].toNat : Nat) : Int) = 101 := by rw [hat1]; exact g2
            clear u hat hat1 hl
            go_enter Tryd.func49, Tryd.ntmps49
            go_wp2_with fail
            go_ret
            exact ⟨rfl, rfl⟩
          · rw [decide_eq_false g2, Bool.false_or]
            have r : (((s[k - 1].toNat : Nat) : Int) == 101) = false := by rw [hat1]; exact beq_eq_false_iff_ne.2 g2
            by_cases g3 : (unstr s).getD (k - 1) 0 = 69
            · rw [decide_eq_true g3]
              have r2 : ((s[k - 1].toNat : Nat) : Int) = 69 := by rw [hat1]; exact g3
              clear u hat hat1 hl
              go_enter Tryd.func49, Tryd.ntmps49
              go_wp2_with fail
              go_ret
              exact ⟨rfl, rfl⟩
            · rw [decide_eq_false g3]
              have r2 : (((s[k - 1].toNat : Nat) : Int) == 69) = false := by rw [hat1]; exact beq_eq_false_iff_ne.2 g3
              clear u hat hat1 hl
              go_enter Tryd.func49, Tryd.ntmps49
              go_wp2_with fail
              go_ret
              exact ⟨rfl, rfl⟩
      · have n45 : ¬ ((s[k].toNat : Nat) : Int) = 45 := by rw [hat]; exact c45
        have m45 : (((s[k].toNat : Nat) : Int) == 45) = false := beq_eq_false_iff_ne.2 n45
        by_cases c101 : (unstr s).getD k 0 = 101
        · have n101 : ((s[k].toNat : Nat) : Int) = 101 := by rw [hat]; exact c101
          have u : inNum (unstr s) k = true := by
            unfold inNum
            rw [if_neg c46, if_neg (by rintro (h | h); exact c43 h; exact c45 h), if_pos (.inl c101)]
          rw [u]
          clear u hat hl
          go_enter Tryd.func49, Tryd.ntmps49
          go_wp2_with fail
          go_ret
          exact ⟨rfl, rfl⟩
        · have n101 : ¬ ((s[k].toNat : Nat) : Int) = 101 := by rw [hat]; exact c101
          have m101 : (((s[k].toNat : Nat) : Int) == 101) = false := beq_eq_false_iff_ne.2 n101
          by_cases c69 : (unstr s).getD k 0 = 69
          · have n69 : ((s[k].toNat : Nat) : Int) = 69 := by rw [hat]; exact c69
            have u : inNum (unstr s) k = true := by
              unfold inNum
              rw [if_neg c46, if_neg (by rintro (h | h); exact c43 h; exact c45 h), if_pos (.inr c69)]
            rw [u]
            clear u hat hl
            go_enter Tryd.func49, Tryd.ntmps49
            go_wp2_with fail
            go_ret
            exact ⟨rfl, rfl⟩
          · have n69 : ¬ ((s[k].toNat : Nat) : Int) = 69 := by rw [hat]; exact c69
            have m69 : (((s[k].toNat : Nat) : Int) == 69) = false := beq_eq_false_iff_ne.2 n69
            have u : inNum (unstr s) k = isDig (((s[k].toNat : Nat) : Int)) := by
              unfold inNum
              rw [if_neg c46, if_neg (by rintro (h | h); exact c43 h; exact c45 h), if_neg (by rintro (h | h); exact c101 h; exact c69 h), hat]
            rw [u]
            have HD := Lib.hid (fun v => digit_any v (((s[k].toNat : Nat) : Int)))
            generalize isDig (((s[k].toNat : Nat) : Int)) = dd at HD ⊢
            clear u hat hl
            go_enter Tryd.func49, Tryd.ntmps49
            go_wp2_with fail
            with_reducible refine (HD.out _).mono ?_
            rintro e w2 ⟨rfl, rfl⟩
            go_wp2_with fail
            go_ret
            exact ⟨rfl, rfl⟩
end Go.Proofs.YtkifndecpbphbaaDoor.dk
/- Rows of seven cells; an answer of a row and two more; sign. -/
namespace Go.Proofs.YtkifndecpbphbaaDoor.dk
open Go.PlainAid Go.ChangeShapes Go.WideShapes Go.ChangeAt Go.RowKit

theorem set7 {W W0 : World} {A B : Nat} {t : TypeId} {a0 a1 a2 a3 a4 a5 a6 v0 v1 v2 v3 v4 v5 v6 : Value} (h : W.heap[A]? = some (.cells #[a0, a1, a2, a3, a4, a5, a6] t (0, 0))) (hB : B ≤ A) (hb : Below B W0 W) :
    (((((((W.setCell ⟨A, 0, none⟩ v0).setCell ⟨A, 1, none⟩ v1).setCell ⟨A, 2, none⟩ v2).setCell ⟨A, 3, none⟩ v3).setCell ⟨A, 4, none⟩ v4).setCell ⟨A, 5, none⟩ v5).setCell ⟨A, 6, none⟩ v6).heap[A]? = some (.cells #[v0, v1, v2, v3, v4, v5, v6] t (0, 0)) ∧ Below B W0 (((((((W.setCell ⟨A, 0, none⟩ v0).setCell ⟨A, 1, none⟩ v1).setCell ⟨A, 2, none⟩ v2).setCell ⟨A, 3, none⟩ v3).setCell ⟨A, 4, none⟩ v4).setCell ⟨A, 5, none⟩ v5).setCell ⟨A, 6, none⟩ v6) := by
  have h0 := stepSet 0 v0 hB ⟨h, hb⟩
  have h1 := stepSet 1 v1 hB h0
  have h2 := stepSet 2 v2 hB h1
  have h3 := stepSet 3 v3 hB h2
  have h4 := stepSet 4 v4 hB h3
  have h5 := stepSet 5 v5 hB h4
  have h6 := stepSet 6 v6 hB h5
  simpa using h6
theorem row7 {V : World} {A : Nat} {t : TypeId} {a0 a1 a2 a3 a4 a5 a6 : Value} (h : V.heap[A]? = some (.cells #[a0, a1, a2, a3, a4, a5, a6] t (0, 0))) : (V.cell? ⟨A, 0, none⟩ = some a0 ∧ V.cell? ⟨A, 1, none⟩ = some a1 ∧ V.cell? ⟨A, 2, none⟩ = some a2 ∧ V.cell? ⟨A, 3, none⟩ = some a3 ∧ V.cell? ⟨A, 4, none⟩ = some a4 ∧ V.cell? ⟨A, 5, none⟩ = some a5 ∧ V.cell? ⟨A, 6, none⟩ = some a6) ∧ (V.frozen? ⟨A, 0, none⟩ = false ∧ V.frozen? ⟨A, 1, none⟩ = false ∧ V.frozen? ⟨A, 2, none⟩ = false ∧ V.frozen? ⟨A, 3, none⟩ = false ∧ V.frozen? ⟨A, 4, none⟩ = false ∧ V.frozen? ⟨A, 5, none⟩ = false ∧ V.frozen? ⟨A, 6, none⟩ = false) := by
  have hc := fun j => cell_of_row V A j _ _ _ h
  refine ⟨⟨hc 0, hc 1, hc 2, hc 3, hc 4, hc 5, hc 6⟩, ?_, ?_, ?_, ?_, ?_, ?_, ?_⟩ <;> exact frozen_of_row _ _ _ _ _ h
theorem results_row_tmp2 {P : Program} {fn : Func} {p u v : Tmp} {ty : TypeId} (h : fn.results = #[.cell p ty, .tmp u, .tmp v]) (tmps : Array Value) (w : World) (g : Nat) (t : TypeId) (cs : Array Value) (fr : Nat × Nat) (d : TypeDesc)
    (hp : tmps.getD p undef = .pointer (some ⟨g, 0, none⟩)) (hg : w.heap[g]? = some (.cells cs t fr))
    (hu : P.underlying ty = some d) (hd : (match d with | .struct _ | .array _ _ => true | _ => false) = true) (hi : (P.info? ty).map (·.size) = some cs.size) :
    (results fn tmps).run P w = .ok (.tuple #[.agg cs, tmps.getD u undef, tmps.getD v undef]) w := by
  have e : (results fn tmps).run P w = ((asAddr (tmps.getD p undef)).run P w).andThen fun a w₁ => ((loadVar ty a).run P w₁).andThen fun x w₂ => .ok (.tuple #[x, tmps.getD u undef, tmps.getD v undef]) w₂ := by
    simp only [results, h]
    simp [Sem.run_bind, Result.andThen]
  rw [e, hp]
  simp [asAddr, run_loadVar_row w g t ty cs fr d hg hu hd hi, Result.andThen]
/-- A token's cells: its kind, its text; its number; where it lies. -/
def tkv (kind : Int) (s : ByteArray) : Array Value := #[.int .i64 kind, .string s, .bool false, .string ⟨#[]⟩, .int .i64 0, .int .i64 0, .int .i64 0]
def dbls : ByteArray := ⟨#[46, 46, 32, 61, 61, 32, 33, 61, 32, 60, 61, 32, 62, 61, 32, 38, 38, 32, 124, 124, 32, 58, 61]⟩
def sgls : ByteArray := ⟨#[36, 64, 46, 44, 58, 59, 63, 42, 91, 93, 40, 41, 123, 125, 60, 62, 33, 61, 43, 45]⟩
/-- Does a text begin with a sign of two bytes? -/
def isDbl (s : ByteArray) : Bool := decide (1 < s.size) && (!decide ((unstr s).getD 0 0 = 32)) && (!decide ((unstr s).getD 1 0 = 32)) && Lib.contains dbls.data.toList (s.extract 0 2).data.toList
def isSgl (s : ByteArray) : Bool := decide (0 ≤ Lib.indexByte sgls.data.toList ((unstr s).getD 0 0).toNat.toUInt8)
def signV (s : ByteArray) : Value := if isDbl s = true then .tuple #[.agg (tkv 4 (s.extract 0 2)), .int .i64 2, .int .i64 0] else if isSgl s = true then .tuple #[.agg (tkv 4 (s.extract 0 1)), .int .i64 1, .int .i64 0] else .tuple #[.agg (tkv 0 ⟨#[]⟩), .int .i64 0, .int .i64 2]
set_option maxRecDepth 100000 in
set_option maxHeartbeats 4000000 in
theorem sign_any (w : World) (s : ByteArray) (h0 : 0 < s.size) (hs : s.size ≤ 1000000) (mx : Int) (hm : w.cell? ⟨1, 0, none⟩ = some (.int .i64 mx)) :
    Calls Tryd.prog 40 #[.string s] w fun e w' => e = .returned (signV s) ∧ Below w.heap.size w w' := by
  obtain ⟨wa, hwa⟩ : ∃ wa, wa = w.alloc (.cells #[.int .i64 0, .string ⟨#[]⟩, .bool false, .string ⟨#[]⟩, .int .i64 0, .int .i64 0, .int .i64 0] 30) := ⟨_, rfl⟩
  have hr : wa.heap[w.heap.size]? = some (.cells #[.int .i64 0, .string ⟨#[]⟩, .bool false, .string ⟨#[]⟩, .int .i64 0, .int .i64 0, .int .i64 0] 30 (0, 0)) := by rw [hwa]; exact heap_alloc_new _ _
  have hb : Below w.heap.size w wa := by rw [hwa]; exact (Below.refl _ _).alloc (Nat.le_refl _) _
  have hmx : wa.cell? ⟨1, 0, none⟩ = some (.int .i64 mx) := (hb.cell (World.block_lt_of_cell? _ _ hm)).trans hm
  have HMx := Lib.hid hmx
  have HW := Lib.hid hwa
  have HR := Lib.hid hr
  have HB := Lib.hid hb
  have hat := byte_at s 0 h0
  obtain ⟨ix, hix⟩ : ∃ ix, Lib.indexByte sgls.data.toList ((s[0].toNat : Nat) : Int).toNat.toUInt8 = ix := ⟨_, rfl⟩
  obtain ⟨cx, hcx⟩ : ∃ cx, Lib.contains dbls.data.toList (s.extract 0 2).data.toList = cx := ⟨_, rfl⟩
  have hI := fun v => Tryd.strings_IndexByte sgls ((s[0].toNat : Nat) : Int) v
  have hC := fun v (h : World.cell? v ⟨1, 0, none⟩ = some (.int .i64 mx)) => Tryd.strings_Contains dbls (s.extract 0 2) mx v (by decide) h
  rw [hix] at hI
  rw [hcx] at hC
  have HI := Lib.hid hI
  have HC := Lib.hid hC
  have HIx : Hid (isSgl s = decide (0 ≤ ix)) := by
    show isSgl s = _
    rw [← hix, hat]
    rfl
  have HCx : Hid (isDbl s = (decide (1 < s.size) && (!decide ((unstr s).getD 0 0 = 32)) && (!decide ((unstr s).getD 1 0 = 32)) && cx)) := by
    show isDbl s = _
    rw [← hcx]
    rfl
  clear hwa hr hb hmx hm hI hC hix hcx
  unfold sgls at HI
  unfold dbls at HC
  by_cases h1 : 1 < s.size
  · have d1 : decide ((1 : Int) < (s.size : Int)) = true := decide_eq_true (by omega)
    have d1n : decide (1 < s.size) = true := decide_eq_true h1
    have hat1 := byte_at s 1 h1
    by_cases q0 : (unstr s).getD 0 0 = 32
    · have m0 : ((s[0].toNat : Nat) : Int) = 32 := by rw [hat]; exact q0
      rw [m0] at HI
      have ed : isDbl s = false := by
        rw [HCx.out]
        rw [d1n, decide_eq_true q0]; rfl
      by_cases gs : 0 ≤ ix
      · have dg : decide (0 ≤ ix) = true := decide_eq_true gs
        have hv : signV s = .tuple #[.agg (tkv 4 (s.extract 0 1)), .int .i64 1, .int .i64 0] := by unfold signV; rw [ed, if_neg (by decide), HIx.out, dg]; rfl
        rw [hv]
        unfold tkv
        have b1 : (1 : Int) ≤ (s.size : Int) := by omega
        have b1n : 1 ≤ s.size := h0
        clear hv ed gs hat hat1 HIx HCx
        go_enter Tryd.func40, Tryd.ntmps40
        go_upto_region 1 with fail
        rw [← HW.out]
        clear HW
        go_wp2_with fail
        with_reducible refine (HI.out _).mono ?_
        rintro e w3 ⟨rfl, rfl⟩
        have hS := set7 (v0 := .int .i64 4) (v1 := .string (s.extract 0 1)) (v2 := .bool false) (v3 := .string ⟨#[]⟩) (v4 := .int .i64 0) (v5 := .int .i64 0) (v6 := .int .i64 0) HR.out (Nat.le_refl _) HB.out
        have HS := Lib.hid hS
        obtain ⟨_, y0, y1, y2, y3, y4, y5, y6⟩ := row7 HR.out
        clear hS HR HB
        go_wp2_with fail
        refine bodyPost_ret (results_row_tmp2 rfl _ _ w.heap.size _ _ _ _ rfl HS.out.1 Tryd.underlying30 rfl (by kernel_rfl)) rfl ⟨rfl, HS.out.2⟩
      · have dg : decide (0 ≤ ix) = false := decide_eq_false gs
        have hv : signV s = .tuple #[.agg (tkv 0 ⟨#[]⟩), .int .i64 0, .int .i64 2] := by unfold signV; rw [ed, if_neg (by decide), HIx.out, dg]; rfl
        rw [hv]
        unfold tkv
        have b1 : (1 : Int) ≤ (s.size : Int) := by omega
        have b1n : 1 ≤ s.size := h0
        clear hv ed gs hat hat1 HIx HCx
        go_enter Tryd.func40, Tryd.ntmps40
        go_upto_region 1 with fail
        rw [← HW.out]
        clear HW
        go_wp2_with fail
        with_reducible refine (HI.out _).mono ?_
        rintro e w3 ⟨rfl, rfl⟩
        have hS := set7 (v0 := .int .i64 0) (v1 := .string ⟨#[]⟩) (v2 := .bool false) (v3 := .string ⟨#[]⟩) (v4 := .int .i64 0) (v5 := .int .i64 0) (v6 := .int .i64 0) HR.out (Nat.le_refl _) HB.out
        have HS := Lib.hid hS
        obtain ⟨_, y0, y1, y2, y3, y4, y5, y6⟩ := row7 HR.out
        clear hS HR HB
        go_wp2_with fail
        refine bodyPost_ret (results_row_tmp2 rfl _ _ w.heap.size _ _ _ _ rfl HS.out.1 Tryd.underlying30 rfl (by kernel_rfl)) rfl ⟨rfl, HS.out.2⟩
    · have m0 : ¬ ((s[0].toNat : Nat) : Int) = 32 := by rw [hat]; exact q0
      have o0 : (((s[0].toNat : Nat) : Int) != 32) = true := bne_iff_ne.2 m0
      by_cases q1 : (unstr s).getD 1 0 = 32
      · have m1 : ((s[1].toNat : Nat) : Int) = 32 := by rw [hat1]; exact q1
        have ed : isDbl s = false := by
          rw [HCx.out]
          rw [d1n, decide_eq_false q0, decide_eq_true q1]; rfl
        by_cases gs : 0 ≤ ix
        · have dg : decide (0 ≤ ix) = true := decide_eq_true gs
          have hv : signV s = .tuple #[.agg (tkv 4 (s.extract 0 1)), .int .i64 1, .int .i64 0] := by unfold signV; rw [ed, if_neg (by decide), HIx.out, dg]; rfl
          rw [hv]
          unfold tkv
          have b1 : (1 : Int) ≤ (s.size : Int) := by omega
          have b1n : 1 ≤ s.size := h0
          clear hv ed gs hat hat1 HIx HCx
          go_enter Tryd.func40, Tryd.ntmps40
          go_upto_region 1 with fail
          rw [← HW.out]
          clear HW
          go_wp2_with fail
          with_reducible refine (HI.out _).mono ?_
          rintro e w3 ⟨rfl, rfl⟩
          have hS := set7 (v0 := .int .i64 4) (v1 := .string (s.extract 0 1)) (v2 := .bool false) (v3 := .string ⟨#[]⟩) (v4 := .int .i64 0) (v5 := .int .i64 0) (v6 := .int .i64 0) HR.out (Nat.le_refl _) HB.out
          have HS := Lib.hid hS
          obtain ⟨_, y0, y1, y2, y3, y4, y5, y6⟩ := row7 HR.out
          clear hS HR HB
          go_wp2_with fail
          refine bodyPost_ret (results_row_tmp2 rfl _ _ w.heap.size _ _ _ _ rfl HS.out.1 Tryd.underlying30 rfl (by kernel_rfl)) rfl ⟨rfl, HS.out.2⟩
        · have dg : decide (0 ≤ ix) = false := decide_eq_false gs
          have hv : signV s = .tuple #[.agg (tkv 0 ⟨#[]⟩), .int .i64 0, .int .i64 2] := by unfold signV; rw [ed, if_neg (by decide), HIx.out, dg]; rfl
          rw [hv]
          unfold tkv
          have b1 : (1 : Int) ≤ (s.size : Int) := by omega
          have b1n : 1 ≤ s.size := h0
          clear hv ed gs hat hat1 HIx HCx
          go_enter Tryd.func40, Tryd.ntmps40
          go_upto_region 1 with fail
          rw [← HW.out]
          clear HW
          go_wp2_with fail
          with_reducible refine (HI.out _).mono ?_
          rintro e w3 ⟨rfl, rfl⟩
          have hS := set7 (v0 := .int .i64 0) (v1 := .string ⟨#[]⟩) (v2 := .bool false) (v3 := .string ⟨#[]⟩) (v4 := .int .i64 0) (v5 := .int .i64 0) (v6 := .int .i64 0) HR.out (Nat.le_refl _) HB.out
          have HS := Lib.hid hS
          obtain ⟨_, y0, y1, y2, y3, y4, y5, y6⟩ := row7 HR.out
          clear hS HR HB
          go_wp2_with fail
          refine bodyPost_ret (results_row_tmp2 rfl _ _ w.heap.size _ _ _ _ rfl HS.out.1 Tryd.underlying30 rfl (by kernel_rfl)) rfl ⟨rfl, HS.out.2⟩
      · have m1 : ¬ ((s[1].toNat : Nat) : Int) = 32 := by rw [hat1]; exact q1
        have o1 : (((s[1].toNat : Nat) : Int) != 32) = true := bne_iff_ne.2 m1
        have b2 : (2 : Int) ≤ (s.size : Int) := by omega
        have b2n : 2 ≤ s.size := h1
        cases cx with
        | false =>
          have ed : isDbl s = false := by
            rw [HCx.out]
            rw [Bool.and_false]
          by_cases gs : 0 ≤ ix
          · have dg : decide (0 ≤ ix) = true := decide_eq_true gs
            have hv : signV s = .tuple #[.agg (tkv 4 (s.extract 0 1)), .int .i64 1, .int .i64 0] := by unfold signV; rw [ed, if_neg (by decide), HIx.out, dg]; rfl
            rw [hv]
            unfold tkv
            have b1 : (1 : Int) ≤ (s.size : Int) := by omega
            have b1n : 1 ≤ s.size := h0
            clear hv ed gs hat hat1 HIx HCx
            go_enter Tryd.func40, Tryd.ntmps40
            go_upto_region 1 with fail
            rw [← HW.out]
            clear HW
            go_wp2_with fail
            with_reducible refine (HC.out _ HMx.out).mono ?_
            rintro e w2 ⟨rfl, rfl⟩
            go_wp2_with fail
            with_reducible refine (HI.out _).mono ?_
            rintro e w3 ⟨rfl, rfl⟩
            have hS := set7 (v0 := .int .i64 4) (v1 := .string (s.extract 0 1)) (v2 := .bool false) (v3 := .string ⟨#[]⟩) (v4 := .int .i64 0) (v5 := .int .i64 0) (v6 := .int .i64 0) HR.out (Nat.le_refl _) HB.out
            have HS := Lib.hid hS
            obtain ⟨_, y0, y1, y2, y3, y4, y5, y6⟩ := row7 HR.out
            clear hS HR HB
            go_wp2_with fail
            refine bodyPost_ret (results_row_tmp2 rfl _ _ w.heap.size _ _ _ _ rfl HS.out.1 Tryd.underlying30 rfl (by kernel_rfl)) rfl ⟨rfl, HS.out.2⟩
          · have dg : decide (0 ≤ ix) = false := decide_eq_false gs
            have hv : signV s = .tuple #[.agg (tkv 0 ⟨#[]⟩), .int .i64 0, .int .i64 2] := by unfold signV; rw [ed, if_neg (by decide), HIx.out, dg]; rfl
            rw [hv]
            unfold tkv
            have b1 : (1 : Int) ≤ (s.size : Int) := by omega
            have b1n : 1 ≤ s.size := h0
            clear hv ed gs hat hat1 HIx HCx
            go_enter Tryd.func40, Tryd.ntmps40
            go_upto_region 1 with fail
            rw [← HW.out]
            clear HW
            go_wp2_with fail
            with_reducible refine (HC.out _ HMx.out).mono ?_
            rintro e w2 ⟨rfl, rfl⟩
            go_wp2_with fail
            with_reducible refine (HI.out _).mono ?_
            rintro e w3 ⟨rfl, rfl⟩
            have hS := set7 (v0 := .int .i64 0) (v1 := .string ⟨#[]⟩) (v2 := .bool false) (v3 := .string ⟨#[]⟩) (v4 := .int .i64 0) (v5 := .int .i64 0) (v6 := .int .i64 0) HR.out (Nat.le_refl _) HB.out
            have HS := Lib.hid hS
            obtain ⟨_, y0, y1, y2, y3, y4, y5, y6⟩ := row7 HR.out
            clear hS HR HB
            go_wp2_with fail
            refine bodyPost_ret (results_row_tmp2 rfl _ _ w.heap.size _ _ _ _ rfl HS.out.1 Tryd.underlying30 rfl (by kernel_rfl)) rfl ⟨rfl, HS.out.2⟩
        | true =>
          have ed : isDbl s = true := by rw [HCx.out, d1n, decide_eq_false q0, decide_eq_false q1]; rfl
          have hv : signV s = .tuple #[.agg (tkv 4 (s.extract 0 2)), .int .i64 2, .int .i64 0] := by unfold signV; rw [ed]; rfl
          rw [hv]
          unfold tkv
          clear hv ed hat hat1 HIx HCx HI
          go_enter Tryd.func40, Tryd.ntmps40
          go_upto_region 1 with fail
          rw [← HW.out]
          clear HW
          go_wp2_with fail
          with_reducible refine (HC.out _ HMx.out).mono ?_
          rintro e w2 ⟨rfl, rfl⟩
          have hS := set7 (v0 := .int .i64 4) (v1 := .string (s.extract 0 2)) (v2 := .bool false) (v3 := .string ⟨#[]⟩) (v4 := .int .i64 0) (v5 := .int .i64 0) (v6 := .int .i64 0) HR.out (Nat.le_refl _) HB.out
          have HS := Lib.hid hS
          obtain ⟨_, y0, y1, y2, y3, y4, y5, y6⟩ := row7 HR.out
          clear hS HR HB
          go_wp2_with fail
          refine bodyPost_ret (results_row_tmp2 rfl _ _ w.heap.size _ _ _ _ rfl HS.out.1 Tryd.underlying30 rfl (by kernel_rfl)) rfl ⟨rfl, HS.out.2⟩
  · have d1 : decide ((1 : Int) < (s.size : Int)) = false := decide_eq_false (by omega)
    have d1n : decide (1 < s.size) = false := decide_eq_false h1
    have ed : isDbl s = false := by
      rw [HCx.out]
      rw [d1n]; rfl
    by_cases gs : 0 ≤ ix
    · have dg : decide (0 ≤ ix) = true := decide_eq_true gs
      have hv : signV s = .tuple #[.agg (tkv 4 (s.extract 0 1)), .int .i64 1, .int .i64 0] := by unfold signV; rw [ed, if_neg (by decide), HIx.out, dg]; rfl
      rw [hv]
      unfold tkv
      have b1 : (1 : Int) ≤ (s.size : Int) := by omega
      have b1n : 1 ≤ s.size := h0
      clear hv ed gs hat HIx HCx
      go_enter Tryd.func40, Tryd.ntmps40
      go_upto_region 1 with fail
      rw [← HW.out]
      clear HW
      go_wp2_with fail
      with_reducible refine (HI.out _).mono ?_
      rintro e w3 ⟨rfl, rfl⟩
      have hS := set7 (v0 := .int .i64 4) (v1 := .string (s.extract 0 1)) (v2 := .bool false) (v3 := .string ⟨#[]⟩) (v4 := .int .i64 0) (v5 := .int .i64 0) (v6 := .int .i64 0) HR.out (Nat.le_refl _) HB.out
      have HS := Lib.hid hS
      obtain ⟨_, y0, y1, y2, y3, y4, y5, y6⟩ := row7 HR.out
      clear hS HR HB
      go_wp2_with fail
      refine bodyPost_ret (results_row_tmp2 rfl _ _ w.heap.size _ _ _ _ rfl HS.out.1 Tryd.underlying30 rfl (by kernel_rfl)) rfl ⟨rfl, HS.out.2⟩
    · have dg : decide (0 ≤ ix) = false := decide_eq_false gs
      have hv : signV s = .tuple #[.agg (tkv 0 ⟨#[]⟩), .int .i64 0, .int .i64 2] := by unfold signV; rw [ed, if_neg (by decide), HIx.out, dg]; rfl
      rw [hv]
      unfold tkv
      have b1 : (1 : Int) ≤ (s.size : Int) := by omega
      have b1n : 1 ≤ s.size := h0
      clear hv ed gs hat HIx HCx
      go_enter Tryd.func40, Tryd.ntmps40
      go_upto_region 1 with fail
      rw [← HW.out]
      clear HW
      go_wp2_with fail
      with_reducible refine (HI.out _).mono ?_
      rintro e w3 ⟨rfl, rfl⟩
      have hS := set7 (v0 := .int .i64 0) (v1 := .string ⟨#[]⟩) (v2 := .bool false) (v3 := .string ⟨#[]⟩) (v4 := .int .i64 0) (v5 := .int .i64 0) (v6 := .int .i64 0) HR.out (Nat.le_refl _) HB.out
      have HS := Lib.hid hS
      obtain ⟨_, y0, y1, y2, y3, y4, y5, y6⟩ := row7 HR.out
      clear hS HR HB
      go_wp2_with fail
      refine bodyPost_ret (results_row_tmp2 rfl _ _ w.heap.size _ _ _ _ rfl HS.out.1 Tryd.underlying30 rfl (by kernel_rfl)) rfl ⟨rfl, HS.out.2⟩
end Go.Proofs.YtkifndecpbphbaaDoor.dk
