/- Are two lists of parts the same? -/
import Derived.Test.YtebhbcbcnjdgjaaDoorW
namespace Go.Proofs.YtebhbcbcnjdgjaaDoor.dk
open Go.PlainAid Go.ChangeShapes Go.WideShapes Go.ChangeAt Go.RowKit

set_option maxHeartbeats 8000000 in
set_option maxRecDepth 100000 in
theorem Same_any (w : World) (n c m d : Nat) (p q : Option Addr) (la lb : List Pt) (ha : RdP w p n la) (hb : RdP w q m lb) (hnm : n = m) (hn : n ≤ 40) (b : Bool) (hbb : b = true ↔ la = lb) :
    Calls Tryd.prog 17 #[.slice p n c, .slice q m d] w fun e w' => e = .returned (.bool b) ∧ ∃ y, w' = w.drewN y := by
  subst hnm
  have HRa := Lib.hid ha
  have HRb := Lib.hid hb
  have HBb := Lib.hid hbb
  have HN := Lib.hid hn
  clear ha hb hbb hn
  go_enter Tryd.func17, Tryd.ntmps17
  go_wp2_with fail
  go_loopw [5] (fun v wr => ∃ (j y : Nat), v = .int .i64 j ∧ j ≤ n ∧ wr = w.drewN y ∧ Hid (la.take j = lb.take j)) (fun v _ => n - (intOf v).toNat)
  case atStart => exact ⟨0, 0, rfl, Nat.zero_le _, rfl, Lib.hid rfl⟩
  case round =>
    obtain ⟨j, y, rfl, hj, rfl, HI⟩ := hrel
    by_cases hjn : j < n
    · have dj : decide ((j : Int) < (n : Int)) = true := decide_eq_true (by omega)
      have djn : decide (j < n) = true := decide_eq_true hjn
      have hnn := HN.out
      obtain ⟨hlen1, hc1⟩ := HRa.out
      obtain ⟨hlen2, hc2⟩ := HRb.out
      obtain ⟨g1, off1, rfl, hg1, hd1⟩ := hc1 (by omega)
      obtain ⟨g2, off2, rfl, hg2, hd2⟩ := hc2 (by omega)
      have h1 := hd1 j hjn
      have h2 := hd2 j hjn
      obtain ⟨q1, hq1⟩ : ∃ q, la.getD j default = q := ⟨_, rfl⟩
      obtain ⟨q2, hq2⟩ : ∃ q, lb.getD j default = q := ⟨_, rfl⟩
      rw [hq1] at h1
      rw [hq2] at h2
      obtain ⟨k1, x1, neg1, dg1, ex1, s1, i1⟩ := q1
      obtain ⟨k2, x2, neg2, dg2, ex2, s2, i2⟩ := q2
      have a0 := h1 0 (by omega)
      have a1 := h1 1 (by omega)
      have a2 := h1 2 (by omega)
      have a3 := h1 3 (by omega)
      have a4 := h1 4 (by omega)
      have a5 := h1 5 (by omega)
      have a6 := h1 6 (by omega)
      have b0 := h2 0 (by omega)
      have b1 := h2 1 (by omega)
      have b2 := h2 2 (by omega)
      have b3 := h2 3 (by omega)
      have b4 := h2 4 (by omega)
      have b5 := h2 5 (by omega)
      have b6 := h2 6 (by omega)
      unfold parr at a0 a1 a2 a3 a4 a5 a6 b0 b1 b2 b3 b4 b5 b6
      simp at a0 a1 a2 a3 a4 a5 a6 b0 b1 b2 b3 b4 b5 b6
      have hne : (⟨k1, x1, neg1, dg1, ex1, s1, i1⟩ : Pt) ≠ ⟨k2, x2, neg2, dg2, ex2, s2, i2⟩ → b = false := fun h => by
        cases b with
        | false => rfl
        | true => exact absurd (by rw [← hq1, ← hq2, HBb.out.1 rfl]) h
      have heq : (⟨k1, x1, neg1, dg1, ex1, s1, i1⟩ : Pt) = ⟨k2, x2, neg2, dg2, ex2, s2, i2⟩ → la.take (j + 1) = lb.take (j + 1) := fun h => by
        rw [take_get la j (by omega), take_get lb j (by omega), HI.out, hq1, hq2, h]
      have HNe := Lib.hid hne
      have HEq := Lib.hid heq
      clear hne heq h1 h2 hd1 hd2 hc1 hc2 hlen1 hlen2 hq1 hq2 hg1 hg2
      by_cases h : k1 = k2
      · subst h
        by_cases h : x1 = x2
        · subst h
          by_cases h : neg1 = neg2
          · subst h
            by_cases h : dg1 = dg2
            · subst h
              by_cases h : ex1 = ex2
              · subst h
                by_cases h : s1 = s2
                · subst h
                  by_cases h : i1 = i2
                  · subst h
                    go_upto_region 6 with fail
                    go_quiet (fail)
                    go_wp2_with fail
                    exact ⟨⟨j + 1, _, by go_num, by omega, by first | exact World.drewN_drewN | exact World.drewN_drewN _ | exact World.drewN_drewN _ _ | exact World.drewN_drewN _ _ _ | rfl, Lib.hid (HEq.out rfl)⟩, by show n - ((j : Int) + 1).toNat < n - (j : Int).toNat; omega⟩
                  · have HB := Lib.hid (HNe.out (fun e => h (by cases e; rfl)))
                    clear HNe HEq
                    have f : (i1 == i2) = false := beq_eq_false_iff_ne.2 h
                    go_upto_region 6 with fail
                    go_quiet (fail)
                    go_wp2_with fail
                    go_ret
                    exact ⟨by rw [HB.out]; rfl, _, by first | exact World.drewN_drewN | exact World.drewN_drewN _ | exact World.drewN_drewN _ _ | exact World.drewN_drewN _ _ _ | rfl⟩
                · have HB := Lib.hid (HNe.out (fun e => h (by cases e; rfl)))
                  clear HNe HEq
                  have f : (s1.toList == s2.toList) = false := by
                    rw [beq_eq_false_iff_ne]
                    intro e
                    rw [ByteArray.toList_eq, ByteArray.toList_eq] at e
                    exact h (ByteArray.ext (Array.toList_inj.1 e))
                  go_upto_region 6 with fail
                  go_quiet (fail)
                  go_wp2_with fail
                  go_ret
                  exact ⟨by rw [HB.out]; rfl, _, by first | exact World.drewN_drewN | exact World.drewN_drewN _ | exact World.drewN_drewN _ _ | exact World.drewN_drewN _ _ _ | rfl⟩
              · have HB := Lib.hid (HNe.out (fun e => h (by cases e; rfl)))
                clear HNe HEq
                have f : (ex1 == ex2) = false := beq_eq_false_iff_ne.2 h
                go_upto_region 6 with fail
                go_quiet (fail)
                go_wp2_with fail
                go_ret
                exact ⟨by rw [HB.out]; rfl, _, by first | exact World.drewN_drewN | exact World.drewN_drewN _ | exact World.drewN_drewN _ _ | exact World.drewN_drewN _ _ _ | rfl⟩
            · have HB := Lib.hid (HNe.out (fun e => h (by cases e; rfl)))
              clear HNe HEq
              have f : (dg1.toList == dg2.toList) = false := by
                rw [beq_eq_false_iff_ne]
                intro e
                rw [ByteArray.toList_eq, ByteArray.toList_eq] at e
                exact h (ByteArray.ext (Array.toList_inj.1 e))
              go_upto_region 6 with fail
              go_quiet (fail)
              go_wp2_with fail
              go_ret
              exact ⟨by rw [HB.out]; rfl, _, by first | exact World.drewN_drewN | exact World.drewN_drewN _ | exact World.drewN_drewN _ _ | exact World.drewN_drewN _ _ _ | rfl⟩
          · have HB := Lib.hid (HNe.out (fun e => h (by cases e; rfl)))
            clear HNe HEq
            cases neg1 <;> cases neg2 <;> first | exact absurd rfl h | skip
            all_goals clear h
            · go_upto_region 6 with fail
              go_quiet (fail)
              go_wp2_with fail
              go_ret
              exact ⟨by rw [HB.out]; rfl, _, by first | exact World.drewN_drewN | exact World.drewN_drewN _ | exact World.drewN_drewN _ _ | exact World.drewN_drewN _ _ _ | rfl⟩
            · go_upto_region 6 with fail
              go_quiet (fail)
              go_wp2_with fail
              go_ret
              exact ⟨by rw [HB.out]; rfl, _, by first | exact World.drewN_drewN | exact World.drewN_drewN _ | exact World.drewN_drewN _ _ | exact World.drewN_drewN _ _ _ | rfl⟩
        · have HB := Lib.hid (HNe.out (fun e => h (by cases e; rfl)))
          clear HNe HEq
          cases x1 <;> cases x2 <;> first | exact absurd rfl h | skip
          all_goals clear h
          · go_upto_region 6 with fail
            go_quiet (fail)
            go_wp2_with fail
            go_ret
            exact ⟨by rw [HB.out]; rfl, _, by first | exact World.drewN_drewN | exact World.drewN_drewN _ | exact World.drewN_drewN _ _ | exact World.drewN_drewN _ _ _ | rfl⟩
          · go_upto_region 6 with fail
            go_quiet (fail)
            go_wp2_with fail
            go_ret
            exact ⟨by rw [HB.out]; rfl, _, by first | exact World.drewN_drewN | exact World.drewN_drewN _ | exact World.drewN_drewN _ _ | exact World.drewN_drewN _ _ _ | rfl⟩
      · have HB := Lib.hid (HNe.out (fun e => h (by cases e; rfl)))
        clear HNe HEq
        have f : (k1 == k2) = false := beq_eq_false_iff_ne.2 h
        go_upto_region 6 with fail
        go_quiet (fail)
        go_wp2_with fail
        go_ret
        exact ⟨by rw [HB.out]; rfl, _, by first | exact World.drewN_drewN | exact World.drewN_drewN _ | exact World.drewN_drewN _ _ | exact World.drewN_drewN _ _ _ | rfl⟩
    · have dj : decide ((j : Int) < (n : Int)) = false := decide_eq_false (by omega)
      have djn : decide (j < n) = false := decide_eq_false hjn
      obtain rfl : j = n := by omega
      have e : la = lb := by
        have h := HI.out
        rw [← HRa.out.1, List.take_length] at h
        rw [h, HRa.out.1, ← HRb.out.1, List.take_length]
      have HB := Lib.hid (HBb.out.2 e)
      clear e
      go_wp2_with fail
      go_ret
      exact ⟨by rw [HB.out]; rfl, _, rfl⟩
end Go.Proofs.YtebhbcbcnjdgjaaDoor.dk
