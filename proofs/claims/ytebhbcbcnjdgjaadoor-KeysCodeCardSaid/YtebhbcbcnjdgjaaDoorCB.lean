/- May a number, may a part be: the document's answers. -/
import Derived.Test.YtebhbcbcnjdgjaaDoorCA
namespace Go.Proofs.YtebhbcbcnjdgjaaDoor.dk
open Go.PlainAid Go.ChangeShapes Go.WideShapes Go.ChangeAt Go.RowKit

set_option maxHeartbeats 1000000 in
theorem digit_any (w : World) (x : Int) : Calls Tryd.prog 48 #[.int .u8 x] w fun e w' => e = .returned (.bool (isDig x)) ∧ w' = w := by
  by_cases h1 : 48 ≤ x
  · have f1 : decide (48 ≤ x) = true := decide_eq_true h1
    by_cases h2 : x ≤ 57
    · have f2 : decide (x ≤ 57) = true := decide_eq_true h2
      have e : Hid (isDig x = true) := by show isDig x = true; unfold isDig; rw [f1, f2]; rfl
      go_enter Tryd.func48, Tryd.ntmps48
      go_wp2_with fail
      go_ret
      exact ⟨by rw [e.out]; rfl, rfl⟩
    · have f2 : decide (x ≤ 57) = false := decide_eq_false h2
      have e : Hid (isDig x = false) := by show isDig x = false; unfold isDig; rw [f2, Bool.and_false]
      go_enter Tryd.func48, Tryd.ntmps48
      go_wp2_with fail
      go_ret
      exact ⟨by rw [e.out]; rfl, rfl⟩
  · have f1 : decide (48 ≤ x) = false := decide_eq_false h1
    have e : Hid (isDig x = false) := by show isDig x = false; unfold isDig; rw [f1, Bool.false_and]
    go_enter Tryd.func48, Tryd.ntmps48
    go_wp2_with fail
    go_ret
    exact ⟨by rw [e.out]; rfl, rfl⟩
theorem dsane_eq (neg : Bool) (l : List Int) (ex : Int) (h0 : l.length ≠ 0) (hd : ∀ i, i < l.length → isDig (l.getD i 0) = true) :
    dsane neg l ex = (decide (l.length ≤ 40) && decide (-1000 ≤ ex) && decide (ex ≤ 1000) && decide (-400 ≤ (l.length : Int) + ex) && decide ((l.length : Int) + ex ≤ 400) && !decide (l.getD 0 0 = 48) && !decide (l.getD (l.length - 1) 0 = 48)) := by
  have ha : l.all isDig = true := by
    rw [List.all_eq_true]
    intro x hx
    obtain ⟨i, hi, rfl⟩ := List.getElem_of_mem hx
    have := hd i hi
    rw [List.getD_eq_getElem?_getD, List.getElem?_eq_getElem hi] at this
    exact this
  unfold dsane
  rw [if_neg h0, ha]
  by_cases h40 : l.length ≤ 40
  · have e1 : decide (-400 - (l.length : Int) ≤ ex) = decide (-400 ≤ (l.length : Int) + ex) := by rw [decide_eq_decide]; omega
    have e2 : decide (ex ≤ 400 - (l.length : Int)) = decide ((l.length : Int) + ex ≤ 400) := by rw [decide_eq_decide]; omega
    rw [e1, e2]
    by_cases a1 : -400 ≤ (l.length : Int) + ex
    · by_cases a2 : (l.length : Int) + ex ≤ 400
      · have b1 : decide (-1000 ≤ ex) = true := decide_eq_true (by omega)
        have b2 : decide (ex ≤ 1000) = true := decide_eq_true (by omega)
        rw [b1, b2, decide_eq_true a1, decide_eq_true a2]
        simp
      · rw [decide_eq_false a2]; simp
    · rw [decide_eq_false a1]; simp
  · rw [decide_eq_false h40]; simp
theorem dsane_not (neg : Bool) (l : List Int) (ex : Int) {i : Nat} (hi : i < l.length) (hd : isDig (l.getD i 0) = false) : dsane neg l ex = false := by
  have ha : l.all isDig = false := by
    rw [List.all_eq_false]
    refine ⟨l.getD i 0, ?_, by rw [hd]; decide⟩
    rw [List.getD_eq_getElem?_getD, List.getElem?_eq_getElem hi]
    exact List.getElem_mem _
  unfold dsane
  rw [if_neg (by omega), ha]
  simp
set_option maxHeartbeats 4000000 in
set_option maxRecDepth 100000 in
theorem Sane_ref (w : World) (neg : Bool) (dg : ByteArray) (ex : Int) (hs : dg.size ≤ 1000000000) :
    Calls Tryd.prog 36 #[.agg #[.bool neg, .string dg, .int .i64 ex]] w fun e w' => e = .returned (.bool (dsane neg (unstr dg) ex)) ∧ Below w.heap.size w w' := by
  have hlen := unstr_length dg
  by_cases h0 : dg.size = 0
  · obtain rfl := ba_nil h0
    have e : Hid (dsane neg (unstr ⟨#[]⟩) ex = (!neg && decide (ex = 0))) := rfl
    have hb : Below w.heap.size w (w.alloc (.cells #[.bool neg, .string ⟨#[]⟩, .int .i64 ex] 25)) := (Below.refl _ _).alloc (Nat.le_refl _) _
    cases neg with
    | true =>
      go_enter Tryd.func36, Tryd.ntmps36
      go_wp2_with fail
      go_ret
      exact ⟨by rw [e.out]; rfl, hb⟩
    | false =>
      by_cases hx : ex = 0
      · subst hx
        go_enter Tryd.func36, Tryd.ntmps36
        go_wp2_with fail
        go_ret
        exact ⟨by rw [e.out]; rfl, hb⟩
      · have ee : (!false && decide (ex = 0)) = false := by simp [hx]
        have dx : (ex == 0) = false := beq_eq_false_iff_ne.2 hx
        go_enter Tryd.func36, Tryd.ntmps36
        go_wp2_with fail
        go_ret
        exact ⟨by rw [e.out, ee]; rfl, hb⟩
  · have dz : (((dg.size : Nat) : Int) == 0) = false := beq_eq_false_iff_ne.2 (by omega)
    have dzn : (dg.size == 0) = false := beq_eq_false_iff_ne.2 h0
    have hb : Below w.heap.size w (w.alloc (.cells #[.bool neg, .string dg, .int .i64 ex] 25)) := (Below.refl _ _).alloc (Nat.le_refl _) _
    have hrow := heap_alloc_new w (.cells #[.bool neg, .string dg, .int .i64 ex] 25)
    obtain ⟨wb, hwb⟩ : ∃ wb, wb = w.alloc (.cells #[.bool neg, .string dg, .int .i64 ex] 25) := ⟨_, rfl⟩
    rw [← hwb] at hb hrow
    have k0 := cell_of_row _ _ 0 _ _ _ hrow
    have k1 := cell_of_row _ _ 1 _ _ _ hrow
    have k2 := cell_of_row _ _ 2 _ _ _ hrow
    simp at k0 k1 k2
    have HB := Lib.hid hb
    have HL := Lib.hid hlen
    have HW := Lib.hid hwb
    have HBy := Lib.hid (byte_at dg)
    clear hb hrow hlen hwb
    go_enter Tryd.func36, Tryd.ntmps36
    go_wp2_with fail
    go_loopw [4] (fun v wr => ∃ j : Nat, v = .int .i64 (j : Int) ∧ j ≤ dg.size ∧ wr = wb ∧ Hid (∀ i, i < j → isDig ((unstr dg).getD i 0) = true)) (fun v _ => dg.size - (intOf v).toNat)
    case atStart => exact ⟨0, rfl, Nat.zero_le _, HW.out.symm, Lib.hid fun i hi => absurd hi (by omega)⟩
    case round =>
      obtain ⟨j, rfl, hj, rfl, HJ⟩ := hrel
      by_cases hjn : j < dg.size
      · have dj : decide ((j : Int) < (dg.size : Int)) = true := decide_eq_true (by omega)
        have djn : decide (j < dg.size) = true := decide_eq_true hjn
        go_wp2_with fail
        with_reducible refine (digit_any _ _).mono ?_
        rintro e w1 ⟨rfl, rfl⟩
        rw [HBy.out j hjn]
        cases hd : isDig ((unstr dg).getD j 0) with
        | true =>
          have HJ2 : Hid (∀ i, i < j + 1 → isDig ((unstr dg).getD i 0) = true) := Lib.hid fun i hi => by
            by_cases hij : i = j
            · rw [hij]; exact hd
            · exact HJ.out i (by omega)
          clear hd HJ
          go_wp2_with fail
          exact ⟨⟨j + 1, by go_num, by omega, trivial, HJ2⟩, by show dg.size - ((j : Int) + 1).toNat < dg.size - (j : Int).toNat; omega⟩
        | false =>
          have e : Hid (dsane neg (unstr dg) ex = false) := Lib.hid (dsane_not neg (unstr dg) ex (by rw [HL.out]; exact hjn) hd)
          clear hd HJ
          go_wp2_with fail
          go_ret
          exact ⟨by rw [e.out]; rfl, HB.out⟩
      · have dj : decide ((j : Int) < (dg.size : Int)) = false := decide_eq_false (by omega)
        have djn : decide (j < dg.size) = false := decide_eq_false hjn
        obtain rfl : j = dg.size := by omega
        have hE := dsane_eq neg (unstr dg) ex (by rw [HL.out]; exact h0) (by rw [HL.out]; exact HJ.out)
        rw [HL.out] at hE
        have b0 := HBy.out 0 (by omega)
        have bl := HBy.out (dg.size - 1) (by omega)
        have h0' : 0 < dg.size := by omega
        have hL' : dg.size - 1 < dg.size := by omega
        have ws : IntKind.i64.wrap (((dg.size : Nat) : Int) - 1) = ((dg.size - 1 : Nat) : Int) := by rw [IntKind.wrap_i64]; omega
        rw [← b0, ← bl] at hE
        have E := Lib.hid hE
        clear hE b0 bl HJ HBy HL
        by_cases c0 : dg.size ≤ 40
        · have d00 : decide ((dg.size : Int) ≤ 40) = true := decide_eq_true (by omega)
          have d01 : decide (dg.size ≤ 40) = true := decide_eq_true (by omega)
          by_cases c1 : -1000 ≤ ex
          · have d10 : decide (-1000 ≤ ex) = true := decide_eq_true (by omega)
            by_cases c2 : ex ≤ 1000
            · have d20 : decide (ex ≤ 1000) = true := decide_eq_true (by omega)
              have ws2 : IntKind.i64.wrap ((dg.size : Int) + ex) = (dg.size : Int) + ex := by rw [IntKind.wrap_i64]; omega
              by_cases c3 : -400 ≤ (dg.size : Int) + ex
              · have d30 : decide (-400 ≤ (dg.size : Int) + ex) = true := decide_eq_true (by omega)
                by_cases c4 : (dg.size : Int) + ex ≤ 400
                · have d40 : decide ((dg.size : Int) + ex ≤ 400) = true := decide_eq_true (by omega)
                  by_cases c5 : ((dg[0].toNat : Nat) : Int) = 48
                  · have d5 : (((dg[0].toNat : Nat) : Int) == 48) = true := beq_iff_eq.2 c5
                    have e : Hid (dsane neg (unstr dg) ex = false) := Lib.hid (by rw [E.out]; simp [c0, c1, c2, c3, c4, c5])
                    clear E
                    go_wp2_with fail
                    go_ret
                    exact ⟨by rw [e.out]; rfl, HB.out⟩
                  · have d5 : (((dg[0].toNat : Nat) : Int) == 48) = false := beq_eq_false_iff_ne.2 c5
                    have n5 : (((dg[0].toNat : Nat) : Int) != 48) = true := bne_iff_ne.2 c5
                    by_cases c6 : ((dg[dg.size - 1].toNat : Nat) : Int) = 48
                    · have d6 : (((dg[dg.size - 1].toNat : Nat) : Int) == 48) = true := beq_iff_eq.2 c6
                      have e : Hid (dsane neg (unstr dg) ex = false) := Lib.hid (by rw [E.out]; simp [c0, c1, c2, c3, c4, c5, c6])
                      clear E
                      go_wp2_with fail
                      go_ret
                      exact ⟨by rw [e.out]; rfl, HB.out⟩
                    · have d6 : (((dg[dg.size - 1].toNat : Nat) : Int) == 48) = false := beq_eq_false_iff_ne.2 c6
                      have n6 : (((dg[dg.size - 1].toNat : Nat) : Int) != 48) = true := bne_iff_ne.2 c6
                      have e : Hid (dsane neg (unstr dg) ex = true) := Lib.hid (by rw [E.out]; simp [c0, c1, c2, c3, c4, c5, c6])
                      clear E
                      go_wp2_with fail
                      go_ret
                      exact ⟨by rw [e.out]; rfl, HB.out⟩
                · have d40 : decide ((dg.size : Int) + ex ≤ 400) = false := decide_eq_false (by omega)
                  have e : Hid (dsane neg (unstr dg) ex = false) := Lib.hid (by rw [E.out]; simp [c0, c1, c2, c3, c4])
                  clear E
                  go_wp2_with fail
                  go_ret
                  exact ⟨by rw [e.out]; rfl, HB.out⟩
              · have d30 : decide (-400 ≤ (dg.size : Int) + ex) = false := decide_eq_false (by omega)
                have e : Hid (dsane neg (unstr dg) ex = false) := Lib.hid (by rw [E.out]; simp [c0, c1, c2, c3])
                clear E
                go_wp2_with fail
                go_ret
                exact ⟨by rw [e.out]; rfl, HB.out⟩
            · have d20 : decide (ex ≤ 1000) = false := decide_eq_false (by omega)
              have e : Hid (dsane neg (unstr dg) ex = false) := Lib.hid (by rw [E.out]; simp [c0, c1, c2])
              clear E
              go_wp2_with fail
              go_ret
              exact ⟨by rw [e.out]; rfl, HB.out⟩
          · have d10 : decide (-1000 ≤ ex) = false := decide_eq_false (by omega)
            have e : Hid (dsane neg (unstr dg) ex = false) := Lib.hid (by rw [E.out]; simp [c0, c1])
            clear E
            go_wp2_with fail
            go_ret
            exact ⟨by rw [e.out]; rfl, HB.out⟩
        · have d00 : decide ((dg.size : Int) ≤ 40) = false := decide_eq_false (by omega)
          have d01 : decide (dg.size ≤ 40) = false := decide_eq_false (by omega)
          have e : Hid (dsane neg (unstr dg) ex = false) := Lib.hid (by rw [E.out]; simp [c0])
          clear E
          go_wp2_with fail
          go_ret
          exact ⟨by rw [e.out]; rfl, HB.out⟩
end Go.Proofs.YtebhbcbcnjdgjaaDoor.dk
