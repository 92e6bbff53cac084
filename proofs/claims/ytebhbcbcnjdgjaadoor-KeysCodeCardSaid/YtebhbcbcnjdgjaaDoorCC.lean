/- May a part be: the document's answer. -/
import Derived.Test.YtebhbcbcnjdgjaaDoorCB
namespace Go.Proofs.YtebhbcbcnjdgjaaDoor.dk
open Go.PlainAid Go.ChangeShapes Go.WideShapes Go.ChangeAt Go.RowKit

set_option maxHeartbeats 4000000 in
set_option maxRecDepth 100000 in
theorem right_0 (w : World) (b neg : Bool) (dg : ByteArray) (ex : Int) (s : ByteArray) (i : Int) (hd : dg.size ≤ 1000000000) :
    Calls Tryd.prog 25 #[.agg #[.int .i64 0, .bool b, .bool neg, .string dg, .int .i64 ex, .string s, .int .i64 i]] w fun e w' => e = .returned (.bool (psane ⟨0, b, neg, dg, ex, s, i⟩)) ∧ Below w.heap.size w w' := by
  cases b with
  | true =>
    have e : Hid (psane _ = false) := show psane ⟨0, true, neg, dg, ex, s, i⟩ = false by simp [psane]
    go_enter Tryd.func25, Tryd.ntmps25
    go_wp2_with fail
    go_ret
    exact ⟨by rw [e.out]; rfl, two_below _ _ _⟩
  | false =>
    cases neg with
    | true =>
      have e : Hid (psane _ = false) := show psane ⟨0, false, true, dg, ex, s, i⟩ = false by simp [psane]
      go_enter Tryd.func25, Tryd.ntmps25
      go_wp2_with fail
      go_ret
      exact ⟨by rw [e.out]; rfl, two_below _ _ _⟩
    | false =>
      by_cases hzdg : dg.size = 0
      · obtain rfl := ba_nil hzdg
        by_cases hzex : ex = 0
        · subst hzex
          by_cases hzs : s.size = 0
          · obtain rfl := ba_nil hzs
            by_cases hzi : i = 0
            · subst hzi
              have HS := Lib.hid (fun (v : World) => Sane_ref v false ⟨#[]⟩ 0 (by first | exact hd | decide))
              rw [show dsane false (unstr ⟨#[]⟩) 0 = true from rfl] at HS
              have e : Hid (psane ⟨0, false, false, ⟨#[]⟩, 0, ⟨#[]⟩, 0⟩ = true) := by show psane _ = _; simp [psane, emptyEq, show dsane false (unstr ⟨#[]⟩) 0 = true from rfl]
              have hr := (two_rows w (.cells #[.int .i64 0, .bool false, .bool false, .string ⟨#[]⟩, .int .i64 0, .string ⟨#[]⟩, .int .i64 0] 46) (.cells #[.bool false, .string ⟨#[]⟩, .int .i64 0] 25)).1
              have hb := two_below w (.cells #[.int .i64 0, .bool false, .bool false, .string ⟨#[]⟩, .int .i64 0, .string ⟨#[]⟩, .int .i64 0] 46) (.cells #[.bool false, .string ⟨#[]⟩, .int .i64 0] 25)
              have Hr := Lib.hid hr
              have Hb := Lib.hid hb
              clear hr hb
              go_enter Tryd.func25, Tryd.ntmps25
              go_wp2_with fail
              have hr := Hr.out
              have hb := Hb.out
              clear Hr Hb
              generalize (w.alloc _).alloc _ = wv at hr hb ⊢
              with_reducible refine (HS.out wv).mono ?_
              clear HS
              rintro e2 w2 ⟨rfl, hb2⟩
              have hr2 := (hb2.block _ (Array.getElem?_eq_some_iff.1 hr).1).trans hr
              have c6 := cell_of_row _ _ 6 _ _ _ hr2
              simp at c6
              have HB := Lib.hid (hb.trans (hb2.mono hb.size))
              clear hr hr2 hb hb2
              go_wp2_with fail
              go_ret
              exact ⟨by rw [e.out]; rfl, HB.out⟩
            · have nei : (i == 0) = false := beq_eq_false_iff_ne.2 hzi
              have e : Hid (psane _ = false) := show psane ⟨0, false, false, ⟨#[]⟩, 0, ⟨#[]⟩, i⟩ = false by simp [psane, hzi]
              go_enter Tryd.func25, Tryd.ntmps25
              go_wp2_with fail
              go_ret
              exact ⟨by rw [e.out]; rfl, two_below _ _ _⟩
          · have nes := not_empty hzs
            have e : Hid (psane _ = false) := show psane ⟨0, false, false, ⟨#[]⟩, 0, s, i⟩ = false by simp [psane, hzs]
            go_enter Tryd.func25, Tryd.ntmps25
            go_wp2_with fail
            go_ret
            exact ⟨by rw [e.out]; rfl, two_below _ _ _⟩
        · have neex : (ex == 0) = false := beq_eq_false_iff_ne.2 hzex
          have e : Hid (psane _ = false) := show psane ⟨0, false, false, ⟨#[]⟩, ex, s, i⟩ = false by simp [psane, hzex]
          go_enter Tryd.func25, Tryd.ntmps25
          go_wp2_with fail
          go_ret
          exact ⟨by rw [e.out]; rfl, two_below _ _ _⟩
      · have nedg := not_empty hzdg
        have e : Hid (psane _ = false) := show psane ⟨0, false, false, dg, ex, s, i⟩ = false by simp [psane, hzdg]
        go_enter Tryd.func25, Tryd.ntmps25
        go_wp2_with fail
        go_ret
        exact ⟨by rw [e.out]; rfl, two_below _ _ _⟩
set_option maxHeartbeats 4000000 in
set_option maxRecDepth 100000 in
theorem right_1 (w : World) (b neg : Bool) (dg : ByteArray) (ex : Int) (s : ByteArray) (i : Int) (hd : dg.size ≤ 1000000000) :
    Calls Tryd.prog 25 #[.agg #[.int .i64 1, .bool b, .bool neg, .string dg, .int .i64 ex, .string s, .int .i64 i]] w fun e w' => e = .returned (.bool (psane ⟨1, b, neg, dg, ex, s, i⟩)) ∧ Below w.heap.size w w' := by
  cases neg with
  | true =>
    have e : Hid (psane _ = false) := show psane ⟨1, b, true, dg, ex, s, i⟩ = false by simp [psane]
    go_enter Tryd.func25, Tryd.ntmps25
    go_wp2_with fail
    go_ret
    exact ⟨by rw [e.out]; rfl, two_below _ _ _⟩
  | false =>
    by_cases hzdg : dg.size = 0
    · obtain rfl := ba_nil hzdg
      by_cases hzex : ex = 0
      · subst hzex
        by_cases hzs : s.size = 0
        · obtain rfl := ba_nil hzs
          by_cases hzi : i = 0
          · subst hzi
            have HS := Lib.hid (fun (v : World) => Sane_ref v false ⟨#[]⟩ 0 (by first | exact hd | decide))
            rw [show dsane false (unstr ⟨#[]⟩) 0 = true from rfl] at HS
            have e : Hid (psane ⟨1, b, false, ⟨#[]⟩, 0, ⟨#[]⟩, 0⟩ = true) := by show psane _ = _; simp [psane, emptyEq, show dsane false (unstr ⟨#[]⟩) 0 = true from rfl]
            have hr := (two_rows w (.cells #[.int .i64 1, .bool b, .bool false, .string ⟨#[]⟩, .int .i64 0, .string ⟨#[]⟩, .int .i64 0] 46) (.cells #[.bool false, .string ⟨#[]⟩, .int .i64 0] 25)).1
            have hb := two_below w (.cells #[.int .i64 1, .bool b, .bool false, .string ⟨#[]⟩, .int .i64 0, .string ⟨#[]⟩, .int .i64 0] 46) (.cells #[.bool false, .string ⟨#[]⟩, .int .i64 0] 25)
            have Hr := Lib.hid hr
            have Hb := Lib.hid hb
            clear hr hb
            go_enter Tryd.func25, Tryd.ntmps25
            go_wp2_with fail
            have hr := Hr.out
            have hb := Hb.out
            clear Hr Hb
            generalize (w.alloc _).alloc _ = wv at hr hb ⊢
            with_reducible refine (HS.out wv).mono ?_
            clear HS
            rintro e2 w2 ⟨rfl, hb2⟩
            have hr2 := (hb2.block _ (Array.getElem?_eq_some_iff.1 hr).1).trans hr
            have c6 := cell_of_row _ _ 6 _ _ _ hr2
            simp at c6
            have HB := Lib.hid (hb.trans (hb2.mono hb.size))
            clear hr hr2 hb hb2
            go_wp2_with fail
            go_ret
            exact ⟨by rw [e.out]; rfl, HB.out⟩
          · have nei : (i == 0) = false := beq_eq_false_iff_ne.2 hzi
            have e : Hid (psane _ = false) := show psane ⟨1, b, false, ⟨#[]⟩, 0, ⟨#[]⟩, i⟩ = false by simp [psane, hzi]
            go_enter Tryd.func25, Tryd.ntmps25
            go_wp2_with fail
            go_ret
            exact ⟨by rw [e.out]; rfl, two_below _ _ _⟩
        · have nes := not_empty hzs
          have e : Hid (psane _ = false) := show psane ⟨1, b, false, ⟨#[]⟩, 0, s, i⟩ = false by simp [psane, hzs]
          go_enter Tryd.func25, Tryd.ntmps25
          go_wp2_with fail
          go_ret
          exact ⟨by rw [e.out]; rfl, two_below _ _ _⟩
      · have neex : (ex == 0) = false := beq_eq_false_iff_ne.2 hzex
        have e : Hid (psane _ = false) := show psane ⟨1, b, false, ⟨#[]⟩, ex, s, i⟩ = false by simp [psane, hzex]
        go_enter Tryd.func25, Tryd.ntmps25
        go_wp2_with fail
        go_ret
        exact ⟨by rw [e.out]; rfl, two_below _ _ _⟩
    · have nedg := not_empty hzdg
      have e : Hid (psane _ = false) := show psane ⟨1, b, false, dg, ex, s, i⟩ = false by simp [psane, hzdg]
      go_enter Tryd.func25, Tryd.ntmps25
      go_wp2_with fail
      go_ret
      exact ⟨by rw [e.out]; rfl, two_below _ _ _⟩
set_option maxHeartbeats 4000000 in
set_option maxRecDepth 100000 in
theorem right_2 (w : World) (b neg : Bool) (dg : ByteArray) (ex : Int) (s : ByteArray) (i : Int) (hd : dg.size ≤ 1000000000) :
    Calls Tryd.prog 25 #[.agg #[.int .i64 2, .bool b, .bool neg, .string dg, .int .i64 ex, .string s, .int .i64 i]] w fun e w' => e = .returned (.bool (psane ⟨2, b, neg, dg, ex, s, i⟩)) ∧ Below w.heap.size w w' := by
  cases b with
  | true =>
    have e : Hid (psane _ = false) := show psane ⟨2, true, neg, dg, ex, s, i⟩ = false by simp [psane]
    go_enter Tryd.func25, Tryd.ntmps25
    go_wp2_with fail
    go_ret
    exact ⟨by rw [e.out]; rfl, two_below _ _ _⟩
  | false =>
    by_cases hzs : s.size = 0
    · obtain rfl := ba_nil hzs
      by_cases hzi : i = 0
      · subst hzi
        have HS := Lib.hid (fun (v : World) => Sane_ref v neg dg ex (by first | exact hd | decide))
        have e : Hid (psane ⟨2, false, neg, dg, ex, ⟨#[]⟩, 0⟩ = dsane neg (unstr dg) ex) := by show psane _ = _; simp [psane, emptyEq]
        generalize dsane neg (unstr dg) ex = ok at HS e
        have hr := (two_rows w (.cells #[.int .i64 2, .bool false, .bool neg, .string dg, .int .i64 ex, .string ⟨#[]⟩, .int .i64 0] 46) (.cells #[.bool false, .string ⟨#[]⟩, .int .i64 0] 25)).1
        have hb := two_below w (.cells #[.int .i64 2, .bool false, .bool neg, .string dg, .int .i64 ex, .string ⟨#[]⟩, .int .i64 0] 46) (.cells #[.bool false, .string ⟨#[]⟩, .int .i64 0] 25)
        have Hr := Lib.hid hr
        have Hb := Lib.hid hb
        clear hr hb
        go_enter Tryd.func25, Tryd.ntmps25
        go_wp2_with fail
        have hr := Hr.out
        have hb := Hb.out
        clear Hr Hb
        generalize (w.alloc _).alloc _ = wv at hr hb ⊢
        with_reducible refine (HS.out wv).mono ?_
        clear HS
        rintro e2 w2 ⟨rfl, hb2⟩
        have hr2 := (hb2.block _ (Array.getElem?_eq_some_iff.1 hr).1).trans hr
        have c6 := cell_of_row _ _ 6 _ _ _ hr2
        simp at c6
        have HB := Lib.hid (hb.trans (hb2.mono hb.size))
        clear hr hr2 hb hb2
        cases ok with
        | true =>
          go_wp2_with fail
          go_ret
          exact ⟨by rw [e.out]; rfl, HB.out⟩
        | false =>
          go_wp2_with fail
          go_ret
          exact ⟨by rw [e.out]; rfl, HB.out⟩
      · have nei : (i == 0) = false := beq_eq_false_iff_ne.2 hzi
        have e : Hid (psane _ = false) := show psane ⟨2, false, neg, dg, ex, ⟨#[]⟩, i⟩ = false by simp [psane, hzi]
        go_enter Tryd.func25, Tryd.ntmps25
        go_wp2_with fail
        go_ret
        exact ⟨by rw [e.out]; rfl, two_below _ _ _⟩
    · have nes := not_empty hzs
      have e : Hid (psane _ = false) := show psane ⟨2, false, neg, dg, ex, s, i⟩ = false by simp [psane, hzs]
      go_enter Tryd.func25, Tryd.ntmps25
      go_wp2_with fail
      go_ret
      exact ⟨by rw [e.out]; rfl, two_below _ _ _⟩
set_option maxHeartbeats 4000000 in
set_option maxRecDepth 100000 in
theorem right_3 (w : World) (b neg : Bool) (dg : ByteArray) (ex : Int) (s : ByteArray) (i : Int) (hd : dg.size ≤ 1000000000) :
    Calls Tryd.prog 25 #[.agg #[.int .i64 3, .bool b, .bool neg, .string dg, .int .i64 ex, .string s, .int .i64 i]] w fun e w' => e = .returned (.bool (psane ⟨3, b, neg, dg, ex, s, i⟩)) ∧ Below w.heap.size w w' := by
  cases b with
  | true =>
    have e : Hid (psane _ = false) := show psane ⟨3, true, neg, dg, ex, s, i⟩ = false by simp [psane]
    go_enter Tryd.func25, Tryd.ntmps25
    go_wp2_with fail
    go_ret
    exact ⟨by rw [e.out]; rfl, two_below _ _ _⟩
  | false =>
    cases neg with
    | true =>
      have e : Hid (psane _ = false) := show psane ⟨3, false, true, dg, ex, s, i⟩ = false by simp [psane]
      go_enter Tryd.func25, Tryd.ntmps25
      go_wp2_with fail
      go_ret
      exact ⟨by rw [e.out]; rfl, two_below _ _ _⟩
    | false =>
      by_cases hzdg : dg.size = 0
      · obtain rfl := ba_nil hzdg
        by_cases hzex : ex = 0
        · subst hzex
          by_cases hzi : i = 0
          · subst hzi
            have HS := Lib.hid (fun (v : World) => Sane_ref v false ⟨#[]⟩ 0 (by first | exact hd | decide))
            rw [show dsane false (unstr ⟨#[]⟩) 0 = true from rfl] at HS
            have e : Hid (psane ⟨3, false, false, ⟨#[]⟩, 0, s, 0⟩ = true) := by show psane _ = _; simp [psane, emptyEq, show dsane false (unstr ⟨#[]⟩) 0 = true from rfl]
            have hr := (two_rows w (.cells #[.int .i64 3, .bool false, .bool false, .string ⟨#[]⟩, .int .i64 0, .string s, .int .i64 0] 46) (.cells #[.bool false, .string ⟨#[]⟩, .int .i64 0] 25)).1
            have hb := two_below w (.cells #[.int .i64 3, .bool false, .bool false, .string ⟨#[]⟩, .int .i64 0, .string s, .int .i64 0] 46) (.cells #[.bool false, .string ⟨#[]⟩, .int .i64 0] 25)
            have Hr := Lib.hid hr
            have Hb := Lib.hid hb
            clear hr hb
            go_enter Tryd.func25, Tryd.ntmps25
            go_wp2_with fail
            have hr := Hr.out
            have hb := Hb.out
            clear Hr Hb
            generalize (w.alloc _).alloc _ = wv at hr hb ⊢
            with_reducible refine (HS.out wv).mono ?_
            clear HS
            rintro e2 w2 ⟨rfl, hb2⟩
            have hr2 := (hb2.block _ (Array.getElem?_eq_some_iff.1 hr).1).trans hr
            have c6 := cell_of_row _ _ 6 _ _ _ hr2
            simp at c6
            have HB := Lib.hid (hb.trans (hb2.mono hb.size))
            clear hr hr2 hb hb2
            go_wp2_with fail
            go_ret
            exact ⟨by rw [e.out]; rfl, HB.out⟩
          · have nei : (i == 0) = false := beq_eq_false_iff_ne.2 hzi
            have e : Hid (psane _ = false) := show psane ⟨3, false, false, ⟨#[]⟩, 0, s, i⟩ = false by simp [psane, hzi]
            go_enter Tryd.func25, Tryd.ntmps25
            go_wp2_with fail
            go_ret
            exact ⟨by rw [e.out]; rfl, two_below _ _ _⟩
        · have neex : (ex == 0) = false := beq_eq_false_iff_ne.2 hzex
          have e : Hid (psane _ = false) := show psane ⟨3, false, false, ⟨#[]⟩, ex, s, i⟩ = false by simp [psane, hzex]
          go_enter Tryd.func25, Tryd.ntmps25
          go_wp2_with fail
          go_ret
          exact ⟨by rw [e.out]; rfl, two_below _ _ _⟩
      · have nedg := not_empty hzdg
        have e : Hid (psane _ = false) := show psane ⟨3, false, false, dg, ex, s, i⟩ = false by simp [psane, hzdg]
        go_enter Tryd.func25, Tryd.ntmps25
        go_wp2_with fail
        go_ret
        exact ⟨by rw [e.out]; rfl, two_below _ _ _⟩
set_option maxHeartbeats 4000000 in
set_option maxRecDepth 100000 in
theorem right_9 (w : World) (b neg : Bool) (dg : ByteArray) (ex : Int) (s : ByteArray) (i : Int) (hd : dg.size ≤ 1000000000) :
    Calls Tryd.prog 25 #[.agg #[.int .i64 9, .bool b, .bool neg, .string dg, .int .i64 ex, .string s, .int .i64 i]] w fun e w' => e = .returned (.bool (psane ⟨9, b, neg, dg, ex, s, i⟩)) ∧ Below w.heap.size w w' := by
  cases b with
  | true =>
    have e : Hid (psane _ = false) := show psane ⟨9, true, neg, dg, ex, s, i⟩ = false by simp [psane]
    go_enter Tryd.func25, Tryd.ntmps25
    go_wp2_with fail
    go_ret
    exact ⟨by rw [e.out]; rfl, two_below _ _ _⟩
  | false =>
    cases neg with
    | true =>
      have e : Hid (psane _ = false) := show psane ⟨9, false, true, dg, ex, s, i⟩ = false by simp [psane]
      go_enter Tryd.func25, Tryd.ntmps25
      go_wp2_with fail
      go_ret
      exact ⟨by rw [e.out]; rfl, two_below _ _ _⟩
    | false =>
      by_cases hzdg : dg.size = 0
      · obtain rfl := ba_nil hzdg
        by_cases hzex : ex = 0
        · subst hzex
          by_cases hzs : s.size = 0
          · obtain rfl := ba_nil hzs
            have HS := Lib.hid (fun (v : World) => Sane_ref v false ⟨#[]⟩ 0 (by first | exact hd | decide))
            rw [show dsane false (unstr ⟨#[]⟩) 0 = true from rfl] at HS
            have e : Hid (psane ⟨9, false, false, ⟨#[]⟩, 0, ⟨#[]⟩, i⟩ = (decide (0 ≤ i) && decide (i ≤ 4294967295))) := by show psane _ = _; simp [psane, emptyEq, show dsane false (unstr ⟨#[]⟩) 0 = true from rfl]
            have hr := (two_rows w (.cells #[.int .i64 9, .bool false, .bool false, .string ⟨#[]⟩, .int .i64 0, .string ⟨#[]⟩, .int .i64 i] 46) (.cells #[.bool false, .string ⟨#[]⟩, .int .i64 0] 25)).1
            have hb := two_below w (.cells #[.int .i64 9, .bool false, .bool false, .string ⟨#[]⟩, .int .i64 0, .string ⟨#[]⟩, .int .i64 i] 46) (.cells #[.bool false, .string ⟨#[]⟩, .int .i64 0] 25)
            have Hr := Lib.hid hr
            have Hb := Lib.hid hb
            clear hr hb
            go_enter Tryd.func25, Tryd.ntmps25
            go_wp2_with fail
            have hr := Hr.out
            have hb := Hb.out
            clear Hr Hb
            generalize (w.alloc _).alloc _ = wv at hr hb ⊢
            with_reducible refine (HS.out wv).mono ?_
            clear HS
            rintro e2 w2 ⟨rfl, hb2⟩
            have hr2 := (hb2.block _ (Array.getElem?_eq_some_iff.1 hr).1).trans hr
            have c6 := cell_of_row _ _ 6 _ _ _ hr2
            simp at c6
            have HB := Lib.hid (hb.trans (hb2.mono hb.size))
            clear hr hr2 hb hb2
            by_cases h1 : 0 ≤ i
            · have f1 : decide (0 ≤ i) = true := decide_eq_true h1
              by_cases h2 : i ≤ 4294967295
              · have f2 : decide (i ≤ 4294967295) = true := decide_eq_true h2
                have f3 : decide (i < 4294967296) = true := decide_eq_true (by omega)
                rw [f1, f2] at e
                go_wp2_with fail
                go_ret
                exact ⟨by rw [e.out]; rfl, HB.out⟩
              · have f2 : decide (i ≤ 4294967295) = false := decide_eq_false h2
                have f3 : decide (i < 4294967296) = false := decide_eq_false (by omega)
                rw [f1, f2] at e
                go_wp2_with fail
                go_ret
                exact ⟨by rw [e.out]; rfl, HB.out⟩
            · have f1 : decide (0 ≤ i) = false := decide_eq_false h1
              rw [f1] at e
              go_wp2_with fail
              go_ret
              exact ⟨by rw [e.out]; rfl, HB.out⟩
          · have nes := not_empty hzs
            have e : Hid (psane _ = false) := show psane ⟨9, false, false, ⟨#[]⟩, 0, s, i⟩ = false by simp [psane, hzs]
            go_enter Tryd.func25, Tryd.ntmps25
            go_wp2_with fail
            go_ret
            exact ⟨by rw [e.out]; rfl, two_below _ _ _⟩
        · have neex : (ex == 0) = false := beq_eq_false_iff_ne.2 hzex
          have e : Hid (psane _ = false) := show psane ⟨9, false, false, ⟨#[]⟩, ex, s, i⟩ = false by simp [psane, hzex]
          go_enter Tryd.func25, Tryd.ntmps25
          go_wp2_with fail
          go_ret
          exact ⟨by rw [e.out]; rfl, two_below _ _ _⟩
      · have nedg := not_empty hzdg
        have e : Hid (psane _ = false) := show psane ⟨9, false, false, dg, ex, s, i⟩ = false by simp [psane, hzdg]
        go_enter Tryd.func25, Tryd.ntmps25
        go_wp2_with fail
        go_ret
        exact ⟨by rw [e.out]; rfl, two_below _ _ _⟩
set_option maxHeartbeats 4000000 in
set_option maxRecDepth 100000 in
theorem right_any (w : World) (p : Pt) (hd : p.dg.size ≤ 1000000000) :
    Calls Tryd.prog 25 #[.agg (parr p)] w fun e w' => e = .returned (.bool (psane p)) ∧ Below w.heap.size w w' := by
  obtain ⟨k, b, neg, dg, ex, s, i⟩ := p
  unfold parr
  dsimp only at hd ⊢
  by_cases h0 : k = 0
  · subst h0; exact right_0 w b neg dg ex s i hd
  by_cases h1 : k = 1
  · subst h1; exact right_1 w b neg dg ex s i hd
  by_cases h2 : k = 2
  · subst h2; exact right_2 w b neg dg ex s i hd
  by_cases h3 : k = 3
  · subst h3; exact right_3 w b neg dg ex s i hd
  by_cases h9 : k = 9
  · subst h9; exact right_9 w b neg dg ex s i hd
  have e : Hid (psane ⟨k, b, neg, dg, ex, s, i⟩ = false) := by show psane _ = false; simp [psane, h0, h1, h2, h3, h9]
  have f0 : (k == 0) = false := beq_eq_false_iff_ne.2 h0
  have f1 : (k == 1) = false := beq_eq_false_iff_ne.2 h1
  have f2 : (k == 2) = false := beq_eq_false_iff_ne.2 h2
  have f3 : (k == 3) = false := beq_eq_false_iff_ne.2 h3
  have f9 : (k == 9) = false := beq_eq_false_iff_ne.2 h9
  go_enter Tryd.func25, Tryd.ntmps25
  go_wp2_with fail
  go_ret
  exact ⟨by rw [e.out]; rfl, two_below _ _ _⟩
end Go.Proofs.YtebhbcbcnjdgjaaDoor.dk
