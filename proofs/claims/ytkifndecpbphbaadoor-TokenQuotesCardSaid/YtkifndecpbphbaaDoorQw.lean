/- TokenQuotes. -/
import Derived.Test.YtkifndecpbphbaaDoorQu
namespace Go.Proofs.YtkifndecpbphbaaDoor.dk
open Go.PlainAid Go.ChangeShapes Go.WideShapes Go.ChangeAt Go.RowKit

set_option maxRecDepth 100000 in
set_option maxHeartbeats 2000000 in
theorem quotes_great (w : World) (s : ByteArray) (ss : s.size ≤ 140737488351232) (hg : 500 < s.size) (hF : utf.Forms w) (mx : Int) (hm : w.cell? ⟨1, 0, none⟩ = some (.int .i64 mx)) :
    Calls Tryd.prog 4 #[.string s] w fun e w' => e = .returned (.bool true) ∧ Below w.heap.size w w' := by
  have HAw := Lib.hid (awake_any w hF mx hm)
  have d1 : decide ((500 : Int) < (s.size : Int)) = true := decide_eq_true (by omega)
  clear hF hm
  go_enter Tryd.func4, Tryd.ntmps4
  go_wp2_with fail
  with_reducible refine HAw.out.mono ?_
  rintro e w1 ⟨rfl, hb1⟩
  have HB := Lib.hid hb1
  clear hb1
  go_wp2_with fail
  go_ret
  exact ⟨rfl, HB.out⟩
theorem chk_call (w : World) (s : ByteArray) (hs : s.size ≤ 500) (hF : utf.Forms w) (W : World) (h : Below w.heap.size w W) :
    Calls Tryd.prog 10 #[.slice (some ⟨W.heap.size, 0, none⟩) s.size (grownCap W s.size 0 5)] (Lib.bytesWorld W 5 s) fun e w' => e = .returned (.int .i64 (utf.chk (unstr s))) ∧ Below W.heap.size W w' := by
  have hbb := utf.bytes_below' W s 5
  have hN := utf.Check_any _ (utf.ints s) _ (utf.ints_oct s) (by rw [utf.ints_length]; unfold maxLen; omega) (utf.Bs_conv' W s) (hF.below (h.trans (hbb.mono h.size)) hF.size)
  rw [← unstr_ints] at hN
  refine hN.mono ?_
  rintro e w' ⟨rfl, hb⟩
  exact ⟨rfl, hbb.trans (hb.mono hbb.size)⟩
set_option maxRecDepth 100000 in
set_option maxHeartbeats 2000000 in
theorem quotes_bad (w : World) (s : ByteArray) (hs : ¬ 500 < s.size) (hk : 0 ≤ utf.chk (unstr s)) (hF : utf.Forms w) (mx : Int) (hm : w.cell? ⟨1, 0, none⟩ = some (.int .i64 mx)) :
    Calls Tryd.prog 4 #[.string s] w fun e w' => e = .returned (.bool true) ∧ Below w.heap.size w w' := by
  have HAw := Lib.hid (awake_any w hF mx hm)
  have d1 : decide ((500 : Int) < (s.size : Int)) = false := decide_eq_false (by omega)
  have HC := Lib.hid (chk_call w s (by omega) hF)
  have hcv := fun (W : World) (s : ByteArray) => Lib.run_convert_string_bytes (P := Tryd.prog) W 9 33 5 s Tryd.underlying9 Tryd.underlying33 Tryd.underlying5
  generalize utf.chk (unstr s) = x at HC hk
  have d2 : decide (0 ≤ x) = true := decide_eq_true hk
  clear hF hm
  go_enter Tryd.func4, Tryd.ntmps4
  go_wp2_with fail
  with_reducible refine HAw.out.mono ?_
  rintro e w1 ⟨rfl, hb1⟩
  have HB := Lib.hid hb1
  clear hb1
  go_wp2_with fail
  with_reducible refine (HC.out _ HB.out).mono ?_
  rintro e w2 ⟨rfl, hb2⟩
  have HB2 := Lib.hid (HB.out.trans (hb2.mono HB.out.size))
  clear hb2 HB hcv
  go_wp2_with fail
  go_ret
  exact ⟨rfl, HB2.out⟩
set_option maxRecDepth 100000 in
set_option maxHeartbeats 4000000 in
theorem quotes_good (w : World) (s : ByteArray) (hs : ¬ 500 < s.size) (hk : utf.chk (unstr s) = -1) (hF : utf.Forms w) (mx : Int) (hm : w.cell? ⟨1, 0, none⟩ = some (.int .i64 mx)) :
    Calls Tryd.prog 4 #[.string s] w fun e w' => e = .returned (.bool true) ∧ Below w.heap.size w w' := by
  have HAw := Lib.hid (awake_any w hF mx hm)
  have hl := unstr_length s
  have hO := unstr_oct s
  have d1 : decide ((500 : Int) < (s.size : Int)) = false := decide_eq_false (by omega)
  have hC := chk_call w s (by omega) hF
  rw [hk] at hC
  have HC := Lib.hid hC
  have hcv := fun (W : World) (s : ByteArray) => Lib.run_convert_string_bytes (P := Tryd.prog) W 9 33 5 s Tryd.underlying9 Tryd.underlying33 Tryd.underlying5
  have hQ := fun v => Quote_any v s (by omega)
  have hAA : ∀ (t : ByteArray), t.size ≤ 100000 → ∀ v, Below w.heap.size w v → Calls Tryd.prog 9 #[.string t] v (AllP v (allL (unstr t))) := fun t ht v h => All_any v t (hF.below h hF.size) (by omega) mx ((h.cell (World.block_lt_of_cell? _ _ hm)).trans hm)
  have hlq : (quoteL (unstr s)).length ≤ 100000 := by
    have := tqs_len (unstr s)
    unfold quoteL
    rw [List.length_cons, List.length_append]
    show (tqs (unstr s)).length + 1 + 1 ≤ _
    omega
  have hA1 := hAA (strOf (quoteL (unstr s))) (by rw [strOf_size]; exact hlq)
  have hOq : utf.Oct (quoteL (unstr s)) := oct_cons (by decide) (oct_app (tqs_oct hO) (fun x hx => by simp at hx; omega))
  rw [unstr_strOf _ hOq, quote_all hO (by omega) hk] at hA1
  generalize (quoteL (unstr s)).length = nq at hA1
  generalize strOf (quoteL (unstr s)) = qq at hA1 hQ
  have hA2 := hAA s (by omega)
  have hI := fun v (h : Below w.heap.size w v) => IsName_any v s (hF.below h hF.size) (by omega)
  have hnm : isNameL (unstr s) = true → allL (unstr s) = ([(⟨1, unstr s, false, ⟨#[]⟩, 0⟩, 0, (unstr s).length)], 0) := fun h => name_all hO (by omega) h
  have HSt : Hid (strOf (unstr s) = s) := strOf_unstr s
  have HQ := Lib.hid hQ
  have HA1 := Lib.hid hA1
  cases hn : isNameL (unstr s) with
  | true =>
    rw [hnm hn] at hA2
    rw [hn] at hI
    have HA2 := Lib.hid hA2
    have HI := Lib.hid hI
    generalize (unstr s).length = ns at HA2
    clear hF hm hC hk hQ hAA hA1 hA2 hI hnm hlq hOq hO hl hn
    go_enter Tryd.func4, Tryd.ntmps4
    go_wp2_with fail
    with_reducible refine HAw.out.mono ?_
    rintro e w1 ⟨rfl, hb1⟩
    have HB1 := Lib.hid hb1
    clear hb1
    go_wp2_with fail
    with_reducible refine (HC.out _ HB1.out).mono ?_
    rintro e w2 ⟨rfl, hb2⟩
    have HB2 := Lib.hid (HB1.out.trans (hb2.mono HB1.out.size))
    clear hb2 HB1 hcv
    go_wp2_with fail
    with_reducible refine (HQ.out _).mono ?_
    rintro e w3 ⟨rfl, hb3⟩
    have HB3 := Lib.hid (HB2.out.trans (hb3.mono HB2.out.size))
    clear hb3 HB2
    go_wp2_with fail
    with_reducible refine (HA1.out _ HB3.out).mono ?_
    rintro e w4 ⟨p, c, rfl, hown, hb4⟩
    have hr : RdT w4 p 1 [((⟨2, unstr s, false, ⟨#[]⟩, 0⟩ : Tk), 0, nq)] := owned_rdT hown
    obtain ⟨b, rfl⟩ := hr.form (by decide)
    have HR := Lib.hid hr
    have HB4 := Lib.hid (HB3.out.trans (hb4.mono HB3.out.size))
    clear hb4 HB3 hown hr
    go_wp2_with fail
    with_reducible refine (HA2.out _ HB4.out).mono ?_
    rintro e w5 ⟨p2, c2, rfl, hown, hb5⟩
    have hr2 : RdT w5 p2 1 [((⟨1, unstr s, false, ⟨#[]⟩, 0⟩ : Tk), 0, ns)] := owned_rdT hown
    obtain ⟨b2, rfl⟩ := hr2.form (by decide)
    have hr := HR.out.below hb5
    have c1 : w5.cell? ⟨b, 0, none⟩ = some (.int .i64 2) := (hr.seven 0 (by decide)).1
    have c3 : w5.cell? ⟨b, 1, none⟩ = some (.string (strOf (unstr s))) := (hr.seven 0 (by decide)).2.1
    have e1 : ∀ W, Below w5.heap.size w5 W → W.cell? ⟨b2, 0, none⟩ = some (.int .i64 1) ∧ W.cell? ⟨b2, 1, none⟩ = some (.string (strOf (unstr s))) := fun W h => ⟨((hr2.below h).seven 0 (by decide)).1, ((hr2.below h).seven 0 (by decide)).2.1⟩
    rw [HSt.out] at c3 e1
    have HE := Lib.hid e1
    have HB5 := Lib.hid (HB4.out.trans (hb5.mono HB4.out.size))
    clear hb5 HB4 hown hr hr2 HR e1
    go_wp2_with fail
    with_reducible refine (HI.out _ HB5.out).mono ?_
    rintro e w6 ⟨rfl, hb6⟩
    obtain ⟨g1, g2⟩ := HE.out _ hb6
    have HB6 := Lib.hid (HB5.out.trans (hb6.mono HB5.out.size))
    clear hb6 HB5 HE
    go_wp2_with fail
    go_ret
    exact ⟨rfl, HB6.out⟩
  | false =>
    rw [hn] at hI
    have HA2 := Lib.hid hA2
    have HI := Lib.hid hI
    generalize allL (unstr s) = r2 at HA2 hnm hA2
    obtain ⟨l2, e2⟩ := r2
    clear hF hm hC hk hQ hAA hA1 hA2 hI hnm hlq hOq hO hl hn
    go_enter Tryd.func4, Tryd.ntmps4
    go_wp2_with fail
    with_reducible refine HAw.out.mono ?_
    rintro e w1 ⟨rfl, hb1⟩
    have HB1 := Lib.hid hb1
    clear hb1
    go_wp2_with fail
    with_reducible refine (HC.out _ HB1.out).mono ?_
    rintro e w2 ⟨rfl, hb2⟩
    have HB2 := Lib.hid (HB1.out.trans (hb2.mono HB1.out.size))
    clear hb2 HB1 hcv
    go_wp2_with fail
    with_reducible refine (HQ.out _).mono ?_
    rintro e w3 ⟨rfl, hb3⟩
    have HB3 := Lib.hid (HB2.out.trans (hb3.mono HB2.out.size))
    clear hb3 HB2
    go_wp2_with fail
    with_reducible refine (HA1.out _ HB3.out).mono ?_
    rintro e w4 ⟨p, c, rfl, hown, hb4⟩
    have hr : RdT w4 p 1 [((⟨2, unstr s, false, ⟨#[]⟩, 0⟩ : Tk), 0, nq)] := owned_rdT hown
    obtain ⟨b, rfl⟩ := hr.form (by decide)
    have HR := Lib.hid hr
    have HB4 := Lib.hid (HB3.out.trans (hb4.mono HB3.out.size))
    clear hb4 HB3 hown hr
    go_wp2_with fail
    with_reducible refine (HA2.out _ HB4.out).mono ?_
    rintro e w5 ⟨p2, c2, rfl, hown, hb5⟩
    have hr := HR.out.below hb5
    have c1 : w5.cell? ⟨b, 0, none⟩ = some (.int .i64 2) := (hr.seven 0 (by decide)).1
    have c3 : w5.cell? ⟨b, 1, none⟩ = some (.string (strOf (unstr s))) := (hr.seven 0 (by decide)).2.1
    rw [HSt.out] at c3
    have HB5 := Lib.hid (HB4.out.trans (hb5.mono HB4.out.size))
    clear hb5 HB4 hown hr HR
    go_wp2_with fail
    with_reducible refine (HI.out _ HB5.out).mono ?_
    rintro e w6 ⟨rfl, hb6⟩
    have HB6 := Lib.hid (HB5.out.trans (hb6.mono HB5.out.size))
    clear hb6 HB5
    go_wp2_with fail
    go_ret
    exact ⟨rfl, HB6.out⟩
theorem quotes_any (w : World) (s : ByteArray) (ss : s.size ≤ 140737488351232) (hF : utf.Forms w) (mx : Int) (hm : w.cell? ⟨1, 0, none⟩ = some (.int .i64 mx)) :
    Calls Tryd.prog 4 #[.string s] w fun e w' => e = .returned (.bool true) ∧ Below w.heap.size w w' := by
  by_cases h : 500 < s.size
  · exact quotes_great w s ss h hF mx hm
  · rcases utf.chkF_range (unstr s).length (unstr_oct s) 0 (Int.le_refl _) (Nat.le_refl _) with hk | hk
    · exact quotes_good w s h hk hF mx hm
    · exact quotes_bad w s h hk.1 hF mx hm
end Go.Proofs.YtkifndecpbphbaaDoor.dk
