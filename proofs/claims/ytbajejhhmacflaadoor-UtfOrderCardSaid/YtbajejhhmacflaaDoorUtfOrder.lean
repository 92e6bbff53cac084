/- For every three texts UtfOrder answers true: Less is a strict total order, and of good texts the order of bytes. -/
import Derived.Test.YtbajejhhmacflaaDoorUtfG
import Derived.Lib.ConvBytes
import Derived.Lib.LaidCase
namespace Go.Proofs.YtbajejhhmacflaaDoor.utf
open Go.PlainAid Go.ChangeShapes Go.WideShapes Go.ChangeAt Go.RowKit

theorem bytes_below (w : World) (s : ByteArray) (T : TypeId) : Below w.heap.size w (Lib.bytesWorld w T s) :=
  ⟨rfl, rfl, rfl, by rw [Lib.bytesWorld_size]; omega, fun k hk => Lib.bytesWorld_at_old w T s k hk⟩
theorem Bs_conv (w : World) (s : ByteArray) : Bs (Lib.bytesWorld w 5 s) (.slice (some ⟨w.heap.size, 0, none⟩) s.size (grownCap w s.size 0 5)) (ints s) := by
  by_cases h : s.size = 0
  · exact .inl ⟨_, _, by rw [h], ints_nil_of h⟩
  · refine .inr ⟨w.heap.size, 0, grownCap w s.size 0 5, by rw [ints_length], by rw [ints_length]; omega, by rw [ints_length]; exact grownCap_ge _ _ _ _, by rw [Lib.bytesWorld_size]; omega, fun i hi => ?_⟩
    rw [ints_length] at hi
    rw [Nat.zero_add, Lib.bytesWorld_cell _ _ _ _ hi, ints_gl]
    unfold bt
    rw [dif_pos hi, List.getD_eq_getElem?_getD, List.getElem?_eq_getElem (by simpa using hi)]
    rfl

set_option maxHeartbeats 2000000 in
theorem order_great (a b c : ByteArray) (w : World) (ha : a.size ≤ 140737488351232) (hb : b.size ≤ 140737488351232) (hc : c.size ≤ 140737488351232) (hF : Forms w) (hbig : 1000 < a.size + b.size + c.size) :
    Calls Tryd.prog 6 #[.string a, .string b, .string c] w fun e w' => e = .returned (.bool true) ∧ Below w.heap.size w w' := by
  have H := Lib.hid (awake_any w hF)
  clear hF
  go_enter Tryd.func6, Tryd.ntmps6
  go_wp2_with (go_at_call 11; refine H.out.mono ?_; rintro e w1 ⟨rfl, hb1⟩)
  go_ret
  exact ⟨rfl, hb1⟩

set_option maxHeartbeats 2000000 in
theorem order_xz_a (a b c : ByteArray) (w : World) (lt : ByteArray → ByteArray → Bool) (ck : ByteArray → Int) (HF : Hid (Forms w)) (hs : a.size + b.size + c.size ≤ 1000) (HL : Hid (∀ (s t : ByteArray) (W : World), s.size ≤ 1000 → t.size ≤ 1000 → Forms W → Calls Tryd.prog 24 #[.string s, .string t] W fun e w' => e = .returned (.bool (lt s t)) ∧ Below W.heap.size W w')) (HC : Hid (∀ (s : ByteArray) (W : World), s.size ≤ 1000 → Forms W → Calls Tryd.prog 16 #[.slice (some ⟨W.heap.size, 0, none⟩) s.size (grownCap W s.size 0 5)] (Lib.bytesWorld W 5 s) fun e w' => e = .returned (.int .i64 (ck s)) ∧ Below W.heap.size W w')) (hx : Hid (lt a b = true)) (hy : Hid (lt b a = false)) (haa : Hid (lt a a = false)) (hz : Hid (lt b c = true)) (hac : Hid (lt a c = true)) (hca : 0 ≤ ck a) :
    Calls Tryd.prog 6 #[.string a, .string b, .string c] w fun e w' => e = .returned (.bool true) ∧ Below w.heap.size w w' := by
  have H := Lib.hid (awake_any w HF.out)
  have hcv := fun (W : World) (s : ByteArray) => Lib.run_convert_string_bytes (P := Tryd.prog) W 9 22 5 s Tryd.underlying9 Tryd.underlying22 Tryd.underlying5
  go_enter Tryd.func6, Tryd.ntmps6
  go_wp2_with (go_at_call 11; refine H.out.mono ?_; rintro e w1 ⟨rfl, hB1⟩)
  have HH := HL.out a b w1 (by omega) (by omega) (HF.out.below hB1 HF.out.size)
  rw [hx.out] at HH
  refine HH.mono ?_
  rintro e w2 ⟨rfl, hb2⟩
  clear HH
  have hB2 := hB1.trans (hb2.mono hB1.size)
  clear hb2
  go_wp2_with fail
  have HH := HL.out b a w2 (by omega) (by omega) (HF.out.below hB2 HF.out.size)
  rw [hy.out] at HH
  refine HH.mono ?_
  rintro e w3 ⟨rfl, hb3⟩
  clear HH
  have hB3 := hB2.trans (hb3.mono hB2.size)
  clear hb3
  go_wp2_with fail
  have HH := HL.out b c w3 (by omega) (by omega) (HF.out.below hB3 HF.out.size)
  rw [hz.out] at HH
  refine HH.mono ?_
  rintro e w4 ⟨rfl, hb4⟩
  clear HH
  have hB4 := hB3.trans (hb4.mono hB3.size)
  clear hb4
  go_wp2_with fail
  have HH := HL.out a c w4 (by omega) (by omega) (HF.out.below hB4 HF.out.size)
  rw [hac.out] at HH
  refine HH.mono ?_
  rintro e w5 ⟨rfl, hb5⟩
  clear HH
  have hB5 := hB4.trans (hb5.mono hB4.size)
  clear hb5
  go_wp2_with fail
  have HH := HL.out a a w5 (by omega) (by omega) (HF.out.below hB5 HF.out.size)
  rw [haa.out] at HH
  refine HH.mono ?_
  rintro e w6 ⟨rfl, hb6⟩
  clear HH
  have hB6 := hB5.trans (hb6.mono hB5.size)
  clear hb6
  go_wp2_with fail
  refine (HC.out a w6 (by omega) (HF.out.below hB6 HF.out.size)).mono ?_
  rintro e w7 ⟨rfl, hb7⟩
  have hB7 := hB6.trans (hb7.mono hB6.size)
  clear hb7
  go_wp2_with fail
  go_ret
  exact ⟨rfl, hB7⟩
set_option maxHeartbeats 2000000 in
theorem order_xz_b (a b c : ByteArray) (w : World) (lt : ByteArray → ByteArray → Bool) (ck : ByteArray → Int) (HF : Hid (Forms w)) (hs : a.size + b.size + c.size ≤ 1000) (HL : Hid (∀ (s t : ByteArray) (W : World), s.size ≤ 1000 → t.size ≤ 1000 → Forms W → Calls Tryd.prog 24 #[.string s, .string t] W fun e w' => e = .returned (.bool (lt s t)) ∧ Below W.heap.size W w')) (HC : Hid (∀ (s : ByteArray) (W : World), s.size ≤ 1000 → Forms W → Calls Tryd.prog 16 #[.slice (some ⟨W.heap.size, 0, none⟩) s.size (grownCap W s.size 0 5)] (Lib.bytesWorld W 5 s) fun e w' => e = .returned (.int .i64 (ck s)) ∧ Below W.heap.size W w')) (hx : Hid (lt a b = true)) (hy : Hid (lt b a = false)) (haa : Hid (lt a a = false)) (hz : Hid (lt b c = true)) (hac : Hid (lt a c = true)) (hca : ¬ 0 ≤ ck a) (hcb : 0 ≤ ck b) :
    Calls Tryd.prog 6 #[.string a, .string b, .string c] w fun e w' => e = .returned (.bool true) ∧ Below w.heap.size w w' := by
  have H := Lib.hid (awake_any w HF.out)
  have hcv := fun (W : World) (s : ByteArray) => Lib.run_convert_string_bytes (P := Tryd.prog) W 9 22 5 s Tryd.underlying9 Tryd.underlying22 Tryd.underlying5
  go_enter Tryd.func6, Tryd.ntmps6
  go_wp2_with (go_at_call 11; refine H.out.mono ?_; rintro e w1 ⟨rfl, hB1⟩)
  have HH := HL.out a b w1 (by omega) (by omega) (HF.out.below hB1 HF.out.size)
  rw [hx.out] at HH
  refine HH.mono ?_
  rintro e w2 ⟨rfl, hb2⟩
  clear HH
  have hB2 := hB1.trans (hb2.mono hB1.size)
  clear hb2
  go_wp2_with fail
  have HH := HL.out b a w2 (by omega) (by omega) (HF.out.below hB2 HF.out.size)
  rw [hy.out] at HH
  refine HH.mono ?_
  rintro e w3 ⟨rfl, hb3⟩
  clear HH
  have hB3 := hB2.trans (hb3.mono hB2.size)
  clear hb3
  go_wp2_with fail
  have HH := HL.out b c w3 (by omega) (by omega) (HF.out.below hB3 HF.out.size)
  rw [hz.out] at HH
  refine HH.mono ?_
  rintro e w4 ⟨rfl, hb4⟩
  clear HH
  have hB4 := hB3.trans (hb4.mono hB3.size)
  clear hb4
  go_wp2_with fail
  have HH := HL.out a c w4 (by omega) (by omega) (HF.out.below hB4 HF.out.size)
  rw [hac.out] at HH
  refine HH.mono ?_
  rintro e w5 ⟨rfl, hb5⟩
  clear HH
  have hB5 := hB4.trans (hb5.mono hB4.size)
  clear hb5
  go_wp2_with fail
  have HH := HL.out a a w5 (by omega) (by omega) (HF.out.below hB5 HF.out.size)
  rw [haa.out] at HH
  refine HH.mono ?_
  rintro e w6 ⟨rfl, hb6⟩
  clear HH
  have hB6 := hB5.trans (hb6.mono hB5.size)
  clear hb6
  go_wp2_with fail
  refine (HC.out a w6 (by omega) (HF.out.below hB6 HF.out.size)).mono ?_
  rintro e w7 ⟨rfl, hb7⟩
  have hB7 := hB6.trans (hb7.mono hB6.size)
  clear hb7
  go_wp2_with fail
  refine (HC.out b w7 (by omega) (HF.out.below hB7 HF.out.size)).mono ?_
  rintro e w8 ⟨rfl, hb8⟩
  have hB8 := hB7.trans (hb8.mono hB7.size)
  clear hb8
  go_wp2_with fail
  go_ret
  exact ⟨rfl, hB8⟩
set_option maxHeartbeats 2000000 in
theorem order_xz_n (a b c : ByteArray) (w : World) (lt : ByteArray → ByteArray → Bool) (ck : ByteArray → Int) (HF : Hid (Forms w)) (hs : a.size + b.size + c.size ≤ 1000) (HL : Hid (∀ (s t : ByteArray) (W : World), s.size ≤ 1000 → t.size ≤ 1000 → Forms W → Calls Tryd.prog 24 #[.string s, .string t] W fun e w' => e = .returned (.bool (lt s t)) ∧ Below W.heap.size W w')) (HC : Hid (∀ (s : ByteArray) (W : World), s.size ≤ 1000 → Forms W → Calls Tryd.prog 16 #[.slice (some ⟨W.heap.size, 0, none⟩) s.size (grownCap W s.size 0 5)] (Lib.bytesWorld W 5 s) fun e w' => e = .returned (.int .i64 (ck s)) ∧ Below W.heap.size W w')) (hx : Hid (lt a b = true)) (hy : Hid (lt b a = false)) (haa : Hid (lt a a = false)) (hz : Hid (lt b c = true)) (hac : Hid (lt a c = true)) (hca : ¬ 0 ≤ ck a) (hcb : ¬ 0 ≤ ck b) (hql : Op.bytesLess a.toList b.toList = true) :
    Calls Tryd.prog 6 #[.string a, .string b, .string c] w fun e w' => e = .returned (.bool true) ∧ Below w.heap.size w w' := by
  have H := Lib.hid (awake_any w HF.out)
  have hcv := fun (W : World) (s : ByteArray) => Lib.run_convert_string_bytes (P := Tryd.prog) W 9 22 5 s Tryd.underlying9 Tryd.underlying22 Tryd.underlying5
  go_enter Tryd.func6, Tryd.ntmps6
  go_wp2_with (go_at_call 11; refine H.out.mono ?_; rintro e w1 ⟨rfl, hB1⟩)
  have HH := HL.out a b w1 (by omega) (by omega) (HF.out.below hB1 HF.out.size)
  rw [hx.out] at HH
  refine HH.mono ?_
  rintro e w2 ⟨rfl, hb2⟩
  clear HH
  have hB2 := hB1.trans (hb2.mono hB1.size)
  clear hb2
  go_wp2_with fail
  have HH := HL.out b a w2 (by omega) (by omega) (HF.out.below hB2 HF.out.size)
  rw [hy.out] at HH
  refine HH.mono ?_
  rintro e w3 ⟨rfl, hb3⟩
  clear HH
  have hB3 := hB2.trans (hb3.mono hB2.size)
  clear hb3
  go_wp2_with fail
  have HH := HL.out b c w3 (by omega) (by omega) (HF.out.below hB3 HF.out.size)
  rw [hz.out] at HH
  refine HH.mono ?_
  rintro e w4 ⟨rfl, hb4⟩
  clear HH
  have hB4 := hB3.trans (hb4.mono hB3.size)
  clear hb4
  go_wp2_with fail
  have HH := HL.out a c w4 (by omega) (by omega) (HF.out.below hB4 HF.out.size)
  rw [hac.out] at HH
  refine HH.mono ?_
  rintro e w5 ⟨rfl, hb5⟩
  clear HH
  have hB5 := hB4.trans (hb5.mono hB4.size)
  clear hb5
  go_wp2_with fail
  have HH := HL.out a a w5 (by omega) (by omega) (HF.out.below hB5 HF.out.size)
  rw [haa.out] at HH
  refine HH.mono ?_
  rintro e w6 ⟨rfl, hb6⟩
  clear HH
  have hB6 := hB5.trans (hb6.mono hB5.size)
  clear hb6
  go_wp2_with fail
  refine (HC.out a w6 (by omega) (HF.out.below hB6 HF.out.size)).mono ?_
  rintro e w7 ⟨rfl, hb7⟩
  have hB7 := hB6.trans (hb7.mono hB6.size)
  clear hb7
  go_wp2_with fail
  refine (HC.out b w7 (by omega) (HF.out.below hB7 HF.out.size)).mono ?_
  rintro e w8 ⟨rfl, hb8⟩
  have hB8 := hB7.trans (hb8.mono hB7.size)
  clear hb8
  go_wp2_with fail
  go_ret
  exact ⟨rfl, hB8⟩
set_option maxHeartbeats 2000000 in
theorem order_xn_a (a b c : ByteArray) (w : World) (lt : ByteArray → ByteArray → Bool) (ck : ByteArray → Int) (HF : Hid (Forms w)) (hs : a.size + b.size + c.size ≤ 1000) (HL : Hid (∀ (s t : ByteArray) (W : World), s.size ≤ 1000 → t.size ≤ 1000 → Forms W → Calls Tryd.prog 24 #[.string s, .string t] W fun e w' => e = .returned (.bool (lt s t)) ∧ Below W.heap.size W w')) (HC : Hid (∀ (s : ByteArray) (W : World), s.size ≤ 1000 → Forms W → Calls Tryd.prog 16 #[.slice (some ⟨W.heap.size, 0, none⟩) s.size (grownCap W s.size 0 5)] (Lib.bytesWorld W 5 s) fun e w' => e = .returned (.int .i64 (ck s)) ∧ Below W.heap.size W w')) (hx : Hid (lt a b = true)) (hy : Hid (lt b a = false)) (haa : Hid (lt a a = false)) (hz : Hid (lt b c = false)) (hca : 0 ≤ ck a) :
    Calls Tryd.prog 6 #[.string a, .string b, .string c] w fun e w' => e = .returned (.bool true) ∧ Below w.heap.size w w' := by
  have H := Lib.hid (awake_any w HF.out)
  have hcv := fun (W : World) (s : ByteArray) => Lib.run_convert_string_bytes (P := Tryd.prog) W 9 22 5 s Tryd.underlying9 Tryd.underlying22 Tryd.underlying5
  go_enter Tryd.func6, Tryd.ntmps6
  go_wp2_with (go_at_call 11; refine H.out.mono ?_; rintro e w1 ⟨rfl, hB1⟩)
  have HH := HL.out a b w1 (by omega) (by omega) (HF.out.below hB1 HF.out.size)
  rw [hx.out] at HH
  refine HH.mono ?_
  rintro e w2 ⟨rfl, hb2⟩
  clear HH
  have hB2 := hB1.trans (hb2.mono hB1.size)
  clear hb2
  go_wp2_with fail
  have HH := HL.out b a w2 (by omega) (by omega) (HF.out.below hB2 HF.out.size)
  rw [hy.out] at HH
  refine HH.mono ?_
  rintro e w3 ⟨rfl, hb3⟩
  clear HH
  have hB3 := hB2.trans (hb3.mono hB2.size)
  clear hb3
  go_wp2_with fail
  have HH := HL.out b c w3 (by omega) (by omega) (HF.out.below hB3 HF.out.size)
  rw [hz.out] at HH
  refine HH.mono ?_
  rintro e w4 ⟨rfl, hb4⟩
  clear HH
  have hB4 := hB3.trans (hb4.mono hB3.size)
  clear hb4
  go_wp2_with fail
  have HH := HL.out a a w4 (by omega) (by omega) (HF.out.below hB4 HF.out.size)
  rw [haa.out] at HH
  refine HH.mono ?_
  rintro e w5 ⟨rfl, hb5⟩
  clear HH
  have hB5 := hB4.trans (hb5.mono hB4.size)
  clear hb5
  go_wp2_with fail
  refine (HC.out a w5 (by omega) (HF.out.below hB5 HF.out.size)).mono ?_
  rintro e w6 ⟨rfl, hb6⟩
  have hB6 := hB5.trans (hb6.mono hB5.size)
  clear hb6
  go_wp2_with fail
  go_ret
  exact ⟨rfl, hB6⟩
set_option maxHeartbeats 2000000 in
theorem order_xn_b (a b c : ByteArray) (w : World) (lt : ByteArray → ByteArray → Bool) (ck : ByteArray → Int) (HF : Hid (Forms w)) (hs : a.size + b.size + c.size ≤ 1000) (HL : Hid (∀ (s t : ByteArray) (W : World), s.size ≤ 1000 → t.size ≤ 1000 → Forms W → Calls Tryd.prog 24 #[.string s, .string t] W fun e w' => e = .returned (.bool (lt s t)) ∧ Below W.heap.size W w')) (HC : Hid (∀ (s : ByteArray) (W : World), s.size ≤ 1000 → Forms W → Calls Tryd.prog 16 #[.slice (some ⟨W.heap.size, 0, none⟩) s.size (grownCap W s.size 0 5)] (Lib.bytesWorld W 5 s) fun e w' => e = .returned (.int .i64 (ck s)) ∧ Below W.heap.size W w')) (hx : Hid (lt a b = true)) (hy : Hid (lt b a = false)) (haa : Hid (lt a a = false)) (hz : Hid (lt b c = false)) (hca : ¬ 0 ≤ ck a) (hcb : 0 ≤ ck b) :
    Calls Tryd.prog 6 #[.string a, .string b, .string c] w fun e w' => e = .returned (.bool true) ∧ Below w.heap.size w w' := by
  have H := Lib.hid (awake_any w HF.out)
  have hcv := fun (W : World) (s : ByteArray) => Lib.run_convert_string_bytes (P := Tryd.prog) W 9 22 5 s Tryd.underlying9 Tryd.underlying22 Tryd.underlying5
  go_enter Tryd.func6, Tryd.ntmps6
  go_wp2_with (go_at_call 11; refine H.out.mono ?_; rintro e w1 ⟨rfl, hB1⟩)
  have HH := HL.out a b w1 (by omega) (by omega) (HF.out.below hB1 HF.out.size)
  rw [hx.out] at HH
  refine HH.mono ?_
  rintro e w2 ⟨rfl, hb2⟩
  clear HH
  have hB2 := hB1.trans (hb2.mono hB1.size)
  clear hb2
  go_wp2_with fail
  have HH := HL.out b a w2 (by omega) (by omega) (HF.out.below hB2 HF.out.size)
  rw [hy.out] at HH
  refine HH.mono ?_
  rintro e w3 ⟨rfl, hb3⟩
  clear HH
  have hB3 := hB2.trans (hb3.mono hB2.size)
  clear hb3
  go_wp2_with fail
  have HH := HL.out b c w3 (by omega) (by omega) (HF.out.below hB3 HF.out.size)
  rw [hz.out] at HH
  refine HH.mono ?_
  rintro e w4 ⟨rfl, hb4⟩
  clear HH
  have hB4 := hB3.trans (hb4.mono hB3.size)
  clear hb4
  go_wp2_with fail
  have HH := HL.out a a w4 (by omega) (by omega) (HF.out.below hB4 HF.out.size)
  rw [haa.out] at HH
  refine HH.mono ?_
  rintro e w5 ⟨rfl, hb5⟩
  clear HH
  have hB5 := hB4.trans (hb5.mono hB4.size)
  clear hb5
  go_wp2_with fail
  refine (HC.out a w5 (by omega) (HF.out.below hB5 HF.out.size)).mono ?_
  rintro e w6 ⟨rfl, hb6⟩
  have hB6 := hB5.trans (hb6.mono hB5.size)
  clear hb6
  go_wp2_with fail
  refine (HC.out b w6 (by omega) (HF.out.below hB6 HF.out.size)).mono ?_
  rintro e w7 ⟨rfl, hb7⟩
  have hB7 := hB6.trans (hb7.mono hB6.size)
  clear hb7
  go_wp2_with fail
  go_ret
  exact ⟨rfl, hB7⟩
set_option maxHeartbeats 2000000 in
theorem order_xn_n (a b c : ByteArray) (w : World) (lt : ByteArray → ByteArray → Bool) (ck : ByteArray → Int) (HF : Hid (Forms w)) (hs : a.size + b.size + c.size ≤ 1000) (HL : Hid (∀ (s t : ByteArray) (W : World), s.size ≤ 1000 → t.size ≤ 1000 → Forms W → Calls Tryd.prog 24 #[.string s, .string t] W fun e w' => e = .returned (.bool (lt s t)) ∧ Below W.heap.size W w')) (HC : Hid (∀ (s : ByteArray) (W : World), s.size ≤ 1000 → Forms W → Calls Tryd.prog 16 #[.slice (some ⟨W.heap.size, 0, none⟩) s.size (grownCap W s.size 0 5)] (Lib.bytesWorld W 5 s) fun e w' => e = .returned (.int .i64 (ck s)) ∧ Below W.heap.size W w')) (hx : Hid (lt a b = true)) (hy : Hid (lt b a = false)) (haa : Hid (lt a a = false)) (hz : Hid (lt b c = false)) (hca : ¬ 0 ≤ ck a) (hcb : ¬ 0 ≤ ck b) (hql : Op.bytesLess a.toList b.toList = true) :
    Calls Tryd.prog 6 #[.string a, .string b, .string c] w fun e w' => e = .returned (.bool true) ∧ Below w.heap.size w w' := by
  have H := Lib.hid (awake_any w HF.out)
  have hcv := fun (W : World) (s : ByteArray) => Lib.run_convert_string_bytes (P := Tryd.prog) W 9 22 5 s Tryd.underlying9 Tryd.underlying22 Tryd.underlying5
  go_enter Tryd.func6, Tryd.ntmps6
  go_wp2_with (go_at_call 11; refine H.out.mono ?_; rintro e w1 ⟨rfl, hB1⟩)
  have HH := HL.out a b w1 (by omega) (by omega) (HF.out.below hB1 HF.out.size)
  rw [hx.out] at HH
  refine HH.mono ?_
  rintro e w2 ⟨rfl, hb2⟩
  clear HH
  have hB2 := hB1.trans (hb2.mono hB1.size)
  clear hb2
  go_wp2_with fail
  have HH := HL.out b a w2 (by omega) (by omega) (HF.out.below hB2 HF.out.size)
  rw [hy.out] at HH
  refine HH.mono ?_
  rintro e w3 ⟨rfl, hb3⟩
  clear HH
  have hB3 := hB2.trans (hb3.mono hB2.size)
  clear hb3
  go_wp2_with fail
  have HH := HL.out b c w3 (by omega) (by omega) (HF.out.below hB3 HF.out.size)
  rw [hz.out] at HH
  refine HH.mono ?_
  rintro e w4 ⟨rfl, hb4⟩
  clear HH
  have hB4 := hB3.trans (hb4.mono hB3.size)
  clear hb4
  go_wp2_with fail
  have HH := HL.out a a w4 (by omega) (by omega) (HF.out.below hB4 HF.out.size)
  rw [haa.out] at HH
  refine HH.mono ?_
  rintro e w5 ⟨rfl, hb5⟩
  clear HH
  have hB5 := hB4.trans (hb5.mono hB4.size)
  clear hb5
  go_wp2_with fail
  refine (HC.out a w5 (by omega) (HF.out.below hB5 HF.out.size)).mono ?_
  rintro e w6 ⟨rfl, hb6⟩
  have hB6 := hB5.trans (hb6.mono hB5.size)
  clear hb6
  go_wp2_with fail
  refine (HC.out b w6 (by omega) (HF.out.below hB6 HF.out.size)).mono ?_
  rintro e w7 ⟨rfl, hb7⟩
  have hB7 := hB6.trans (hb7.mono hB6.size)
  clear hb7
  go_wp2_with fail
  go_ret
  exact ⟨rfl, hB7⟩
set_option maxHeartbeats 2000000 in
theorem order_ny_a (a b c : ByteArray) (w : World) (lt : ByteArray → ByteArray → Bool) (ck : ByteArray → Int) (HF : Hid (Forms w)) (hs : a.size + b.size + c.size ≤ 1000) (HL : Hid (∀ (s t : ByteArray) (W : World), s.size ≤ 1000 → t.size ≤ 1000 → Forms W → Calls Tryd.prog 24 #[.string s, .string t] W fun e w' => e = .returned (.bool (lt s t)) ∧ Below W.heap.size W w')) (HC : Hid (∀ (s : ByteArray) (W : World), s.size ≤ 1000 → Forms W → Calls Tryd.prog 16 #[.slice (some ⟨W.heap.size, 0, none⟩) s.size (grownCap W s.size 0 5)] (Lib.bytesWorld W 5 s) fun e w' => e = .returned (.int .i64 (ck s)) ∧ Below W.heap.size W w')) (hx : Hid (lt a b = false)) (hy : Hid (lt b a = true)) (haa : Hid (lt a a = false)) (heq : (a.toList == b.toList) = false) (hca : 0 ≤ ck a) :
    Calls Tryd.prog 6 #[.string a, .string b, .string c] w fun e w' => e = .returned (.bool true) ∧ Below w.heap.size w w' := by
  have H := Lib.hid (awake_any w HF.out)
  have hcv := fun (W : World) (s : ByteArray) => Lib.run_convert_string_bytes (P := Tryd.prog) W 9 22 5 s Tryd.underlying9 Tryd.underlying22 Tryd.underlying5
  go_enter Tryd.func6, Tryd.ntmps6
  go_wp2_with (go_at_call 11; refine H.out.mono ?_; rintro e w1 ⟨rfl, hB1⟩)
  have HH := HL.out a b w1 (by omega) (by omega) (HF.out.below hB1 HF.out.size)
  rw [hx.out] at HH
  refine HH.mono ?_
  rintro e w2 ⟨rfl, hb2⟩
  clear HH
  have hB2 := hB1.trans (hb2.mono hB1.size)
  clear hb2
  go_wp2_with fail
  have HH := HL.out b a w2 (by omega) (by omega) (HF.out.below hB2 HF.out.size)
  rw [hy.out] at HH
  refine HH.mono ?_
  rintro e w3 ⟨rfl, hb3⟩
  clear HH
  have hB3 := hB2.trans (hb3.mono hB2.size)
  clear hb3
  go_wp2_with fail
  have HH := HL.out a a w3 (by omega) (by omega) (HF.out.below hB3 HF.out.size)
  rw [haa.out] at HH
  refine HH.mono ?_
  rintro e w4 ⟨rfl, hb4⟩
  clear HH
  have hB4 := hB3.trans (hb4.mono hB3.size)
  clear hb4
  go_wp2_with fail
  refine (HC.out a w4 (by omega) (HF.out.below hB4 HF.out.size)).mono ?_
  rintro e w5 ⟨rfl, hb5⟩
  have hB5 := hB4.trans (hb5.mono hB4.size)
  clear hb5
  go_wp2_with fail
  go_ret
  exact ⟨rfl, hB5⟩
set_option maxHeartbeats 2000000 in
theorem order_ny_b (a b c : ByteArray) (w : World) (lt : ByteArray → ByteArray → Bool) (ck : ByteArray → Int) (HF : Hid (Forms w)) (hs : a.size + b.size + c.size ≤ 1000) (HL : Hid (∀ (s t : ByteArray) (W : World), s.size ≤ 1000 → t.size ≤ 1000 → Forms W → Calls Tryd.prog 24 #[.string s, .string t] W fun e w' => e = .returned (.bool (lt s t)) ∧ Below W.heap.size W w')) (HC : Hid (∀ (s : ByteArray) (W : World), s.size ≤ 1000 → Forms W → Calls Tryd.prog 16 #[.slice (some ⟨W.heap.size, 0, none⟩) s.size (grownCap W s.size 0 5)] (Lib.bytesWorld W 5 s) fun e w' => e = .returned (.int .i64 (ck s)) ∧ Below W.heap.size W w')) (hx : Hid (lt a b = false)) (hy : Hid (lt b a = true)) (haa : Hid (lt a a = false)) (heq : (a.toList == b.toList) = false) (hca : ¬ 0 ≤ ck a) (hcb : 0 ≤ ck b) :
    Calls Tryd.prog 6 #[.string a, .string b, .string c] w fun e w' => e = .returned (.bool true) ∧ Below w.heap.size w w' := by
  have H := Lib.hid (awake_any w HF.out)
  have hcv := fun (W : World) (s : ByteArray) => Lib.run_convert_string_bytes (P := Tryd.prog) W 9 22 5 s Tryd.underlying9 Tryd.underlying22 Tryd.underlying5
  go_enter Tryd.func6, Tryd.ntmps6
  go_wp2_with (go_at_call 11; refine H.out.mono ?_; rintro e w1 ⟨rfl, hB1⟩)
  have HH := HL.out a b w1 (by omega) (by omega) (HF.out.below hB1 HF.out.size)
  rw [hx.out] at HH
  refine HH.mono ?_
  rintro e w2 ⟨rfl, hb2⟩
  clear HH
  have hB2 := hB1.trans (hb2.mono hB1.size)
  clear hb2
  go_wp2_with fail
  have HH := HL.out b a w2 (by omega) (by omega) (HF.out.below hB2 HF.out.size)
  rw [hy.out] at HH
  refine HH.mono ?_
  rintro e w3 ⟨rfl, hb3⟩
  clear HH
  have hB3 := hB2.trans (hb3.mono hB2.size)
  clear hb3
  go_wp2_with fail
  have HH := HL.out a a w3 (by omega) (by omega) (HF.out.below hB3 HF.out.size)
  rw [haa.out] at HH
  refine HH.mono ?_
  rintro e w4 ⟨rfl, hb4⟩
  clear HH
  have hB4 := hB3.trans (hb4.mono hB3.size)
  clear hb4
  go_wp2_with fail
  refine (HC.out a w4 (by omega) (HF.out.below hB4 HF.out.size)).mono ?_
  rintro e w5 ⟨rfl, hb5⟩
  have hB5 := hB4.trans (hb5.mono hB4.size)
  clear hb5
  go_wp2_with fail
  refine (HC.out b w5 (by omega) (HF.out.below hB5 HF.out.size)).mono ?_
  rintro e w6 ⟨rfl, hb6⟩
  have hB6 := hB5.trans (hb6.mono hB5.size)
  clear hb6
  go_wp2_with fail
  go_ret
  exact ⟨rfl, hB6⟩
set_option maxHeartbeats 2000000 in
theorem order_ny_n (a b c : ByteArray) (w : World) (lt : ByteArray → ByteArray → Bool) (ck : ByteArray → Int) (HF : Hid (Forms w)) (hs : a.size + b.size + c.size ≤ 1000) (HL : Hid (∀ (s t : ByteArray) (W : World), s.size ≤ 1000 → t.size ≤ 1000 → Forms W → Calls Tryd.prog 24 #[.string s, .string t] W fun e w' => e = .returned (.bool (lt s t)) ∧ Below W.heap.size W w')) (HC : Hid (∀ (s : ByteArray) (W : World), s.size ≤ 1000 → Forms W → Calls Tryd.prog 16 #[.slice (some ⟨W.heap.size, 0, none⟩) s.size (grownCap W s.size 0 5)] (Lib.bytesWorld W 5 s) fun e w' => e = .returned (.int .i64 (ck s)) ∧ Below W.heap.size W w')) (hx : Hid (lt a b = false)) (hy : Hid (lt b a = true)) (haa : Hid (lt a a = false)) (heq : (a.toList == b.toList) = false) (hca : ¬ 0 ≤ ck a) (hcb : ¬ 0 ≤ ck b) (hql : Op.bytesLess a.toList b.toList = false) :
    Calls Tryd.prog 6 #[.string a, .string b, .string c] w fun e w' => e = .returned (.bool true) ∧ Below w.heap.size w w' := by
  have H := Lib.hid (awake_any w HF.out)
  have hcv := fun (W : World) (s : ByteArray) => Lib.run_convert_string_bytes (P := Tryd.prog) W 9 22 5 s Tryd.underlying9 Tryd.underlying22 Tryd.underlying5
  go_enter Tryd.func6, Tryd.ntmps6
  go_wp2_with (go_at_call 11; refine H.out.mono ?_; rintro e w1 ⟨rfl, hB1⟩)
  have HH := HL.out a b w1 (by omega) (by omega) (HF.out.below hB1 HF.out.size)
  rw [hx.out] at HH
  refine HH.mono ?_
  rintro e w2 ⟨rfl, hb2⟩
  clear HH
  have hB2 := hB1.trans (hb2.mono hB1.size)
  clear hb2
  go_wp2_with fail
  have HH := HL.out b a w2 (by omega) (by omega) (HF.out.below hB2 HF.out.size)
  rw [hy.out] at HH
  refine HH.mono ?_
  rintro e w3 ⟨rfl, hb3⟩
  clear HH
  have hB3 := hB2.trans (hb3.mono hB2.size)
  clear hb3
  go_wp2_with fail
  have HH := HL.out a a w3 (by omega) (by omega) (HF.out.below hB3 HF.out.size)
  rw [haa.out] at HH
  refine HH.mono ?_
  rintro e w4 ⟨rfl, hb4⟩
  clear HH
  have hB4 := hB3.trans (hb4.mono hB3.size)
  clear hb4
  go_wp2_with fail
  refine (HC.out a w4 (by omega) (HF.out.below hB4 HF.out.size)).mono ?_
  rintro e w5 ⟨rfl, hb5⟩
  have hB5 := hB4.trans (hb5.mono hB4.size)
  clear hb5
  go_wp2_with fail
  refine (HC.out b w5 (by omega) (HF.out.below hB5 HF.out.size)).mono ?_
  rintro e w6 ⟨rfl, hb6⟩
  have hB6 := hB5.trans (hb6.mono hB5.size)
  clear hb6
  go_wp2_with fail
  go_ret
  exact ⟨rfl, hB6⟩
set_option maxHeartbeats 2000000 in
theorem order_nn_a (a b c : ByteArray) (w : World) (lt : ByteArray → ByteArray → Bool) (ck : ByteArray → Int) (HF : Hid (Forms w)) (hs : a.size + b.size + c.size ≤ 1000) (HL : Hid (∀ (s t : ByteArray) (W : World), s.size ≤ 1000 → t.size ≤ 1000 → Forms W → Calls Tryd.prog 24 #[.string s, .string t] W fun e w' => e = .returned (.bool (lt s t)) ∧ Below W.heap.size W w')) (HC : Hid (∀ (s : ByteArray) (W : World), s.size ≤ 1000 → Forms W → Calls Tryd.prog 16 #[.slice (some ⟨W.heap.size, 0, none⟩) s.size (grownCap W s.size 0 5)] (Lib.bytesWorld W 5 s) fun e w' => e = .returned (.int .i64 (ck s)) ∧ Below W.heap.size W w')) (hx : Hid (lt a b = false)) (hy : Hid (lt b a = false)) (haa : Hid (lt a a = false)) (heq : (a.toList == b.toList) = true) (hca : 0 ≤ ck a) :
    Calls Tryd.prog 6 #[.string a, .string b, .string c] w fun e w' => e = .returned (.bool true) ∧ Below w.heap.size w w' := by
  have H := Lib.hid (awake_any w HF.out)
  have hcv := fun (W : World) (s : ByteArray) => Lib.run_convert_string_bytes (P := Tryd.prog) W 9 22 5 s Tryd.underlying9 Tryd.underlying22 Tryd.underlying5
  go_enter Tryd.func6, Tryd.ntmps6
  go_wp2_with (go_at_call 11; refine H.out.mono ?_; rintro e w1 ⟨rfl, hB1⟩)
  have HH := HL.out a b w1 (by omega) (by omega) (HF.out.below hB1 HF.out.size)
  rw [hx.out] at HH
  refine HH.mono ?_
  rintro e w2 ⟨rfl, hb2⟩
  clear HH
  have hB2 := hB1.trans (hb2.mono hB1.size)
  clear hb2
  go_wp2_with fail
  have HH := HL.out b a w2 (by omega) (by omega) (HF.out.below hB2 HF.out.size)
  rw [hy.out] at HH
  refine HH.mono ?_
  rintro e w3 ⟨rfl, hb3⟩
  clear HH
  have hB3 := hB2.trans (hb3.mono hB2.size)
  clear hb3
  go_wp2_with fail
  have HH := HL.out a a w3 (by omega) (by omega) (HF.out.below hB3 HF.out.size)
  rw [haa.out] at HH
  refine HH.mono ?_
  rintro e w4 ⟨rfl, hb4⟩
  clear HH
  have hB4 := hB3.trans (hb4.mono hB3.size)
  clear hb4
  go_wp2_with fail
  refine (HC.out a w4 (by omega) (HF.out.below hB4 HF.out.size)).mono ?_
  rintro e w5 ⟨rfl, hb5⟩
  have hB5 := hB4.trans (hb5.mono hB4.size)
  clear hb5
  go_wp2_with fail
  go_ret
  exact ⟨rfl, hB5⟩
set_option maxHeartbeats 2000000 in
theorem order_nn_b (a b c : ByteArray) (w : World) (lt : ByteArray → ByteArray → Bool) (ck : ByteArray → Int) (HF : Hid (Forms w)) (hs : a.size + b.size + c.size ≤ 1000) (HL : Hid (∀ (s t : ByteArray) (W : World), s.size ≤ 1000 → t.size ≤ 1000 → Forms W → Calls Tryd.prog 24 #[.string s, .string t] W fun e w' => e = .returned (.bool (lt s t)) ∧ Below W.heap.size W w')) (HC : Hid (∀ (s : ByteArray) (W : World), s.size ≤ 1000 → Forms W → Calls Tryd.prog 16 #[.slice (some ⟨W.heap.size, 0, none⟩) s.size (grownCap W s.size 0 5)] (Lib.bytesWorld W 5 s) fun e w' => e = .returned (.int .i64 (ck s)) ∧ Below W.heap.size W w')) (hx : Hid (lt a b = false)) (hy : Hid (lt b a = false)) (haa : Hid (lt a a = false)) (heq : (a.toList == b.toList) = true) (hca : ¬ 0 ≤ ck a) (hcb : 0 ≤ ck b) :
    Calls Tryd.prog 6 #[.string a, .string b, .string c] w fun e w' => e = .returned (.bool true) ∧ Below w.heap.size w w' := by
  have H := Lib.hid (awake_any w HF.out)
  have hcv := fun (W : World) (s : ByteArray) => Lib.run_convert_string_bytes (P := Tryd.prog) W 9 22 5 s Tryd.underlying9 Tryd.underlying22 Tryd.underlying5
  go_enter Tryd.func6, Tryd.ntmps6
  go_wp2_with (go_at_call 11; refine H.out.mono ?_; rintro e w1 ⟨rfl, hB1⟩)
  have HH := HL.out a b w1 (by omega) (by omega) (HF.out.below hB1 HF.out.size)
  rw [hx.out] at HH
  refine HH.mono ?_
  rintro e w2 ⟨rfl, hb2⟩
  clear HH
  have hB2 := hB1.trans (hb2.mono hB1.size)
  clear hb2
  go_wp2_with fail
  have HH := HL.out b a w2 (by omega) (by omega) (HF.out.below hB2 HF.out.size)
  rw [hy.out] at HH
  refine HH.mono ?_
  rintro e w3 ⟨rfl, hb3⟩
  clear HH
  have hB3 := hB2.trans (hb3.mono hB2.size)
  clear hb3
  go_wp2_with fail
  have HH := HL.out a a w3 (by omega) (by omega) (HF.out.below hB3 HF.out.size)
  rw [haa.out] at HH
  refine HH.mono ?_
  rintro e w4 ⟨rfl, hb4⟩
  clear HH
  have hB4 := hB3.trans (hb4.mono hB3.size)
  clear hb4
  go_wp2_with fail
  refine (HC.out a w4 (by omega) (HF.out.below hB4 HF.out.size)).mono ?_
  rintro e w5 ⟨rfl, hb5⟩
  have hB5 := hB4.trans (hb5.mono hB4.size)
  clear hb5
  go_wp2_with fail
  refine (HC.out b w5 (by omega) (HF.out.below hB5 HF.out.size)).mono ?_
  rintro e w6 ⟨rfl, hb6⟩
  have hB6 := hB5.trans (hb6.mono hB5.size)
  clear hb6
  go_wp2_with fail
  go_ret
  exact ⟨rfl, hB6⟩
set_option maxHeartbeats 2000000 in
theorem order_nn_n (a b c : ByteArray) (w : World) (lt : ByteArray → ByteArray → Bool) (ck : ByteArray → Int) (HF : Hid (Forms w)) (hs : a.size + b.size + c.size ≤ 1000) (HL : Hid (∀ (s t : ByteArray) (W : World), s.size ≤ 1000 → t.size ≤ 1000 → Forms W → Calls Tryd.prog 24 #[.string s, .string t] W fun e w' => e = .returned (.bool (lt s t)) ∧ Below W.heap.size W w')) (HC : Hid (∀ (s : ByteArray) (W : World), s.size ≤ 1000 → Forms W → Calls Tryd.prog 16 #[.slice (some ⟨W.heap.size, 0, none⟩) s.size (grownCap W s.size 0 5)] (Lib.bytesWorld W 5 s) fun e w' => e = .returned (.int .i64 (ck s)) ∧ Below W.heap.size W w')) (hx : Hid (lt a b = false)) (hy : Hid (lt b a = false)) (haa : Hid (lt a a = false)) (heq : (a.toList == b.toList) = true) (hca : ¬ 0 ≤ ck a) (hcb : ¬ 0 ≤ ck b) (hql : Op.bytesLess a.toList b.toList = false) :
    Calls Tryd.prog 6 #[.string a, .string b, .string c] w fun e w' => e = .returned (.bool true) ∧ Below w.heap.size w w' := by
  have H := Lib.hid (awake_any w HF.out)
  have hcv := fun (W : World) (s : ByteArray) => Lib.run_convert_string_bytes (P := Tryd.prog) W 9 22 5 s Tryd.underlying9 Tryd.underlying22 Tryd.underlying5
  go_enter Tryd.func6, Tryd.ntmps6
  go_wp2_with (go_at_call 11; refine H.out.mono ?_; rintro e w1 ⟨rfl, hB1⟩)
  have HH := HL.out a b w1 (by omega) (by omega) (HF.out.below hB1 HF.out.size)
  rw [hx.out] at HH
  refine HH.mono ?_
  rintro e w2 ⟨rfl, hb2⟩
  clear HH
  have hB2 := hB1.trans (hb2.mono hB1.size)
  clear hb2
  go_wp2_with fail
  have HH := HL.out b a w2 (by omega) (by omega) (HF.out.below hB2 HF.out.size)
  rw [hy.out] at HH
  refine HH.mono ?_
  rintro e w3 ⟨rfl, hb3⟩
  clear HH
  have hB3 := hB2.trans (hb3.mono hB2.size)
  clear hb3
  go_wp2_with fail
  have HH := HL.out a a w3 (by omega) (by omega) (HF.out.below hB3 HF.out.size)
  rw [haa.out] at HH
  refine HH.mono ?_
  rintro e w4 ⟨rfl, hb4⟩
  clear HH
  have hB4 := hB3.trans (hb4.mono hB3.size)
  clear hb4
  go_wp2_with fail
  refine (HC.out a w4 (by omega) (HF.out.below hB4 HF.out.size)).mono ?_
  rintro e w5 ⟨rfl, hb5⟩
  have hB5 := hB4.trans (hb5.mono hB4.size)
  clear hb5
  go_wp2_with fail
  refine (HC.out b w5 (by omega) (HF.out.below hB5 HF.out.size)).mono ?_
  rintro e w6 ⟨rfl, hb6⟩
  have hB6 := hB5.trans (hb6.mono hB5.size)
  clear hb6
  go_wp2_with fail
  go_ret
  exact ⟨rfl, hB6⟩
end Go.Proofs.YtbajejhhmacflaaDoor.utf
