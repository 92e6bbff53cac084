/- For all bytes UtfJoins answers true: good texts one behind the other are good. -/
import Derived.Test.YtbajejhhmacflaaDoorUtfU
import Derived.Test.YtbajejhhmacflaaDoorUtfJM
namespace Go.Proofs.YtbajejhhmacflaaDoor.utf
open Go.PlainAid Go.ChangeShapes Go.WideShapes Go.ChangeAt Go.RowKit Go.Sort

set_option maxHeartbeats 2000000 in
theorem joins_great (p q : Option Addr) (n c m d : Nat) (x : Int) (w : World) (hF : Forms w) (hn : n ≤ 140737488351232) (hm : m ≤ 140737488351232) (hbig : 1000 < n + m) :
    Calls Tryd.prog 8 #[.slice p n c, .slice q m d, .int .u8 x] w fun e w' => e = .returned (.bool true) ∧ Below w.heap.size w w' := by
  have H := Lib.hid (awake_any w hF)
  clear hF
  go_enter Tryd.func8, Tryd.ntmps8
  go_wp2_with (go_at_call 11; refine H.out.mono ?_; rintro e w1 ⟨rfl, hb1⟩)
  go_ret
  exact ⟨rfl, hb1⟩

set_option maxHeartbeats 2000000 in
theorem joins_bad1 (p q : Option Addr) (n c m d : Nat) (x : Int) (w : World) (l : List Int) (hO : Oct l) (hB : Bs w (.slice p n c) l) (hF : Forms w) (hs : n + m ≤ 1000) (hln : l.length = n) (hck : 0 ≤ chk l) :
    Calls Tryd.prog 8 #[.slice p n c, .slice q m d, .int .u8 x] w fun e w' => e = .returned (.bool true) ∧ Below w.heap.size w w' := by
  have H := Lib.hid (awake_any w hF)
  have HC : Hid (∀ W, Below w.heap.size w W → Calls Tryd.prog 16 #[.slice p n c] W fun e w' => e = .returned (.int .i64 (chk l)) ∧ Below W.heap.size W w') := fun W h =>
    Check_any _ l W hO (by rw [hln]; unfold maxLen; omega) (hB.below h) (hF.below h hF.size)
  clear hF hB hO hln
  go_enter Tryd.func8, Tryd.ntmps8
  go_wp2_with (go_at_call 11; refine H.out.mono ?_; rintro e w1 ⟨rfl, hb1⟩)
  refine (HC.out w1 hb1).mono ?_
  rintro e w2 ⟨rfl, hb2⟩
  go_wp2
  go_ret
  exact ⟨rfl, hb1.trans (hb2.mono hb1.size)⟩

set_option maxHeartbeats 2000000 in
theorem joins_bad2 (p q : Option Addr) (n c m d : Nat) (x : Int) (w : World) (l k : List Int) (hO : Oct l) (hB : Bs w (.slice p n c) l) (hO2 : Oct k) (hB2 : Bs w (.slice q m d) k) (hF : Forms w) (hs : n + m ≤ 1000) (hln : l.length = n) (hkn : k.length = m) (hck : ¬ 0 ≤ chk l) (hck2 : 0 ≤ chk k) :
    Calls Tryd.prog 8 #[.slice p n c, .slice q m d, .int .u8 x] w fun e w' => e = .returned (.bool true) ∧ Below w.heap.size w w' := by
  have H := Lib.hid (awake_any w hF)
  have HC : Hid (∀ W, Below w.heap.size w W → Calls Tryd.prog 16 #[.slice p n c] W fun e w' => e = .returned (.int .i64 (chk l)) ∧ Below W.heap.size W w') := fun W h =>
    Check_any _ l W hO (by rw [hln]; unfold maxLen; omega) (hB.below h) (hF.below h hF.size)
  have HC2 : Hid (∀ W, Below w.heap.size w W → Calls Tryd.prog 16 #[.slice q m d] W fun e w' => e = .returned (.int .i64 (chk k)) ∧ Below W.heap.size W w') := fun W h =>
    Check_any _ k W hO2 (by rw [hkn]; unfold maxLen; omega) (hB2.below h) (hF.below h hF.size)
  clear hF hB hO hln hB2 hO2 hkn
  go_enter Tryd.func8, Tryd.ntmps8
  go_wp2_with (go_at_call 11; refine H.out.mono ?_; rintro e w1 ⟨rfl, hb1⟩)
  refine (HC.out w1 hb1).mono ?_
  rintro e w2 ⟨rfl, hb2⟩
  have hb2' := hb1.trans (hb2.mono hb1.size)
  go_wp2_with fail
  refine (HC2.out w2 hb2').mono ?_
  rintro e w3 ⟨rfl, hb3⟩
  go_wp2
  go_ret
  exact ⟨rfl, hb2'.trans (hb3.mono hb2'.size)⟩

set_option maxHeartbeats 700000 in
theorem joins_good (p q : Option Addr) (n c m d : Nat) (x : Int) (w : World) (l k : List Int) (hO : Oct l) (hB : Bs w (.slice p n c) l) (hO2 : Oct k) (hB2 : Bs w (.slice q m d) k) (hF : Forms w) (hs : n + m ≤ 1000) (hln : l.length = n) (hkn : k.length = m)
    (hp : p = none → n = 0 ∧ c = 0) (hq : q = none → m = 0 ∧ d = 0) (hck : chk l = -1) (hck2 : chk k = -1) (x0 : 0 ≤ x) (x1 : x ≤ 255) :
    Calls Tryd.prog 8 #[.slice p n c, .slice q m d, .int .u8 x] w fun e w' => e = .returned (.bool true) ∧ Below w.heap.size w w' := by
  have H := Lib.hid (awake_any w hF)
  have HC : Hid (∀ W, Below w.heap.size w W → Calls Tryd.prog 16 #[.slice p n c] W fun e w' => e = .returned (.int .i64 (-1)) ∧ Below W.heap.size W w') := fun W h => by
    have := Check_any _ l W hO (by rw [hln]; unfold maxLen; omega) (hB.below h) (hF.below h hF.size)
    rw [hck] at this; exact this
  have HC2 : Hid (∀ W, Below w.heap.size w W → Calls Tryd.prog 16 #[.slice q m d] W fun e w' => e = .returned (.int .i64 (-1)) ∧ Below W.heap.size W w') := fun W h => by
    have := Check_any _ k W hO2 (by rw [hkn]; unfold maxLen; omega) (hB2.below h) (hF.below h hF.size)
    rw [hck2] at this; exact this
  have HF := Lib.hid hF
  have HO := Lib.hid hO
  have HO2 := Lib.hid hO2
  have HB := Lib.hid hB
  have HB2 := Lib.hid hB2
  have HLN := Lib.hid hln
  have HKN := Lib.hid hkn
  have HPn := Lib.hid hp
  have HQn := Lib.hid hq
  have HK := Lib.hid hck
  have HK2 := Lib.hid hck2
  clear hF hO hO2 hB hB2 hln hkn hp hq hck hck2
  go_enter Tryd.func8, Tryd.ntmps8
  go_wp2_with (go_at_call 11; refine H.out.mono ?_; rintro e w1 ⟨rfl, hb1⟩)
  refine (HC.out w1 hb1).mono ?_
  rintro e w2 ⟨rfl, hb2⟩
  have hb2' := hb1.trans (hb2.mono hb1.size)
  go_wp2_with fail
  refine (HC2.out w2 hb2').mono ?_
  rintro e w3 ⟨rfl, hb3⟩
  have hB3 := hb2'.trans (hb3.mono hb2'.size)
  clear hb3 hb2' hb2 hb1
  have z3 := hB3.size
  have ho := own_empty w3 w.heap.size z3
  have hB4 := hB3.alloc z3 (.cells #[] 5)
  have s4 := HB.out.below hB4
  go_wp2_with (at_builtin; refine wpList_append_bs rfl _ _ rfl w.heap.size _ 0 0 [] rfl ho p n c l rfl HPn.out s4 ?_ ?_ ?_)
  · omega
  · simp; omega
  intro g1 cap1 w5 ho1 hb5
  have ho1 : w5.ownsRow w.heap.size 5 1 (.slice (some ⟨g1, 0, none⟩) n cap1) n (bcells l) := by simpa using ho1
  have hB5 := hB4.trans hb5
  have s5 := HB2.out.below hB5
  have z5 := hB5.size
  clear hb5
  go_wp2_with (at_builtin; refine wpList_append_bs rfl _ _ rfl w.heap.size _ n _ l rfl ho1 q m d k rfl HQn.out s5 ?_ z5 ?_)
  · omega
  intro g2 cap2 w6 ho2 hb6
  have hB6 := hB5.trans hb6
  have hall := Bs_own' ho2
  have z6 := hB6.size
  clear hb6 ho1
  have ho3 := own_empty w6 w6.heap.size (Nat.le_refl _)
  have hB7 := hB6.alloc z6 (.cells #[] 5)
  have u7 : Below w6.heap.size w6 (w6.alloc (.cells #[] 5)) := (Below.refl _ _).alloc (Nat.le_refl _) _
  have s7 := HB.out.below hB7
  go_wp2_with (at_builtin; refine wpList_append_bs rfl _ _ rfl w6.heap.size _ 0 0 [] rfl ho3 p n c l rfl HPn.out s7 ?_ ?_ ?_)
  · omega
  · simp
  intro g3 cap3 w8 ho4 hb8
  have ho4 : w8.ownsRow w6.heap.size 5 1 (.slice (some ⟨g3, 0, none⟩) n cap3) n (bcells l) := by simpa using ho4
  have u8 := u7.trans hb8
  have hB8 := hB6.trans (u8.mono z6)
  clear hb8 u7 hB7
  have hbit : bits .or .u8 128 (x % 64) = 128 + x % 64 := or128 _ (by omega) (by omega)
  have z8 := u8.size
  have ho5 : (w8.alloc (.cells #[.int .u8 (128 + x % 64)] 5)).ownsRow w6.heap.size 5 1 (.slice (some ⟨g3, 0, none⟩) n cap3) n (bcells l) := ho4.alloc _
  have u9 : Below w6.heap.size w6 (w8.alloc (.cells #[.int .u8 (128 + x % 64)] 5)) := u8.alloc z8 _
  go_wp2_with (at_builtin; refine wpList_append_bs rfl _ _ rfl w6.heap.size _ n _ l rfl ho5 (some ⟨w8.heap.size, 0, none⟩) 1 1 [128 + x % 64] rfl (fun h => by cases h) (Bs_one w8 _) ?_ ?_ ?_)
  · omega
  · simp; omega
  intro g4 cap4 w10 ho6 hb10
  have u10 := u9.trans hb10
  have hB10 := hB6.trans (u10.mono z6)
  have s10 := HB2.out.below hB10
  have z10 := u10.size
  clear hb10 u9 ho4 ho5 u8
  go_wp2_with (at_builtin; refine wpList_append_bs rfl _ _ rfl w6.heap.size _ (n + 1) _ (l ++ [128 + x % 64]) rfl ho6 q m d k rfl HQn.out s10 ?_ z10 ?_)
  · omega
  intro g5 cap5 w11 ho7 hb11
  have u11 := u10.trans hb11
  have hB11 := hB6.trans (u11.mono z6)
  have hbad := Bs_own' ho7
  rw [show l ++ (128 + x % 64) :: k = l ++ [128 + x % 64] ++ k by simp] at hbad
  have hall' := hall.below u11
  have hOx : Oct [128 + x % 64] := fun y hy => by simp at hy; omega
  have hO1 : Oct (l ++ k) := oct_append HO.out HO2.out
  have hO3 : Oct (l ++ [128 + x % 64] ++ k) := oct_append (oct_append HO.out hOx) HO2.out
  have hl1 : (l ++ k).length ≤ maxLen := by rw [List.length_append, HLN.out, HKN.out]; unfold maxLen; omega
  have hl3 : (l ++ [128 + x % 64] ++ k).length ≤ maxLen := by rw [List.length_append, List.length_append, HLN.out, HKN.out]; show n + 1 + m ≤ _; unfold maxLen; omega
  have k1 : chk (l ++ k) = -1 := good_join HO.out HO2.out HK.out HK2.out
  have k2 : chk (l ++ [128 + x % 64] ++ k) = n := by
    rw [List.append_assoc, ← HLN.out]
    exact bad_join HO.out HO2.out HK.out _ (by omega) (by omega)
  have k3 : cnt (l ++ k) = cnt l + cnt k := cnt_join _ 0 (Nat.le_refl _) HO.out HO2.out (by decide) HK.out
  have r1 := cnt_range _ (Nat.le_refl _) HO.out
  have r2 := cnt_range _ (Nat.le_refl _) HO2.out
  rw [HLN.out] at r1
  rw [HKN.out] at r2
  have hW : ∀ d os, Below w.heap.size w (grow (redrawn w11 d) os) := fun d os => hB11.trans ((below_regrown w11 d os).mono hB11.size)
  have hFW : ∀ d os, Forms (grow (redrawn w11 d) os) := fun d os => HF.out.below (hW d os) HF.out.size
  have C1 : ∀ d os, Calls Tryd.prog 16 #[.slice (some ⟨g2, 0, none⟩) (n + m) cap2] (grow (redrawn w11 d) os) fun e w'' => e = .returned (.int .i64 (-1)) ∧ ∃ p : Regrown, w'' = grow (redrawn w11 p.d) p.os := fun d os => by
    have := Check_any _ (l ++ k) (grow (redrawn w11 d) os) hO1 hl1 (hall'.below (below_regrown w11 d os)) (hFW d os)
    rw [k1] at this
    exact Calls.regrown_of this
  have C2 : ∀ d os, Calls Tryd.prog 16 #[.slice (some ⟨g5, 0, none⟩) (n + 1 + m) cap5] (grow (redrawn w11 d) os) fun e w'' => e = .returned (.int .i64 n) ∧ ∃ p : Regrown, w'' = grow (redrawn w11 p.d) p.os := fun d os => by
    have := Check_any _ (l ++ [128 + x % 64] ++ k) (grow (redrawn w11 d) os) hO3 hl3 (hbad.below (below_regrown w11 d os)) (hFW d os)
    rw [k2] at this
    exact Calls.regrown_of this
  have D : ∀ (u : List Int), Oct u → u.length ≤ maxLen → ∀ d os, Calls Tryd.prog 18 #[.string (strOf u)] (grow (redrawn w11 d) os) fun e w'' => e = .returned (.int .i64 (cnt u)) ∧ ∃ p : Regrown, w'' = grow (redrawn w11 p.d) p.os := fun u hu hlu d os => by
    have := Count_any (strOf u) (grow (redrawn w11 d) os) (by rw [strOf_size]; exact hlu) (hFW d os)
    rw [ints_strOf hu] at this
    exact Calls.regrown_of this
  have D1 := D (l ++ k) hO1 hl1
  have D2 := D l HO.out (by rw [HLN.out]; unfold maxLen; omega)
  have D3 := D k HO2.out (by rw [HKN.out]; unfold maxLen; omega)
  rw [k3] at D1
  have V1 : ∀ d os, (convert 22 9 (.slice (some ⟨g2, 0, none⟩) (n + m) cap2)).run Tryd.prog (grow (redrawn w11 d) os) = .ok (.string (strOf (l ++ k))) (grow (redrawn w11 d) os) := fun d os => conv_bytes (hall'.below (below_regrown w11 d os))
  have V2 : ∀ d os, (convert 22 9 (.slice p n c)).run Tryd.prog (grow (redrawn w11 d) os) = .ok (.string (strOf l)) (grow (redrawn w11 d) os) := fun d os => conv_bytes (HB.out.below (hW d os))
  have V3 : ∀ d' os, (convert 22 9 (.slice q m d)).run Tryd.prog (grow (redrawn w11 d') os) = .ok (.string (strOf k)) (grow (redrawn w11 d') os) := fun d' os => conv_bytes (HB2.out.below (hW d' os))
  revert D1 D2 D3 r1 r2
  generalize cnt l = c1
  generalize cnt k = c2
  generalize strOf (l ++ k) = s1 at *
  generalize strOf l = s2 at *
  generalize strOf k = s3 at *
  intro r1 r2 D1 D2 D3
  have HC1 := Lib.hid C1
  have HC2' := Lib.hid C2
  have HD1 := Lib.hid D1
  have HD2 := Lib.hid D2
  have HD3 := Lib.hid D3
  have b1 : (c1 + c2 == c1 + c2) = true := by simp
  have b2 : ((n : Int) == n) = true := by simp
  obtain ⟨r1a, r1b⟩ := r1
  obtain ⟨r2a, r2b⟩ := r2
  have q1 : IntKind.i64.wrap (c1 + c2) = c1 + c2 := IntWalk.i64_in _ (by omega)
  clear C1 C2 D D1 D2 D3 hW hFW k1 k2 k3 hO1 hO3 hl1 hl3 hOx
  clear hb11 ho6 u10 hall s10 s7 s5 s4 ho2 ho3 ho hall' hbad ho7 u11
  go_wp2
  refine wp_region_quiet_below follows_mixed (by kernel_rfl) ?_
  repeat (quiet_step (first | (with_reducible exact HC1.out _ _) | (with_reducible exact HC2'.out _ _) | (with_reducible exact HD1.out _ _) | (with_reducible exact HD2.out _ _) | (with_reducible exact HD3.out _ _)))
  refine wpQuiet_nil ?_
  intro _ hw'
  obtain ⟨⟨dq, osq⟩, hw''⟩ := hw'
  subst hw''
  go_wp2
  go_ret
  exact ⟨rfl, hB11.trans ((below_regrown w11 dq osq).mono hB11.size)⟩

theorem joins_any (p q : Option Addr) (n c m d : Nat) (x : Int) (w : World) (l k : List Int) (hO : Oct l) (hB : Bs w (.slice p n c) l) (hO2 : Oct k) (hB2 : Bs w (.slice q m d) k) (hF : Forms w) (hln : l.length = n) (hkn : k.length = m)
    (hp : p = none → n = 0 ∧ c = 0) (hq : q = none → m = 0 ∧ d = 0) (hn : n ≤ 140737488351232) (hm : m ≤ 140737488351232) (x0 : 0 ≤ x) (x1 : x ≤ 255) :
    Calls Tryd.prog 8 #[.slice p n c, .slice q m d, .int .u8 x] w fun e w' => e = .returned (.bool true) ∧ Below w.heap.size w w' := by
  by_cases hbig : 1000 < n + m
  · exact joins_great p q n c m d x w hF hn hm hbig
  have hs : n + m ≤ 1000 := by omega
  by_cases h1 : 0 ≤ chk l
  · exact joins_bad1 p q n c m d x w l hO hB hF hs hln h1
  by_cases h2 : 0 ≤ chk k
  · exact joins_bad2 p q n c m d x w l k hO hB hO2 hB2 hF hs hln hkn h1 h2
  have g1 : chk l = -1 := (chkF_range _ hO 0 (by decide) (Nat.le_refl _)).resolve_right fun h => h1 h.1
  have g2 : chk k = -1 := (chkF_range _ hO2 0 (by decide) (Nat.le_refl _)).resolve_right fun h => h2 h.1
  exact joins_good p q n c m d x w l k hO hB hO2 hB2 hF hs hln hkn hp hq g1 g2 x0 x1
end Go.Proofs.YtbajejhhmacflaaDoor.utf
