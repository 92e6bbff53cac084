/- For every text UtfQuotes answers true. -/
import Derived.Test.YtbajejhhmacflaaDoorUtfPB
import Derived.Test.YtbajejhhmacflaaDoorUtfQM
import Derived.Test.YtbajejhhmacflaaDoorUtfMA
import Derived.Test.YtbajejhhmacflaaDoorUtfFirst
namespace Go.Proofs.YtbajejhhmacflaaDoor.utf
open Go.PlainAid Go.ChangeShapes Go.WideShapes Go.ChangeAt Go.RowKit

theorem Bs_conv' (w : World) (s : ByteArray) : Bs (Lib.bytesWorld w 5 s) (.slice (some ⟨w.heap.size, 0, none⟩) s.size (grownCap w s.size 0 5)) (ints s) := by
  by_cases h : s.size = 0
  · exact .inl ⟨_, _, by rw [h], ints_nil_of h⟩
  · refine .inr ⟨w.heap.size, 0, grownCap w s.size 0 5, by rw [ints_length], by rw [ints_length]; omega, by rw [ints_length]; exact grownCap_ge _ _ _ _, by rw [Lib.bytesWorld_size]; omega, fun i hi => ?_⟩
    rw [ints_length] at hi
    rw [Nat.zero_add]
    exact conv_cells w s i hi

def sliceLen : Value → Nat | .slice _ n _ => n | _ => 0
theorem qs_len : ∀ l : List Int, (qs l).length ≤ 6 * l.length
  | [] => Nat.zero_le _
  | x :: l => by
    have h := qs_len l
    have := qb_len x
    show (qb x ++ qs l).length ≤ _
    rw [List.length_append, List.length_cons]
    omega

set_option maxHeartbeats 2000000 in
theorem quotes_great (s : ByteArray) (w : World) (hF : Forms w) (hs : s.size ≤ 140737488351232) (hbig : 500 < s.size) :
    Calls Tryd.prog 7 #[.string s] w fun e w' => e = .returned (.bool true) ∧ Below w.heap.size w w' := by
  have H := Lib.hid (awake_any w hF)
  clear hF
  go_enter Tryd.func7, Tryd.ntmps7
  go_wp2_with (go_at_call 11; refine H.out.mono ?_; rintro e w1 ⟨rfl, hb1⟩)
  go_ret
  exact ⟨rfl, hb1⟩

set_option maxHeartbeats 2000000 in
theorem quotes_bad (s : ByteArray) (w : World) (hF : Forms w) (hs : s.size ≤ 500) (hk : 0 ≤ chk (ints s)) :
    Calls Tryd.prog 7 #[.string s] w fun e w' => e = .returned (.bool true) ∧ Below w.heap.size w w' := by
  have H := Lib.hid (awake_any w hF)
  have HC : Hid (∀ W, Below w.heap.size w W → Calls Tryd.prog 16 #[.slice (some ⟨W.heap.size, 0, none⟩) s.size (grownCap W s.size 0 5)] (Lib.bytesWorld W 5 s) fun e w' => e = .returned (.int .i64 (chk (ints s))) ∧ Below W.heap.size W w') := fun W h => by
    have hbb := bytes_below' W s 5
    refine (Check_any _ (ints s) _ (ints_oct s) (by rw [ints_length]; unfold maxLen; omega) (Bs_conv' W s) (hF.below (h.trans (hbb.mono h.size)) hF.size)).mono ?_
    rintro e w' ⟨rfl, hb⟩
    exact ⟨rfl, hbb.trans (hb.mono hbb.size)⟩
  have hcv := fun (W : World) (s : ByteArray) => Lib.run_convert_string_bytes (P := Tryd.prog) W 9 22 5 s Tryd.underlying9 Tryd.underlying22 Tryd.underlying5
  generalize chk (ints s) = x at HC hk
  have d0 : decide ((500 : Int) < s.size) = false := decide_eq_false (by omega)
  have d1 : decide (0 ≤ x) = true := decide_eq_true hk
  clear hF
  go_enter Tryd.func7, Tryd.ntmps7
  go_wp2_with (go_at_call 11; refine H.out.mono ?_; rintro e w1 ⟨rfl, hb1⟩)
  refine (HC.out w1 hb1).mono ?_
  rintro e w2 ⟨rfl, hb2⟩
  have hb2 := hb1.trans (hb2.mono hb1.size)
  clear hcv
  go_wp2
  go_ret
  exact ⟨rfl, hb2⟩

set_option maxHeartbeats 2000000 in
theorem quotes_good (s : ByteArray) (w : World) (hF : Forms w) (hs : s.size ≤ 500) (hk : chk (ints s) = -1) :
    Calls Tryd.prog 7 #[.string s] w fun e w' => e = .returned (.bool true) ∧ Below w.heap.size w w' := by
  have H := Lib.hid (awake_any w hF)
  have HC : Hid (∀ W, Below w.heap.size w W → Calls Tryd.prog 16 #[.slice (some ⟨W.heap.size, 0, none⟩) s.size (grownCap W s.size 0 5)] (Lib.bytesWorld W 5 s) fun e w' => e = .returned (.int .i64 (-1)) ∧ Below W.heap.size W w') := fun W h => by
    have hbb := bytes_below' W s 5
    have := Check_any _ (ints s) _ (ints_oct s) (by rw [ints_length]; unfold maxLen; omega) (Bs_conv' W s) (hF.below (h.trans (hbb.mono h.size)) hF.size)
    rw [hk] at this
    refine this.mono ?_
    rintro e w' ⟨rfl, hb⟩
    exact ⟨rfl, hbb.trans (hb.mono hbb.size)⟩
  have hcv := fun (W : World) (s : ByteArray) => Lib.run_convert_string_bytes (P := Tryd.prog) W 9 22 5 s Tryd.underlying9 Tryd.underlying22 Tryd.underlying5
  have HQ : Hid (∀ W, Calls Tryd.prog 20 #[.string s] W fun e w' => e = .returned (.string (strOf (34 :: (qs (ints s) ++ [34])))) ∧ Below W.heap.size W w') := fun W => Quote_any s W (by omega)
  have HG : Hid (chkF s.size ((ints s).drop 0) ((0 : Nat) : Int) = -1) := by
    have := hk
    unfold chk at this
    rw [ints_length] at this
    exact this
  have HFw := Lib.hid hF
  have d0 : decide ((500 : Int) < s.size) = false := decide_eq_false (by omega)
  obtain ⟨z, hz⟩ : ∃ z, z = strOf (34 :: (qs (ints s) ++ [34])) := ⟨_, rfl⟩
  rw [← hz] at HQ
  have hOz : Oct (34 :: (qs (ints s) ++ [34])) := by
    have h1 := qs_oct (ints_oct s)
    intro x hx
    simp only [List.mem_cons, List.mem_append, List.not_mem_nil, or_false] at hx
    rcases hx with rfl | hx | rfl
    · omega
    · exact h1 x hx
    · omega
  have hiz : Hid (ints z = 34 :: (qs (ints s) ++ [34])) := by rw [hz]; exact ints_strOf hOz
  obtain ⟨N, hN⟩ : ∃ N, N = (qs (ints s)).length := ⟨_, rfl⟩
  have hzs : z.size = N + 2 := by rw [hz, strOf_size]; simp [hN]
  have hNb : N ≤ 6 * s.size := by rw [hN, ← ints_length]; exact qs_len _
  have HNl := Lib.hid hN
  clear hF hk hz hOz hN
  go_enter Tryd.func7, Tryd.ntmps7
  go_wp2_with (go_at_call 11; refine H.out.mono ?_; rintro e w1 ⟨rfl, hb1⟩)
  refine (HC.out w1 hb1).mono ?_
  rintro e w2 ⟨rfl, hb2⟩
  have hb2 := hb1.trans (hb2.mono hb1.size)
  clear hb1 H HC
  go_wp2_with fail
  refine (HQ.out w2).mono ?_
  rintro e w3 ⟨rfl, hb3⟩
  have hb3 := hb2.trans (hb3.mono hb2.size)
  clear hb2 HQ
  have hcz := hcv w3 z
  have hb4 := hb3.trans ((bytes_below' w3 z 5).mono hb3.size)
  have hz4 := Lib.bytesWorld_size w3 5 z
  have hcap := grownCap_ge w3 z.size 0 5
  have hcl : Hid (∀ i, i < N + 2 → (Lib.bytesWorld w3 5 z).cell? ⟨w3.heap.size, i, none⟩ = some (.int .u8 (gl (34 :: (qs (ints s) ++ [34])) i))) := fun i hi => by
    rw [conv_cells w3 z i (by omega), hiz.out]
  generalize Lib.bytesWorld w3 5 z = w4 at hcz hb4 hz4 hcl
  generalize grownCap w3 z.size 0 5 = C at hcz hcap
  generalize hG : w3.heap.size = G at hcz hz4 hcl
  rw [hzs] at hcz hcap
  have hw : w.heap.size ≤ G := by rw [← hG]; exact hb3.size
  have c0 : w4.cell? ⟨G, 0, none⟩ = some (.int .u8 34) := hcl.out 0 (by omega)
  have c1 : w4.cell? ⟨G, N + 1, none⟩ = some (.int .u8 34) := by
    rw [hcl.out (N + 1) (by omega)]
    have : gl (34 :: (qs (ints s) ++ [34])) (N + 1) = 34 := by
      rw [HNl.out]; unfold gl; simp [List.getD_eq_getElem?_getD]
    rw [this]
  have HB4 := Lib.hid hb4
  clear hcv hb3 hb4 hzs hiz
  have hC1 : N + 1 < C := by omega
  go_wp2
  have hN2 : N + 2 - 1 - 1 = N := by omega
  simp only [hN2]
  go_loopw [4, 5] (fun q o wr => ∃ (k j n c off cc : Nat) (p : Option Addr), q = .slice (some ⟨G, off, none⟩) n c ∧ Hid (off = 1 + j) ∧ n + j = N ∧ n + 1 ≤ c ∧ o = .slice p k cc ∧ k ≤ s.size ∧ Hid (Bs wr (.slice p k cc) ((ints s).take k)) ∧ Hid ((qs (ints s)).drop j = qs ((ints s).drop k)) ∧ Hid (chkF s.size ((ints s).drop k) (k : Int) = -1) ∧ Below (G + 1) w4 wr) (fun q _ _ => sliceLen q)
  case atStart => exact ⟨0, 0, N, C - 1, 1, 0, none, rfl, rfl, by omega, by omega, rfl, by omega, .inl ⟨_, _, rfl, rfl⟩, rfl, HG, Below.refl _ _⟩
  case round =>
    clear HG c0 c1
    obtain ⟨k, j, n, c, off, cc, p, rfl, hoff, hn, hc, rfl, hk, HBo, HD, HK, hb⟩ := hrel
    have hbs := hb.size
    have hil := ints_length s
    by_cases hn0 : n = 0
    · have he : (ints s).drop k = [] := by
        apply qs_nil_iff
        rw [← HD.out]
        apply List.drop_eq_nil_of_le
        rw [← HNl.out]
        omega
      have hks : k = s.size := by
        have := congrArg List.length he
        simp at this
        omega
      have hcv2 := conv_bytes HBo.out
      have he2 : strOf ((ints s).take k) = s := by rw [hks, ← hil, List.take_length, strOf_ints]
      rw [he2] at hcv2
      subst hn0
      clear HBo HD HK he hks he2
      go_wp2
      go_ret
      exact ⟨rfl, HB4.out.trans (hb.mono (by omega))⟩
    · have hOs := ints_oct s
      have hOd := hOs.drop k
      have hOq := qs_oct hOd
      have hlq : (qs ((ints s).drop k)).length = n := by
        rw [← HD.out, List.length_drop, ← HNl.out]
        omega
      have hne : (ints s).drop k ≠ [] := fun e => by rw [e] at hlq; simp [qs] at hlq; omega
      have hdl : ((ints s).drop k).length = s.size - k := by rw [List.length_drop, hil]
      have hz : (nxl ((ints s).drop k)).2 ≠ 0 := fun e => by
        have := HK.out
        rw [chkF_bad _ hne e (by omega)] at this
        omega
      have hl0 := (nxl_len hOd).1
      obtain ⟨m, hm⟩ := Int.eq_ofNat_of_zero_le hl0
      obtain ⟨r, hr⟩ : ∃ r, r = (nxl ((ints s).drop k)).1 := ⟨_, rfl⟩
      have hnx : nxl ((ints s).drop k) = (r, (m : Int)) := Prod.ext hr.symm hm
      have hm0 : m ≠ 0 := fun e => by rw [hm, e] at hz; exact hz rfl
      obtain ⟨hru, hte, hm1, hml, hcase⟩ := quote_step hOd hnx hm0
      have hKn : Hid (chkF s.size ((ints s).drop (k + m)) ((k + m : Nat) : Int) = -1) := by
        have := HK.out
        rw [chkF_step hOd _ hne hz (by omega), hnx] at this
        simp only [List.drop_drop, Int.toNat_natCast] at this
        rw [show ((k + m : Nat) : Int) = (k : Int) + (m : Int) by omega]
        exact this
      have hel : (enc r).length = m := by rw [← hte, List.length_take]; omega
      have hfx : fixed r = r := if_pos hru
      have htk : (ints s).take (k + m) = (ints s).take k ++ enc r := by rw [← hte, List.take_add]
      have hkl : ((ints s).take k).length = k := by rw [List.length_take]; omega
      have hkm : k + m ≤ s.size := by omega
      have HP : Hid (∀ W, Below wr.heap.size wr W → Calls Tryd.prog 22 #[.slice p k cc, .int .i32 r] W fun e w' => e = .returned (.slice (some ⟨W.heap.size, 0, none⟩) (k + m) (k + m)) ∧ Below W.heap.size W w' ∧ Bs w' (.slice (some ⟨W.heap.size, 0, none⟩) (k + m) (k + m)) ((ints s).take (k + m))) := fun W h => by
        have := Put_any p k cc ((ints s).take k) r W (HBo.out.below h) hkl (by omega)
        rw [hfx, hel, ← htk] at this
        exact this
      have hcell : ∀ i, i < n → wr.cell? ⟨G, off + i, none⟩ = some (.int .u8 (gl (qs ((ints s).drop k)) i)) := fun i hi => by
        rw [hb.cell (p := ⟨G, off + i, none⟩) (by show G < G + 1; omega), hcl.out (off + i) (by have := hoff.out; omega), hoff.out, ← HD.out, gl_drop, Nat.add_assoc, Nat.add_comm 1]
        show some (Value.int .u8 (gl (34 :: (qs (ints s) ++ [34])) ((j + i) + 1))) = _
        rw [show gl (34 :: (qs (ints s) ++ [34])) ((j + i) + 1) = gl (qs (ints s) ++ [34]) (j + i) from rfl, gl_append_left _ _ _ (by rw [← HNl.out]; omega)]
      have hBq : Bs wr (.slice (some ⟨G, off, none⟩) n c) (qs ((ints s).drop k)) := by
        refine .inr ⟨G, off, c, by rw [hlq], by omega, by omega, by omega, fun i hi => hcell i (by omega)⟩
      have hFr : Forms wr := HFw.out.below (HB4.out.trans (hb.mono (by omega))) HFw.out.size
      have hNX := Next_any _ _ wr hOq (by rw [hlq]; unfold maxLen; omega) hBq hFr
      have hrr : 0 ≤ r ∧ r ≤ 1114111 := ⟨hru.1, hru.2.2⟩
      rcases hcase with ⟨h32, h34, h92, hq1, hq2, hq3⟩ | ⟨rfl, t, ht1, ht5, hq1, hq2, hq3⟩
      · rw [hq1] at hNX
        have HN := Lib.hid hNX
        have hDn : Hid ((qs (ints s)).drop (j + m) = qs ((ints s).drop (k + m))) := by
          have := hq3
          rw [← HD.out, List.drop_drop, List.drop_drop] at this
          exact this
        rw [hlq] at hq2
        have e92 : (r == 92) = false := beq_eq_false_iff_ne.2 h92
        have e34 : (r == 34) = false := beq_eq_false_iff_ne.2 h34
        have e32 : decide (r < 32) = false := decide_eq_false (by omega)
        have em : ((m : Int) == 0) = false := beq_eq_false_iff_ne.2 (by omega)
        obtain ⟨hr0, hr1⟩ := hrr
        have hoff' := hoff
        clear hNX HD HK hnx hq1 hq3 hr hm hz hl0 hte hel hfx htk hkl hru hcell hBq hFr hOq hOd hOs hne hlq hdl hil h34 h92 hcl
        go_wp2_with (go_at_call 12; with_reducible refine HN.out.mono ?_; rintro e w5 ⟨rfl, hb5⟩)
        with_reducible refine (HP.out w5 hb5).mono ?_
        rintro e w6 ⟨rfl, hb6, HB6⟩
        have hb6' := hb.trans ((hb5.trans (hb6.mono hb5.size)).mono (by omega))
        have HB6' := Lib.hid HB6
        clear HB6 hb6 hb5
        go_wp2
        constructor
        · exact ⟨k + m, j + m, n - m, c - m, off + m, k + m, some ⟨w5.heap.size, 0, none⟩, rfl, by rw [hoff.out]; exact Nat.add_assoc _ _ _, by omega, by omega, rfl, hkm, HB6'.out, hDn, hKn, hb6'⟩
        · show n - m < n
          omega
      · rw [hq2] at hNX
        have HN := Lib.hid hNX
        have hlt : (qs ((ints s).drop k)).length = 1 + (t.length + (qs (((ints s).drop k).drop 1)).length) := by
          rw [hq1, List.length_append, List.length_append]; rfl
        have hd1 : (qs ((ints s).drop k)).drop 1 = t ++ qs (((ints s).drop k).drop 1) := by rw [hq1]; rfl
        have hDn : Hid ((qs (ints s)).drop (j + (t.length + 1)) = qs ((ints s).drop (k + 1))) := by
          rw [← List.drop_drop, HD.out, Nat.add_comm t.length 1, ← List.drop_drop, hd1, List.drop_left, List.drop_drop]
          trivial
        have hBe : Bs wr (.slice (some ⟨G, off + 1, none⟩) (n - 1) (c - 1)) (t ++ qs (((ints s).drop k).drop 1)) := by
          have := Bs.drop (w := wr) (b := G) (off := off) (cap := c) (k := 1) (l := qs ((ints s).drop k)) (by omega) (by omega) (by omega) (fun i hi => hcell i (by omega))
          rw [hd1, hlq] at this
          exact this
        have HE : Hid (∀ W, Below wr.heap.size wr W → Calls Tryd.prog 14 #[.slice (some ⟨G, off + 1, none⟩) (n - 1) (c - 1)] W fun e w' => e = .returned (.tuple #[.int .i32 r, .int .i64 t.length]) ∧ W = w') := fun W h => by
          have := Escape_any _ _ W (by rw [← hd1]; exact hOq.drop 1) (by rw [← hd1, List.length_drop]; omega) (hBe.below h)
          rw [hq3] at this
          exact this
        rw [hlq] at hlt
        generalize t.length = tl at hlt hDn HE ht1 ht5
        have htn : tl + 1 ≤ n := by omega
        obtain ⟨hr0, hr1⟩ := hrr
        have e1 : ((tl : Int) + 1 == 1) = false := beq_eq_false_iff_ne.2 (by omega)
        clear hNX HD HK hnx hq1 hq2 hq3 hr hm hz hl0 hte hel hfx htk hkl hru hcell hBq hFr hOq hOd hOs hne hlq hdl hil hd1 hBe hcl hlt
        go_wp2_with (go_at_call 12; with_reducible refine HN.out.mono ?_; rintro e w5 ⟨rfl, hb5⟩)
        with_reducible refine (HE.out w5 hb5).mono ?_
        rintro e w' ⟨rfl, rfl⟩
        go_wp2_with fail
        with_reducible refine (HP.out w5 hb5).mono ?_
        rintro e w6 ⟨rfl, hb6, HB6⟩
        have hb6' := hb.trans ((hb5.trans (hb6.mono hb5.size)).mono (by omega))
        have HB6' := Lib.hid HB6
        clear HB6 hb6 hb5
        go_wp2
        constructor
        · exact ⟨k + 1, j + (tl + 1), n - (tl + 1), c - (tl + 1), off + (tl + 1), k + 1, some ⟨w5.heap.size, 0, none⟩, rfl, by rw [hoff.out]; exact Nat.add_assoc _ _ _, by omega, by omega, rfl, hkm, HB6'.out, hDn, hKn, hb6'⟩
        · show n - (tl + 1) < n
          omega
theorem quotes_any (s : ByteArray) (w : World) (hs : s.size ≤ 140737488351232) (hF : Forms w) :
    Calls Tryd.prog 7 #[.string s] w fun e w' => e = .returned (.bool true) ∧ Below w.heap.size w w' := by
  by_cases h1 : 500 < s.size
  · exact quotes_great s w hF hs h1
  by_cases h2 : 0 ≤ chk (ints s)
  · exact quotes_bad s w hF (by omega) h2
  · have := chkF_range (ints s).length (ints_oct s) 0 (by omega) (Nat.le_refl _)
    exact quotes_good s w hF (by omega) (by unfold chk at *; omega)
end Go.Proofs.YtbajejhhmacflaaDoor.utf
