/- split: a number's text as its pieces. -/
import Derived.Test.YtkifndecpbphbaaDoorHB
import Derived.Deep.DeepCutAuto
import Derived.Deep.CutBlock
namespace Go.Proofs.YtkifndecpbphbaaDoor.dk
open Go.PlainAid Go.ChangeShapes Go.WideShapes Go.ChangeAt Go.RowKit

set_option maxRecDepth 100000 in
set_option maxHeartbeats 4000000 in
theorem split_00 (w : World) (s : ByteArray) (hs : s.size ≤ 1000000) (h11 : ¬1 < dn ((unstr s).drop (nk (unstr s) [45] 0))) (hT : hit (unstr s) [46] (nk (unstr s) [45] 0 + dn ((unstr s).drop (nk (unstr s) [45] 0))) = false) :
    Calls Tryd.prog 57 #[.string s] w (SPost w (splitOf s)) := by
  have H11 := Lib.hid h11
  have HT := Lib.hid hT
  clear h11 hT
  have hul := unstr_length s
  have hs9 : s.size ≤ 1000000000 := by omega
  obtain ⟨b1, h1⟩ : ∃ b, b = w.heap.size + 1 := ⟨_, rfl⟩
  obtain ⟨b2, h2⟩ : ∃ b, b = b1 + 1 := ⟨_, rfl⟩
  obtain ⟨b3, h3⟩ : ∃ b, b = b2 + 1 := ⟨_, rfl⟩
  obtain ⟨b4, h4⟩ : ∃ b, b = b3 + 1 := ⟨_, rfl⟩
  have hst := SpI.start w s b1 b2 b3 b4 h1 h2 h3 h4
  unfold fnv at hst
  obtain ⟨wa, hwa⟩ : ∃ wa, wa = (((((w.alloc (.cells #[.string s] 9)).alloc (.cells #[.bool false, .string ⟨#[]⟩, .string ⟨#[]⟩, .int .i64 0] 87)).alloc (.cells #[.bool false, .string ⟨#[]⟩, .string ⟨#[]⟩, .int .i64 0] 87)).alloc (.cells #[.int .i64 0] 3)).alloc (.cells #[.func (.func 66) #[] #[.pointer (some ⟨b3, 0, none⟩), .pointer (some ⟨w.heap.size, 0, none⟩)]] 99)) := ⟨_, rfl⟩
  rw [← hwa] at hst
  have I0 := Lib.hid hst
  have HW := Lib.hid hwa
  have H1 := Lib.hid h1
  have H2 := Lib.hid h2
  have H3 := Lib.hid h3
  have H4 := Lib.hid h4
  clear hst hwa h1 h2 h3 h4
  obtain ⟨r, hr⟩ : ∃ r, r = splitOf s := ⟨_, rfl⟩
  rw [← hr]
  have HR := Lib.hid hr
  clear hr
  go_enter Tryd.func57, Tryd.ntmps57
  go_wp2_with fail
  rw [← H1.out, ← H2.out, ← H3.out, ← H4.out, ← HW.out]
  clear HW H1 H2 H3 H4
  have hN : Calls Tryd.prog 66 #[.string ⟨#[45]⟩, .pointer (some ⟨b3, 0, none⟩), .pointer (some ⟨w.heap.size, 0, none⟩)] wa fun e w' => e = .returned (.int .u8 (nc (unstr s) [45] 0)) ∧ Boxed w' b3 3 (.int .i64 ((nk (unstr s) [45] 0 : Nat) : Int)) ∧ wa.grownBy w' (some b3) := next_any wa b3 w.heap.size s ⟨#[45]⟩ 0 hs9 I0.out.ba I0.out.bs
  have hZ : (nc (unstr s) [45] 0 != 0) = hit (unstr s) [45] 0 := nc_ne (by decide)
  have hL := nk_le (l := unstr s) (sg := [45]) (k := 0) (by rw [hul]; exact I0.out.le)
  rw [hul] at hL
  generalize hn : hit (unstr s) [45] 0 = n at hZ
  generalize hk1 : nk (unstr s) [45] 0 = k1 at hN hL
  generalize hcn : nc (unstr s) [45] 0 = cn at hN hZ
  have HN := Lib.hid hN
  with_reducible refine HN.out.mono ?_
  rintro e W1 ⟨rfl, hA, hg⟩
  have hI := I0.out.move hA hg hL
  have I1 := Lib.hid hI
  have Hn := Lib.hid hn
  have Hk1 := Lib.hid hk1
  have HCn := Lib.hid hcn
  have zn := hZ
  clear hA hg hI hN HN hL hZ hn hk1 hcn
  clear I0
  have fn := I1.out.bn.cell
  unfold fnv at fn
  obtain ⟨⟨f0, f1, f2, f3⟩, ff0, ff1, ff2, ff3⟩ := row4 I1.out.bp
  obtain ⟨⟨fx0, fx1, fx2, fx3⟩, fr0, fr1, fr2, fr3⟩ := row4 I1.out.br
  have I2 := Lib.hid (I1.out.put (neg' := n) (wh' := ⟨#[]⟩) (pt' := ⟨#[]⟩) (ex' := 0) 0 (.bool n) rfl)
  clear I1
  go_wp2_with fail
  clear fn f0 f1 f2 f3 ff0 ff1 ff2 ff3 fr0 fr1 fr2 fr3 fx0 fx1 fx2 fx3
  have hD := digits_any (W1.setCell ⟨b2, 0, none⟩ (.bool n)) b3 b4 w.heap.size s k1 hs9 I2.out.le I2.out.ba I2.out.bs I2.out.bn
  have hL := dn_le ((unstr s).drop k1)
  rw [List.length_drop, hul] at hL
  have hle := I2.out.le
  generalize hd : dn ((unstr s).drop k1) = d1 at hD hL
  have hS1 := cut_size s k1 (k1 + d1) (by omega)
  have hS2 := cut_unstr s k1 d1
  generalize hE : s.extract k1 (k1 + d1) = wh at hD hS1 hS2
  have hsz : wh.size = d1 := by omega
  have HD := Lib.hid hD
  with_reducible refine HD.out.mono ?_
  rintro e W2 ⟨rfl, hA, hg⟩
  have hI := I2.out.move hA hg (by omega)
  have I3 := Lib.hid hI
  have Hd1 := Lib.hid hd
  have Hwh := Lib.hid hE
  have HUwh := Lib.hid hS2
  have HSwh := Lib.hid hsz
  clear hA hg hI hD HD hL hle hd hE hS1 hS2
  have I4 := Lib.hid (I3.out.put (neg' := n) (wh' := wh) (pt' := ⟨#[]⟩) (ex' := 0) 1 (.string wh) rfl)
  have fn := I3.out.bn.cell
  unfold fnv at fn
  obtain ⟨⟨f0, f1, f2, f3⟩, ff0, ff1, ff2, ff3⟩ := row4 I3.out.bp
  obtain ⟨⟨fx0, fx1, fx2, fx3⟩, fr0, fr1, fr2, fr3⟩ := row4 I3.out.br
  have gn := I4.out.bn.cell
  unfold fnv at gn
  obtain ⟨⟨g0, g1, g2, g3⟩, gf0, gf1, gf2, gf3⟩ := row4 I4.out.bp
  obtain ⟨⟨gx0, gx1, gx2, gx3⟩, gr0, gr1, gr2, gr3⟩ := row4 I4.out.br
  clear I2 I3 zn
  by_cases d10 : d1 = 0
  · obtain rfl : wh = ⟨#[]⟩ := ba_nil (by rw [hsz]; exact d10)
    go_wp2_with fail
    have hS4 := set4 (v0 := .bool n) (v1 := .string ⟨#[]⟩) (v2 := .string ⟨#[]⟩) (v3 := .int .i64 0) I4.out.br (Nat.le_of_lt I4.out.o1) I4.out.below
    refine bodyPost_ret (results_row_tmp rfl _ _ b1 _ _ _ _ rfl hS4.1 Tryd.underlying87 rfl (by kernel_rfl)) rfl ⟨hS4.2, false, _, _, _, _, rfl, ?_⟩
    have hr := HR.out
    unfold splitOf at hr
    simp only [Hk1.out, Hd1.out] at hr
    rw [if_pos (.inl d10)] at hr
    exact sok_none hr
  have dz1 := ba_full (b := wh) (by rw [hsz]; exact d10)
  by_cases d11 : 1 < d1
  · exact absurd d11 (by rw [← Hd1.out, ← Hk1.out]; exact H11.out)
  · have q1 : decide ((1 : Int) < ((wh.size : Nat) : Int)) = false := decide_eq_false (by omega)
    have q1n : decide (1 < wh.size) = false := decide_eq_false (by omega)
    have HX := Lib.hid (show ¬(d1 = 0 ∨ (1 < d1 ∧ (unstr s).getD k1 0 = 48)) from fun e => e.elim d10 fun e => d11 e.1)
    go_wp2_with fail
    clear fn f0 f1 f2 f3 ff0 ff1 ff2 ff3 fr0 fr1 fr2 fr3 fx0 fx1 fx2 fx3
    clear gn g0 g1 g2 g3 gf0 gf1 gf2 gf3 gr0 gr1 gr2 gr3 gx0 gx1 gx2 gx3
    have hN : Calls Tryd.prog 66 #[.string ⟨#[46]⟩, .pointer (some ⟨b3, 0, none⟩), .pointer (some ⟨w.heap.size, 0, none⟩)] (W2.setCell ⟨b2, 1, none⟩ (.string wh)) fun e w' => e = .returned (.int .u8 (nc (unstr s) [46] (k1 + d1))) ∧ Boxed w' b3 3 (.int .i64 ((nk (unstr s) [46] (k1 + d1) : Nat) : Int)) ∧ (W2.setCell ⟨b2, 1, none⟩ (.string wh)).grownBy w' (some b3) := next_any (W2.setCell ⟨b2, 1, none⟩ (.string wh)) b3 w.heap.size s ⟨#[46]⟩ (k1 + d1) hs9 I4.out.ba I4.out.bs
    have hZ : (nc (unstr s) [46] (k1 + d1) != 0) = hit (unstr s) [46] (k1 + d1) := nc_ne (by decide)
    have hL := nk_le (l := unstr s) (sg := [46]) (k := (k1 + d1)) (by rw [hul]; exact I4.out.le)
    rw [hul] at hL
    generalize ht : hit (unstr s) [46] (k1 + d1) = t at hZ
    generalize hk3 : nk (unstr s) [46] (k1 + d1) = k3 at hN hL
    generalize hct : nc (unstr s) [46] (k1 + d1) = ct at hN hZ
    have HN := Lib.hid hN
    with_reducible refine HN.out.mono ?_
    rintro e W3 ⟨rfl, hA, hg⟩
    have hI := I4.out.move hA hg hL
    have I5 := Lib.hid hI
    have Ht := Lib.hid ht
    have Hk3 := Lib.hid hk3
    have HCt := Lib.hid hct
    have zt := hZ
    clear hA hg hI hN HN hL hZ ht hk3 hct
    clear I4
    cases t with
    | true =>
      have hw := Ht.out
      rw [← Hd1.out, ← Hk1.out, HT.out] at hw
      exact absurd hw (by decide)
    | false =>
      have fn := I5.out.bn.cell
      unfold fnv at fn
      obtain ⟨⟨f0, f1, f2, f3⟩, ff0, ff1, ff2, ff3⟩ := row4 I5.out.bp
      obtain ⟨⟨fx0, fx1, fx2, fx3⟩, fr0, fr1, fr2, fr3⟩ := row4 I5.out.br
      go_wp2_with fail
      clear fn f0 f1 f2 f3 ff0 ff1 ff2 ff3 fr0 fr1 fr2 fr3 fx0 fx1 fx2 fx3
      have hN : Calls Tryd.prog 66 #[.string ⟨#[101, 69]⟩, .pointer (some ⟨b3, 0, none⟩), .pointer (some ⟨w.heap.size, 0, none⟩)] W3 fun e w' => e = .returned (.int .u8 (nc (unstr s) [101, 69] k3)) ∧ Boxed w' b3 3 (.int .i64 ((nk (unstr s) [101, 69] k3 : Nat) : Int)) ∧ W3.grownBy w' (some b3) := next_any W3 b3 w.heap.size s ⟨#[101, 69]⟩ k3 hs9 I5.out.ba I5.out.bs
      have hZ : (nc (unstr s) [101, 69] k3 != 0) = hit (unstr s) [101, 69] k3 := nc_ne (by decide)
      have hL := nk_le (l := unstr s) (sg := [101, 69]) (k := k3) (by rw [hul]; exact I5.out.le)
      rw [hul] at hL
      generalize he : hit (unstr s) [101, 69] k3 = e at hZ
      generalize hk5 : nk (unstr s) [101, 69] k3 = k5 at hN hL
      generalize hce : nc (unstr s) [101, 69] k3 = ce at hN hZ
      have HN := Lib.hid hN
      with_reducible refine HN.out.mono ?_
      rintro e W5 ⟨rfl, hA, hg⟩
      have hI := I5.out.move hA hg hL
      have I8 := Lib.hid hI
      have He := Lib.hid he
      have Hk5 := Lib.hid hk5
      have HCe := Lib.hid hce
      have ze := hZ
      clear hA hg hI hN HN hL hZ he hk5 hce
      clear I5
      cases e with
      | false =>
        have hca := I8.out.ba.cell
        have hcs := I8.out.bs.cell
        have e1 : b3 ≠ b1 := by have := I8.out.o2; have := I8.out.o3; omega
        have e2 : b1 ≠ b3 := Ne.symm e1
        have e3 : w.heap.size ≠ b1 := by have := I8.out.o1; omega
        have e4 : b1 ≠ w.heap.size := Ne.symm e3
        have gn := I8.out.bn.cell
        unfold fnv at gn
        obtain ⟨⟨g0, g1, g2, g3⟩, gf0, gf1, gf2, gf3⟩ := row4 I8.out.bp
        obtain ⟨⟨gx0, gx1, gx2, gx3⟩, gr0, gr1, gr2, gr3⟩ := row4 I8.out.br
        go_upto_region 21 with fail
        go_region
        have hS := set4 (v0 := .bool n) (v1 := .string wh) (v2 := .string ⟨#[]⟩) (v3 := .int .i64 0) I8.out.br (Nat.le_of_lt I8.out.o1) I8.out.below
        have HS := Lib.hid (drew_pair hS)
        clear hS hca hcs e1 e2 e3 e4
        clear gn g0 g1 g2 g3 gf0 gf1 gf2 gf3 gr0 gr1 gr2 gr3 gx0 gx1 gx2 gx3
        go_wp2_with fail
        refine bodyPost_ret (results_row_tmp rfl _ _ b1 _ _ _ _ rfl HS.out.1 Tryd.underlying87 rfl (by kernel_rfl)) rfl ⟨HS.out.2, _, _, _, _, _, rfl, ?_⟩
        have hr := HR.out
        unfold splitOf at hr
        simp only [Hn.out, Hk1.out, Hd1.out, Hwh.out, Ht.out, Hk3.out, Nat.add_zero, cut_none, He.out, Hk5.out, ↓reduceIte, false_and, Bool.false_eq_true] at hr
        rw [if_neg HX.out] at hr
        exact fin_ok (L := s.size) (by rw [hr, hul])
      | true =>
        have fn := I8.out.bn.cell
        unfold fnv at fn
        obtain ⟨⟨f0, f1, f2, f3⟩, ff0, ff1, ff2, ff3⟩ := row4 I8.out.bp
        obtain ⟨⟨fx0, fx1, fx2, fx3⟩, fr0, fr1, fr2, fr3⟩ := row4 I8.out.br
        go_wp2_with fail
        clear fn f0 f1 f2 f3 ff0 ff1 ff2 ff3 fr0 fr1 fr2 fr3 fx0 fx1 fx2 fx3
        have hN : Calls Tryd.prog 66 #[.string ⟨#[43, 45]⟩, .pointer (some ⟨b3, 0, none⟩), .pointer (some ⟨w.heap.size, 0, none⟩)] W5 fun e w' => e = .returned (.int .u8 (nc (unstr s) [43, 45] k5)) ∧ Boxed w' b3 3 (.int .i64 ((nk (unstr s) [43, 45] k5 : Nat) : Int)) ∧ W5.grownBy w' (some b3) := next_any W5 b3 w.heap.size s ⟨#[43, 45]⟩ k5 hs9 I8.out.ba I8.out.bs
        have hZ : (nc (unstr s) [43, 45] k5 != 0) = hit (unstr s) [43, 45] k5 := nc_ne (by decide)
        have hL := nk_le (l := unstr s) (sg := [43, 45]) (k := k5) (by rw [hul]; exact I8.out.le)
        rw [hul] at hL
        generalize hm : hit (unstr s) [43, 45] k5 = m at hZ
        generalize hk6 : nk (unstr s) [43, 45] k5 = k6 at hN hL
        generalize hcm : nc (unstr s) [43, 45] k5 = cm at hN hZ
        have HN := Lib.hid hN
        with_reducible refine HN.out.mono ?_
        rintro e W6 ⟨rfl, hA, hg⟩
        have hI := I8.out.move hA hg hL
        have I9 := Lib.hid hI
        have Hm := Lib.hid hm
        have Hk6 := Lib.hid hk6
        have HCm := Lib.hid hcm
        have zm := hZ
        clear hA hg hI hN HN hL hZ hm hk6 hcm
        clear I8 zm
        go_wp2_with fail
        have hD := digits_any W6 b3 b4 w.heap.size s k6 hs9 I9.out.le I9.out.ba I9.out.bs I9.out.bn
        have hL := dn_le ((unstr s).drop k6)
        rw [List.length_drop, hul] at hL
        have hle := I9.out.le
        generalize hd : dn ((unstr s).drop k6) = d3 at hD hL
        have hS1 := cut_size s k6 (k6 + d3) (by omega)
        have hS2 := cut_unstr s k6 d3
        generalize hE : s.extract k6 (k6 + d3) = xt at hD hS1 hS2
        have hsz : xt.size = d3 := by omega
        have HD := Lib.hid hD
        with_reducible refine HD.out.mono ?_
        rintro e W7 ⟨rfl, hA, hg⟩
        have hI := I9.out.move hA hg (by omega)
        have I10 := Lib.hid hI
        have Hd3 := Lib.hid hd
        have Hxt := Lib.hid hE
        have HUxt := Lib.hid hS2
        have HSxt := Lib.hid hsz
        clear hA hg hI hD HD hL hle hd hE hS1 hS2
        clear I9
        by_cases d30 : d3 = 0
        · obtain rfl : xt = ⟨#[]⟩ := ba_nil (by rw [hsz]; exact d30)
          have fn := I10.out.bn.cell
          unfold fnv at fn
          obtain ⟨⟨f0, f1, f2, f3⟩, ff0, ff1, ff2, ff3⟩ := row4 I10.out.bp
          obtain ⟨⟨fx0, fx1, fx2, fx3⟩, fr0, fr1, fr2, fr3⟩ := row4 I10.out.br
          go_wp2_with fail
          have hS4 := set4 (v0 := .bool n) (v1 := .string wh) (v2 := .string ⟨#[]⟩) (v3 := .int .i64 0) I10.out.br (Nat.le_of_lt I10.out.o1) I10.out.below
          refine bodyPost_ret (results_row_tmp rfl _ _ b1 _ _ _ _ rfl hS4.1 Tryd.underlying87 rfl (by kernel_rfl)) rfl ⟨hS4.2, false, _, _, _, _, rfl, ?_⟩
          have hr := HR.out
          unfold splitOf at hr
          simp only [Hn.out, Hk1.out, Hd1.out, Hwh.out, Ht.out, Hk3.out, Nat.add_zero, cut_none, He.out, Hk5.out, HCm.out, Hk6.out, Hd3.out, ↓reduceIte, false_and, Bool.false_eq_true] at hr
          rw [if_neg HX.out] at hr
          rw [if_pos d30] at hr
          exact sok_none hr
        have dz3 := ba_full (b := xt) (by rw [hsz]; exact d30)
        have hxd : ∀ x ∈ unstr xt, isDig x = true := by rw [HUxt.out, ← Hd3.out]; exact dn_all _
        have hX := exponent_any W7 xt (by have h1 := cut_size s k6 (k6 + d3) I10.out.le; have h2 := I10.out.le; rw [Hxt.out] at h1; omega) hxd
        have hrg := dexp_range (unstr xt) hxd
        have HDx := Lib.hid (show dexp (unstr xt) = dexp (((unstr s).drop k6).take d3) by rw [HUxt.out])
        generalize dexp (unstr xt) = x at hX hrg HDx
        have HXx := Lib.hid hX
        clear hX hxd
        go_wp2_with fail
        with_reducible refine HXx.out.mono ?_
        rintro e W8 ⟨rfl, hb8⟩
        have I11 := Lib.hid (I10.out.past hb8)
        clear HXx hb8 I10
        have I12 := Lib.hid (I11.out.put (neg' := n) (wh' := wh) (pt' := ⟨#[]⟩) (ex' := x) 3 (.int .i64 x) rfl)
        have fn := I11.out.bn.cell
        unfold fnv at fn
        obtain ⟨⟨f0, f1, f2, f3⟩, ff0, ff1, ff2, ff3⟩ := row4 I11.out.bp
        obtain ⟨⟨fx0, fx1, fx2, fx3⟩, fr0, fr1, fr2, fr3⟩ := row4 I11.out.br
        clear I11
        by_cases h45 : cm = 45
        · have q5 : (cm == 45) = true := beq_iff_eq.2 h45
          have hn := I12.out.bn.cell
          unfold fnv at hn
          obtain ⟨⟨h0, h1, h2, h3⟩, hf0, hf1, hf2, hf3⟩ := row4 I12.out.bp
          obtain ⟨⟨hx0, hx1, hx2, hx3⟩, hr0, hr1, hr2, hr3⟩ := row4 I12.out.br
          have I13 := Lib.hid (I12.out.put (neg' := n) (wh' := wh) (pt' := ⟨#[]⟩) (ex' := -x) 3 (.int .i64 (-x)) rfl)
          have wx : IntKind.i64.wrap (-x) = -x := by rw [IntKind.wrap_i64]; omega
          have HLf : True := trivial
          clear I12
          have hca := I13.out.ba.cell
          have hcs := I13.out.bs.cell
          have e1 : b3 ≠ b1 := by have := I13.out.o2; have := I13.out.o3; omega
          have e2 : b1 ≠ b3 := Ne.symm e1
          have e3 : w.heap.size ≠ b1 := by have := I13.out.o1; omega
          have e4 : b1 ≠ w.heap.size := Ne.symm e3
          have gn := I13.out.bn.cell
          unfold fnv at gn
          obtain ⟨⟨g0, g1, g2, g3⟩, gf0, gf1, gf2, gf3⟩ := row4 I13.out.bp
          obtain ⟨⟨gx0, gx1, gx2, gx3⟩, gr0, gr1, gr2, gr3⟩ := row4 I13.out.br
          go_upto_region 21 with fail
          go_region
          have hS := set4 (v0 := .bool n) (v1 := .string wh) (v2 := .string ⟨#[]⟩) (v3 := .int .i64 (-x)) I13.out.br (Nat.le_of_lt I13.out.o1) I13.out.below
          have HS := Lib.hid (drew_pair hS)
          clear hS hca hcs e1 e2 e3 e4
          clear gn g0 g1 g2 g3 gf0 gf1 gf2 gf3 gr0 gr1 gr2 gr3 gx0 gx1 gx2 gx3
          go_wp2_with fail
          refine bodyPost_ret (results_row_tmp rfl _ _ b1 _ _ _ _ rfl HS.out.1 Tryd.underlying87 rfl (by kernel_rfl)) rfl ⟨HS.out.2, _, _, _, _, _, rfl, ?_⟩
          have hr := HR.out
          unfold splitOf at hr
          simp only [Hn.out, Hk1.out, Hd1.out, Hwh.out, Ht.out, Hk3.out, Nat.add_zero, cut_none, He.out, Hk5.out, HCm.out, Hk6.out, Hd3.out, ↓reduceIte, false_and, Bool.false_eq_true, ← HDx.out] at hr
          rw [if_neg HX.out] at hr
          rw [if_neg d30] at hr
          rw [if_pos h45] at hr
          exact fin_ok (L := s.size) (by rw [hr, hul])
        · have q5 : (cm == 45) = false := beq_eq_false_iff_ne.2 h45
          have hca := I12.out.ba.cell
          have hcs := I12.out.bs.cell
          have e1 : b3 ≠ b1 := by have := I12.out.o2; have := I12.out.o3; omega
          have e2 : b1 ≠ b3 := Ne.symm e1
          have e3 : w.heap.size ≠ b1 := by have := I12.out.o1; omega
          have e4 : b1 ≠ w.heap.size := Ne.symm e3
          have gn := I12.out.bn.cell
          unfold fnv at gn
          obtain ⟨⟨g0, g1, g2, g3⟩, gf0, gf1, gf2, gf3⟩ := row4 I12.out.bp
          obtain ⟨⟨gx0, gx1, gx2, gx3⟩, gr0, gr1, gr2, gr3⟩ := row4 I12.out.br
          go_upto_region 21 with fail
          go_region
          have hS := set4 (v0 := .bool n) (v1 := .string wh) (v2 := .string ⟨#[]⟩) (v3 := .int .i64 x) I12.out.br (Nat.le_of_lt I12.out.o1) I12.out.below
          have HS := Lib.hid (drew_pair hS)
          clear hS hca hcs e1 e2 e3 e4
          clear gn g0 g1 g2 g3 gf0 gf1 gf2 gf3 gr0 gr1 gr2 gr3 gx0 gx1 gx2 gx3
          go_wp2_with fail
          refine bodyPost_ret (results_row_tmp rfl _ _ b1 _ _ _ _ rfl HS.out.1 Tryd.underlying87 rfl (by kernel_rfl)) rfl ⟨HS.out.2, _, _, _, _, _, rfl, ?_⟩
          have hr := HR.out
          unfold splitOf at hr
          simp only [Hn.out, Hk1.out, Hd1.out, Hwh.out, Ht.out, Hk3.out, Nat.add_zero, cut_none, He.out, Hk5.out, HCm.out, Hk6.out, Hd3.out, ↓reduceIte, false_and, Bool.false_eq_true, ← HDx.out] at hr
          rw [if_neg HX.out] at hr
          rw [if_neg d30] at hr
          rw [if_neg h45] at hr
          exact fin_ok (L := s.size) (by rw [hr, hul])
end Go.Proofs.YtkifndecpbphbaaDoor.dk
