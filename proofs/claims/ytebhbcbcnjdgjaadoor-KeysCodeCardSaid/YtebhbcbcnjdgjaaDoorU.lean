/- KeysJoin: the walk. -/
import Derived.Test.YtebhbcbcnjdgjaaDoorT
namespace Go.Proofs.YtebhbcbcnjdgjaaDoor.dk
open Go.PlainAid Go.ChangeShapes Go.WideShapes Go.ChangeAt Go.RowKit

theorem few_small {l : List Pt} (h : fewP l = true) : l.length ≤ 40 ∧ ∀ q ∈ l, q.s.size ≤ 1000 ∧ q.dg.size ≤ 1000 := by
  unfold fewP at h
  rw [Bool.and_eq_true, List.all_eq_true] at h
  refine ⟨of_decide_eq_true h.1, fun q hq => ?_⟩
  have h1 := h.2 q hq
  rw [Bool.and_eq_true] at h1
  have h2 := of_decide_eq_true h1.1
  have h3 := of_decide_eq_true h1.2
  omega
theorem Encode_yes (w : World) (n c : Nat) (p : Option Addr) (l : List Pt) (mx : Int) (hR : RdP w p n l) (hs : ∀ q ∈ l, q.s.size ≤ 1000 ∧ q.dg.size ≤ 1000) (h0 : 0 < w.heap.size) (hmx : w.cell? ⟨0, 0, none⟩ = some (.int .i64 mx)) (hn : n ≤ 16) (hp : l.all psane = true) :
    Calls Tryd.prog 10 #[.slice p n c] w fun e w' => ∃ p2 c2, e = .returned (.tuple #[.slice p2 (encOf l).length c2, .int .i64 0]) ∧ Rd w' p2 (encOf l).length (encOf l) ∧ Below w.heap.size w w' := by
  refine (Encode_any w n c p l mx hR hs h0 hmx).mono ?_
  rintro e w' ⟨hb, ⟨_, _, p2, c2, rfl, ho⟩ | ⟨h, _⟩⟩
  · exact ⟨p2, c2, rfl, owned_rd ho, hb⟩
  · exact absurd ⟨hn, hp⟩ h
theorem Encode_no (w : World) (n c : Nat) (p : Option Addr) (l : List Pt) (mx : Int) (hR : RdP w p n l) (hs : ∀ q ∈ l, q.s.size ≤ 1000 ∧ q.dg.size ≤ 1000) (h0 : 0 < w.heap.size) (hmx : w.cell? ⟨0, 0, none⟩ = some (.int .i64 mx)) (hn : n ≤ 16) (hp : l.all psane = false) :
    Calls Tryd.prog 10 #[.slice p n c] w fun e w' => e = .returned (.tuple #[.slice none 0 0, .int .i64 1]) ∧ Below w.heap.size w w' := by
  refine (Encode_any w n c p l mx hR hs h0 hmx).mono ?_
  rintro e w' ⟨hb, ⟨_, h, _⟩ | ⟨_, rfl⟩⟩
  · rw [hp] at h; exact absurd h (by decide)
  · exact ⟨by rw [if_pos hn], hb⟩
theorem app_twoP {w : World} {n m c d : Nat} {p q : Option Addr} {l b : List Pt} (h1 : RdP w p n l) (h2 : RdP w q m b) (hn : n ≤ 1000) (hm : m ≤ 1000) :
    ∃ p1 c1 w1 p2 c2 w2, (Builtin.append_ #[22, 22] 22 #[.slice (some ⟨w.heap.size, 0, none⟩) 0 0, .slice p n c]).run Tryd.prog (w.alloc (.cells #[] 46)) = .ok (.slice p1 n c1) w1 ∧
      (Builtin.append_ #[22, 22] 22 #[.slice p1 n c1, .slice q m d]).run Tryd.prog w1 = .ok (.slice p2 (n + m) c2) w2 ∧ RdP w2 p2 (n + m) (l ++ b) ∧ Below w.heap.size w w2 := by
  have hrow : (w.alloc (.cells #[] 46)).heap[w.heap.size]? = some (.cells #[] 46 (0, 0)) := heap_alloc_new _ _
  have hbV : Below w.heap.size w (w.alloc (.cells #[] 46)) := (Below.refl _ _).alloc (Nat.le_refl _) _
  have hown : (w.alloc (.cells #[] 46)).ownsRow w.heap.size 46 7 (.slice (some ⟨w.heap.size, 0, none⟩) ([] : List Pt).length 0) ([] : List Pt).length (pcells []) :=
    ⟨rfl, .inr ⟨w.heap.size, 0, _, rfl, Nat.le_refl _, hrow, Nat.le_refl _, by unfold maxLen; omega, rfl, rfl⟩⟩
  have e1 := h1.1
  have e2 := h2.1
  obtain ⟨p1, c1, w1, hr1, ho1, hb1⟩ := appendR (cc := c) hown (h1.below hbV (Nat.le_refl _)) (by decide) (by omega) hbV.size
  rw [List.nil_append] at hr1 ho1
  have hb01 := hbV.trans hb1
  obtain ⟨p2, c2, w2, hr2, ho2, hb2⟩ := appendR (cc := d) ho1 (h2.below hb01 (Nat.le_refl _)) (by omega) (by omega) hb01.size
  rw [e1] at hr1 hr2
  rw [List.length_append, e1, e2] at hr2 ho2
  exact ⟨p1, c1, w1, p2, c2, w2, hr1, hr2, owned_rdP ho2, hb01.trans hb2⟩
theorem strOf_append (a b : List Int) : strOf (a ++ b) = strOf a ++ strOf b := by
  have hg : ∀ (l : List Int) (x : ByteArray), l.foldl (fun r n => r.push (UInt8.ofNat n.toNat)) x = x ++ l.foldl (fun r n => r.push (UInt8.ofNat n.toNat)) ByteArray.empty := by
    intro l
    induction l with
    | nil => intro x; simp
    | cons y l ih =>
      intro x
      rw [List.foldl_cons, List.foldl_cons, ih, ih (ByteArray.empty.push _)]
      apply ByteArray.ext
      simp only [ByteArray.data_append, ByteArray.push, ByteArray.empty, ByteArray.emptyWithCapacity]
      rw [← Array.append_assoc]
      congr 1
  unfold strOf
  rw [List.foldl_append, hg]
theorem enc_few {l : List Pt} (h : l.all psane = true) (hs : ∀ q ∈ l, q.s.size ≤ 1000 ∧ q.dg.size ≤ 1000) (hn : l.length ≤ 16) : (strOf (encOf l)).size ≤ 64000 := by
  rw [strOf_size]
  have := encOf_len l (fun q hq => ⟨List.all_eq_true.1 h q hq, (hs q hq).1⟩)
  omega
set_option maxHeartbeats 4000000 in
set_option maxRecDepth 100000 in
theorem join_out (w : World) (p q : Option Addr) (n c m d : Nat) (la lb : List Pt) (ha : RdP w p n la) (hb : RdP w q m lb) (h : ¬ (fewP la = true ∧ fewP lb = true ∧ n + m ≤ 16)) :
    Calls Tryd.prog 6 #[.slice p n c, .slice q m d] w fun e w' => e = .returned (.bool true) ∧ Below w.heap.size w w' := by
  have HA := Lib.hid (awake_any w)
  have HRa := Lib.hid ha
  have HRb := Lib.hid hb
  have ea := ha.1
  have eb := hb.1
  have HL := Lib.hid (And.intro ea eb)
  clear ha hb ea eb
  go_enter Tryd.func6, Tryd.ntmps6
  go_wp2_with (go_at_call 8; with_reducible refine HA.out.mono ?_; rintro e w0 ⟨rfl, hb0⟩)
  have HF1 := Lib.hid (Few_any w0 n c p la (HRa.out.below hb0 (Nat.le_refl _)))
  have HF2 := Lib.hid (Few_any w0 m d q lb (HRb.out.below hb0 (Nat.le_refl _)))
  have HB := Lib.hid hb0
  clear hb0 HA HRa HRb
  generalize hfa : fewP la = fa at HF1 h
  generalize hfb : fewP lb = fb at HF2 h
  have HFa := Lib.hid hfa
  have HFb := Lib.hid hfb
  clear hfa hfb
  with_reducible refine HF1.out.mono ?_
  clear HF1
  rintro e w1 ⟨rfl, rfl⟩
  cases fa with
  | false =>
    go_wp2_with fail
    go_ret
    exact ⟨rfl, HB.out⟩
  | true =>
    go_wp2_with fail
    with_reducible refine HF2.out.mono ?_
    clear HF2
    rintro e w2 ⟨rfl, rfl⟩
    cases fb with
    | false =>
      go_wp2_with fail
      go_ret
      exact ⟨rfl, HB.out⟩
    | true =>
      have h1 := (few_small HFa.out).1
      have h2 := (few_small HFb.out).1
      have h3 := HL.out.1
      have h4 := HL.out.2
      have hnm : ¬ (n + m ≤ 16) := fun e => h ⟨by trivial, by trivial, e⟩
      have ws : IntKind.i64.wrap ((n : Int) + (m : Int)) = (n : Int) + m := by rw [IntKind.wrap_i64]; omega
      have d1 : decide ((16 : Int) < (n : Int) + (m : Int)) = true := decide_eq_true (by omega)
      clear h
      go_wp2_with fail
      go_ret
      exact ⟨rfl, HB.out⟩
set_option maxHeartbeats 4000000 in
set_option maxRecDepth 100000 in
theorem join_yy (w : World) (p q : Option Addr) (n c m d : Nat) (la lb : List Pt) (mx : Int) (ha : RdP w p n la) (hb : RdP w q m lb) (hmx : w.cell? ⟨0, 0, none⟩ = some (.int .i64 mx)) (hfa : fewP la = true) (hfb : fewP lb = true) (hnm : n + m ≤ 16) (sa : la.all psane = true) (sb : lb.all psane = true) :
    Calls Tryd.prog 6 #[.slice p n c, .slice q m d] w fun e w' => e = .returned (.bool true) ∧ Below w.heap.size w w' := by
  have HA := Lib.hid (awake_any w)
  have h0 : 0 < w.heap.size := World.block_lt_of_cell? _ _ hmx
  have fsa := (few_small hfa).2
  have fsb := (few_small hfb).2
  have fsz : ∀ x ∈ la ++ lb, x.s.size ≤ 1000 ∧ x.dg.size ≤ 1000 := fun x hx => by
    rcases List.mem_append.1 hx with hx | hx
    · exact fsa x hx
    · exact fsb x hx
  have sz : (la ++ lb).all psane = true := by rw [List.all_append, sa, sb]; rfl
  have ws : IntKind.i64.wrap ((n : Int) + (m : Int)) = (n : Int) + m := by rw [IntKind.wrap_i64]; omega
  have d1 : decide ((16 : Int) < (n : Int) + (m : Int)) = false := decide_eq_false (by omega)
  have HRa := Lib.hid ha
  have HRb := Lib.hid hb
  have HM := Lib.hid hmx
  have H0 := Lib.hid h0
  have HSa := Lib.hid (And.intro sa fsa)
  have HSb := Lib.hid (And.intro sb fsb)
  have HSz := Lib.hid (And.intro sz fsz)
  have HFa := Lib.hid hfa
  have HFb := Lib.hid hfb
  have HNM := Lib.hid hnm
  clear ha hb hmx h0 sa sb sz fsa fsb fsz hfa hfb hnm
  go_enter Tryd.func6, Tryd.ntmps6
  go_wp2_with (go_at_call 8; with_reducible refine HA.out.mono ?_; rintro e w0 ⟨rfl, hb0⟩)
  have HB0 := Lib.hid hb0
  clear hb0 HA
  with_reducible refine (Few_any w0 n c p la (HRa.out.below HB0.out (Nat.le_refl _))).mono ?_
  rintro e w1 ⟨rfl, rfl⟩
  rw [HFa.out]
  go_wp2_with fail
  with_reducible refine (Few_any w1 m d q lb (HRb.out.below HB0.out (Nat.le_refl _))).mono ?_
  rintro e w2 ⟨rfl, rfl⟩
  rw [HFb.out]
  go_wp2_with fail
  with_reducible refine (ours_any w2 n c p la (HRa.out.below HB0.out (Nat.le_refl _)) (by have := HNM.out; omega)).mono ?_
  rintro e w3 ⟨p3, c3, rfl, hr3, hb3⟩
  have HB3 := Lib.hid (HB0.out.trans (hb3.mono HB0.out.size))
  have HR3 := Lib.hid hr3
  clear hb3 hr3 HB0
  go_wp2_with fail
  with_reducible refine (Encode_yes w3 n c3 p3 la mx HR3.out HSa.out.2 (Nat.lt_of_lt_of_le H0.out HB3.out.size) (by rw [cell_kept HB3.out H0.out]; exact HM.out) (by have := HNM.out; omega) HSa.out.1).mono ?_
  rintro e w4 ⟨x4, y4, rfl, hx4, hb4⟩
  have HX4 := Lib.hid hx4
  have HBe4 := Lib.hid hb4
  have HB4 := Lib.hid (HB3.out.trans (hb4.mono HB3.out.size))
  clear hb4 hx4 HB3
  clear HR3
  go_wp2_with fail
  with_reducible refine (ours_any w4 m d q lb (HRb.out.below HB4.out (Nat.le_refl _)) (by have := HNM.out; omega)).mono ?_
  rintro e w5 ⟨p5, c5, rfl, hr5, hb5⟩
  have HB5 := Lib.hid (HB4.out.trans (hb5.mono HB4.out.size))
  have HR5 := Lib.hid hr5
  have HX5 := Lib.hid (HX4.out.below hb5)
  clear HX4 HBe4
  clear hb5 hr5 HB4
  go_wp2_with fail
  with_reducible refine (Encode_yes w5 m c5 p5 lb mx HR5.out HSb.out.2 (Nat.lt_of_lt_of_le H0.out HB5.out.size) (by rw [cell_kept HB5.out H0.out]; exact HM.out) (by have := HNM.out; omega) HSb.out.1).mono ?_
  rintro e w6 ⟨x6, y6, rfl, hx6, hb6⟩
  have HX6 := Lib.hid hx6
  have HBe6 := Lib.hid hb6
  have HB6 := Lib.hid (HB5.out.trans (hb6.mono HB5.out.size))
  have HX6a := Lib.hid (HX5.out.below hb6)
  clear hb6 hx6 HB5
  clear HR5
  obtain ⟨p7, c7, w7, p8, c8, w8, hr7, hr8, hz8, hb8⟩ := app_twoP (c := c) (d := d) (HRa.out.below HB6.out (Nat.le_refl _)) (HRb.out.below HB6.out (Nat.le_refl _)) (by have := HNM.out; omega) (by have := HNM.out; omega)
  have HR7 := Lib.hid hr7
  have HR8 := Lib.hid hr8
  have HZ8 := Lib.hid hz8
  have HB8 := Lib.hid (HB6.out.trans (hb8.mono HB6.out.size))
  have HX8a := Lib.hid (HX6a.out.below hb8)
  have HX8b := Lib.hid (HX6.out.below hb8)
  clear hr7 hr8 hz8 hb8 HB6
  go_wp2_with (first | (at_builtin; refine wpList_append_run rfl _ _ _ rfl _ _ _ _ rfl rfl HR7.out ?_; clear HR7) | (at_builtin; refine wpList_append_run rfl _ _ _ rfl _ _ _ _ rfl rfl HR8.out ?_; clear HR8))
  with_reducible refine (ours_any w8 (n + m) c8 p8 (la ++ lb) HZ8.out (by have := HNM.out; omega)).mono ?_
  rintro e w9 ⟨p9, c9, rfl, hr9, hb9⟩
  have HB9 := Lib.hid (HB8.out.trans (hb9.mono HB8.out.size))
  have HR9 := Lib.hid hr9
  have HX9a := Lib.hid (HX8a.out.below hb9)
  have HX9b := Lib.hid (HX8b.out.below hb9)
  clear hb9 hr9 HB8 HZ8
  go_wp2_with fail
  with_reducible refine (Encode_yes w9 (n + m) c9 p9 (la ++ lb) mx HR9.out HSz.out.2 (Nat.lt_of_lt_of_le H0.out HB9.out.size) (by rw [cell_kept HB9.out H0.out]; exact HM.out) HNM.out HSz.out.1).mono ?_
  rintro e w10 ⟨x10, y10, rfl, hx10, hb10⟩
  have HX10 := Lib.hid hx10
  have HBe10 := Lib.hid hb10
  have HB10 := Lib.hid (HB9.out.trans (hb10.mono HB9.out.size))
  have HXa := Lib.hid (HX9a.out.below hb10)
  have HXb := Lib.hid (HX9b.out.below hb10)
  clear hb10 hx10 HB9
  have V1 := conv_rd (c := y10) HX10.out
  have V2 := conv_rd (c := y4) HXa.out
  have V3 := conv_rd (c := y6) HXb.out
  rw [encOf_app, strOf_append] at V1
  have hl : (encOf la ++ encOf lb).length = (encOf (la ++ lb)).length := by rw [encOf_app]
  rw [hl] at V1
  clear hl
  have z2 := enc_few HSa.out.1 HSa.out.2 (by have := HRa.out.1; have := HNM.out; omega)
  have z3 := enc_few HSb.out.1 HSb.out.2 (by have := HRb.out.1; have := HNM.out; omega)
  generalize strOf (encOf la) = s2 at V1 V2 z2
  generalize strOf (encOf lb) = s3 at V1 V3 z3
  generalize (encOf (la ++ lb)).length = n1 at V1 ⊢
  generalize (encOf la).length = n2 at V2 ⊢
  generalize (encOf lb).length = n3 at V3 ⊢
  go_wp2_with fail
  go_ret
  exact ⟨rfl, HB10.out⟩
set_option maxHeartbeats 4000000 in
set_option maxRecDepth 100000 in
theorem join_yn (w : World) (p q : Option Addr) (n c m d : Nat) (la lb : List Pt) (mx : Int) (ha : RdP w p n la) (hb : RdP w q m lb) (hmx : w.cell? ⟨0, 0, none⟩ = some (.int .i64 mx)) (hfa : fewP la = true) (hfb : fewP lb = true) (hnm : n + m ≤ 16) (sa : la.all psane = true) (sb : lb.all psane = false) :
    Calls Tryd.prog 6 #[.slice p n c, .slice q m d] w fun e w' => e = .returned (.bool true) ∧ Below w.heap.size w w' := by
  have HA := Lib.hid (awake_any w)
  have h0 : 0 < w.heap.size := World.block_lt_of_cell? _ _ hmx
  have fsa := (few_small hfa).2
  have fsb := (few_small hfb).2
  have fsz : ∀ x ∈ la ++ lb, x.s.size ≤ 1000 ∧ x.dg.size ≤ 1000 := fun x hx => by
    rcases List.mem_append.1 hx with hx | hx
    · exact fsa x hx
    · exact fsb x hx
  have sz : (la ++ lb).all psane = false := by rw [List.all_append, sa, sb]; rfl
  have ws : IntKind.i64.wrap ((n : Int) + (m : Int)) = (n : Int) + m := by rw [IntKind.wrap_i64]; omega
  have d1 : decide ((16 : Int) < (n : Int) + (m : Int)) = false := decide_eq_false (by omega)
  have HRa := Lib.hid ha
  have HRb := Lib.hid hb
  have HM := Lib.hid hmx
  have H0 := Lib.hid h0
  have HSa := Lib.hid (And.intro sa fsa)
  have HSb := Lib.hid (And.intro sb fsb)
  have HSz := Lib.hid (And.intro sz fsz)
  have HFa := Lib.hid hfa
  have HFb := Lib.hid hfb
  have HNM := Lib.hid hnm
  clear ha hb hmx h0 sa sb sz fsa fsb fsz hfa hfb hnm
  go_enter Tryd.func6, Tryd.ntmps6
  go_wp2_with (go_at_call 8; with_reducible refine HA.out.mono ?_; rintro e w0 ⟨rfl, hb0⟩)
  have HB0 := Lib.hid hb0
  clear hb0 HA
  with_reducible refine (Few_any w0 n c p la (HRa.out.below HB0.out (Nat.le_refl _))).mono ?_
  rintro e w1 ⟨rfl, rfl⟩
  rw [HFa.out]
  go_wp2_with fail
  with_reducible refine (Few_any w1 m d q lb (HRb.out.below HB0.out (Nat.le_refl _))).mono ?_
  rintro e w2 ⟨rfl, rfl⟩
  rw [HFb.out]
  go_wp2_with fail
  with_reducible refine (ours_any w2 n c p la (HRa.out.below HB0.out (Nat.le_refl _)) (by have := HNM.out; omega)).mono ?_
  rintro e w3 ⟨p3, c3, rfl, hr3, hb3⟩
  have HB3 := Lib.hid (HB0.out.trans (hb3.mono HB0.out.size))
  have HR3 := Lib.hid hr3
  clear hb3 hr3 HB0
  go_wp2_with fail
  with_reducible refine (Encode_yes w3 n c3 p3 la mx HR3.out HSa.out.2 (Nat.lt_of_lt_of_le H0.out HB3.out.size) (by rw [cell_kept HB3.out H0.out]; exact HM.out) (by have := HNM.out; omega) HSa.out.1).mono ?_
  rintro e w4 ⟨x4, y4, rfl, hx4, hb4⟩
  have HX4 := Lib.hid hx4
  have HBe4 := Lib.hid hb4
  have HB4 := Lib.hid (HB3.out.trans (hb4.mono HB3.out.size))
  clear hb4 hx4 HB3
  clear HR3
  go_wp2_with fail
  with_reducible refine (ours_any w4 m d q lb (HRb.out.below HB4.out (Nat.le_refl _)) (by have := HNM.out; omega)).mono ?_
  rintro e w5 ⟨p5, c5, rfl, hr5, hb5⟩
  have HB5 := Lib.hid (HB4.out.trans (hb5.mono HB4.out.size))
  have HR5 := Lib.hid hr5
  have HX5 := Lib.hid (HX4.out.below hb5)
  clear HX4 HBe4
  clear hb5 hr5 HB4
  go_wp2_with fail
  with_reducible refine (Encode_no w5 m c5 p5 lb mx HR5.out HSb.out.2 (Nat.lt_of_lt_of_le H0.out HB5.out.size) (by rw [cell_kept HB5.out H0.out]; exact HM.out) (by have := HNM.out; omega) HSb.out.1).mono ?_
  rintro e w6 ⟨rfl, hb6⟩
  have HB6 := Lib.hid (HB5.out.trans (hb6.mono HB5.out.size))
  have HX6a := Lib.hid (HX5.out.below hb6)
  clear hb6 HB5
  clear HR5
  obtain ⟨p7, c7, w7, p8, c8, w8, hr7, hr8, hz8, hb8⟩ := app_twoP (c := c) (d := d) (HRa.out.below HB6.out (Nat.le_refl _)) (HRb.out.below HB6.out (Nat.le_refl _)) (by have := HNM.out; omega) (by have := HNM.out; omega)
  have HR7 := Lib.hid hr7
  have HR8 := Lib.hid hr8
  have HZ8 := Lib.hid hz8
  have HB8 := Lib.hid (HB6.out.trans (hb8.mono HB6.out.size))
  have HX8a := Lib.hid (HX6a.out.below hb8)
  clear hr7 hr8 hz8 hb8 HB6
  go_wp2_with (first | (at_builtin; refine wpList_append_run rfl _ _ _ rfl _ _ _ _ rfl rfl HR7.out ?_; clear HR7) | (at_builtin; refine wpList_append_run rfl _ _ _ rfl _ _ _ _ rfl rfl HR8.out ?_; clear HR8))
  with_reducible refine (ours_any w8 (n + m) c8 p8 (la ++ lb) HZ8.out (by have := HNM.out; omega)).mono ?_
  rintro e w9 ⟨p9, c9, rfl, hr9, hb9⟩
  have HB9 := Lib.hid (HB8.out.trans (hb9.mono HB8.out.size))
  have HR9 := Lib.hid hr9
  have HX9a := Lib.hid (HX8a.out.below hb9)
  clear hb9 hr9 HB8 HZ8
  go_wp2_with fail
  with_reducible refine (Encode_no w9 (n + m) c9 p9 (la ++ lb) mx HR9.out HSz.out.2 (Nat.lt_of_lt_of_le H0.out HB9.out.size) (by rw [cell_kept HB9.out H0.out]; exact HM.out) HNM.out HSz.out.1).mono ?_
  rintro e w10 ⟨rfl, hb10⟩
  have HB10 := Lib.hid (HB9.out.trans (hb10.mono HB9.out.size))
  have HXa := Lib.hid (HX9a.out.below hb10)
  clear hb10 HB9
  go_wp2_with fail
  go_ret
  exact ⟨rfl, HB10.out⟩
set_option maxHeartbeats 4000000 in
set_option maxRecDepth 100000 in
theorem join_ny (w : World) (p q : Option Addr) (n c m d : Nat) (la lb : List Pt) (mx : Int) (ha : RdP w p n la) (hb : RdP w q m lb) (hmx : w.cell? ⟨0, 0, none⟩ = some (.int .i64 mx)) (hfa : fewP la = true) (hfb : fewP lb = true) (hnm : n + m ≤ 16) (sa : la.all psane = false) (sb : lb.all psane = true) :
    Calls Tryd.prog 6 #[.slice p n c, .slice q m d] w fun e w' => e = .returned (.bool true) ∧ Below w.heap.size w w' := by
  have HA := Lib.hid (awake_any w)
  have h0 : 0 < w.heap.size := World.block_lt_of_cell? _ _ hmx
  have fsa := (few_small hfa).2
  have fsb := (few_small hfb).2
  have fsz : ∀ x ∈ la ++ lb, x.s.size ≤ 1000 ∧ x.dg.size ≤ 1000 := fun x hx => by
    rcases List.mem_append.1 hx with hx | hx
    · exact fsa x hx
    · exact fsb x hx
  have sz : (la ++ lb).all psane = false := by rw [List.all_append, sa, sb]; rfl
  have ws : IntKind.i64.wrap ((n : Int) + (m : Int)) = (n : Int) + m := by rw [IntKind.wrap_i64]; omega
  have d1 : decide ((16 : Int) < (n : Int) + (m : Int)) = false := decide_eq_false (by omega)
  have HRa := Lib.hid ha
  have HRb := Lib.hid hb
  have HM := Lib.hid hmx
  have H0 := Lib.hid h0
  have HSa := Lib.hid (And.intro sa fsa)
  have HSb := Lib.hid (And.intro sb fsb)
  have HSz := Lib.hid (And.intro sz fsz)
  have HFa := Lib.hid hfa
  have HFb := Lib.hid hfb
  have HNM := Lib.hid hnm
  clear ha hb hmx h0 sa sb sz fsa fsb fsz hfa hfb hnm
  go_enter Tryd.func6, Tryd.ntmps6
  go_wp2_with (go_at_call 8; with_reducible refine HA.out.mono ?_; rintro e w0 ⟨rfl, hb0⟩)
  have HB0 := Lib.hid hb0
  clear hb0 HA
  with_reducible refine (Few_any w0 n c p la (HRa.out.below HB0.out (Nat.le_refl _))).mono ?_
  rintro e w1 ⟨rfl, rfl⟩
  rw [HFa.out]
  go_wp2_with fail
  with_reducible refine (Few_any w1 m d q lb (HRb.out.below HB0.out (Nat.le_refl _))).mono ?_
  rintro e w2 ⟨rfl, rfl⟩
  rw [HFb.out]
  go_wp2_with fail
  with_reducible refine (ours_any w2 n c p la (HRa.out.below HB0.out (Nat.le_refl _)) (by have := HNM.out; omega)).mono ?_
  rintro e w3 ⟨p3, c3, rfl, hr3, hb3⟩
  have HB3 := Lib.hid (HB0.out.trans (hb3.mono HB0.out.size))
  have HR3 := Lib.hid hr3
  clear hb3 hr3 HB0
  go_wp2_with fail
  with_reducible refine (Encode_no w3 n c3 p3 la mx HR3.out HSa.out.2 (Nat.lt_of_lt_of_le H0.out HB3.out.size) (by rw [cell_kept HB3.out H0.out]; exact HM.out) (by have := HNM.out; omega) HSa.out.1).mono ?_
  rintro e w4 ⟨rfl, hb4⟩
  have HB4 := Lib.hid (HB3.out.trans (hb4.mono HB3.out.size))
  clear hb4 HB3
  clear HR3
  go_wp2_with fail
  with_reducible refine (ours_any w4 m d q lb (HRb.out.below HB4.out (Nat.le_refl _)) (by have := HNM.out; omega)).mono ?_
  rintro e w5 ⟨p5, c5, rfl, hr5, hb5⟩
  have HB5 := Lib.hid (HB4.out.trans (hb5.mono HB4.out.size))
  have HR5 := Lib.hid hr5
  clear hb5 hr5 HB4
  go_wp2_with fail
  with_reducible refine (Encode_yes w5 m c5 p5 lb mx HR5.out HSb.out.2 (Nat.lt_of_lt_of_le H0.out HB5.out.size) (by rw [cell_kept HB5.out H0.out]; exact HM.out) (by have := HNM.out; omega) HSb.out.1).mono ?_
  rintro e w6 ⟨x6, y6, rfl, hx6, hb6⟩
  have HX6 := Lib.hid hx6
  have HBe6 := Lib.hid hb6
  have HB6 := Lib.hid (HB5.out.trans (hb6.mono HB5.out.size))
  clear hb6 hx6 HB5
  clear HR5
  obtain ⟨p7, c7, w7, p8, c8, w8, hr7, hr8, hz8, hb8⟩ := app_twoP (c := c) (d := d) (HRa.out.below HB6.out (Nat.le_refl _)) (HRb.out.below HB6.out (Nat.le_refl _)) (by have := HNM.out; omega) (by have := HNM.out; omega)
  have HR7 := Lib.hid hr7
  have HR8 := Lib.hid hr8
  have HZ8 := Lib.hid hz8
  have HB8 := Lib.hid (HB6.out.trans (hb8.mono HB6.out.size))
  have HX8b := Lib.hid (HX6.out.below hb8)
  clear hr7 hr8 hz8 hb8 HB6
  go_wp2_with (first | (at_builtin; refine wpList_append_run rfl _ _ _ rfl _ _ _ _ rfl rfl HR7.out ?_; clear HR7) | (at_builtin; refine wpList_append_run rfl _ _ _ rfl _ _ _ _ rfl rfl HR8.out ?_; clear HR8))
  with_reducible refine (ours_any w8 (n + m) c8 p8 (la ++ lb) HZ8.out (by have := HNM.out; omega)).mono ?_
  rintro e w9 ⟨p9, c9, rfl, hr9, hb9⟩
  have HB9 := Lib.hid (HB8.out.trans (hb9.mono HB8.out.size))
  have HR9 := Lib.hid hr9
  have HX9b := Lib.hid (HX8b.out.below hb9)
  clear hb9 hr9 HB8 HZ8
  go_wp2_with fail
  with_reducible refine (Encode_no w9 (n + m) c9 p9 (la ++ lb) mx HR9.out HSz.out.2 (Nat.lt_of_lt_of_le H0.out HB9.out.size) (by rw [cell_kept HB9.out H0.out]; exact HM.out) HNM.out HSz.out.1).mono ?_
  rintro e w10 ⟨rfl, hb10⟩
  have HB10 := Lib.hid (HB9.out.trans (hb10.mono HB9.out.size))
  have HXb := Lib.hid (HX9b.out.below hb10)
  clear hb10 HB9
  go_wp2_with fail
  go_ret
  exact ⟨rfl, HB10.out⟩
set_option maxHeartbeats 4000000 in
set_option maxRecDepth 100000 in
theorem join_nn (w : World) (p q : Option Addr) (n c m d : Nat) (la lb : List Pt) (mx : Int) (ha : RdP w p n la) (hb : RdP w q m lb) (hmx : w.cell? ⟨0, 0, none⟩ = some (.int .i64 mx)) (hfa : fewP la = true) (hfb : fewP lb = true) (hnm : n + m ≤ 16) (sa : la.all psane = false) (sb : lb.all psane = false) :
    Calls Tryd.prog 6 #[.slice p n c, .slice q m d] w fun e w' => e = .returned (.bool true) ∧ Below w.heap.size w w' := by
  have HA := Lib.hid (awake_any w)
  have h0 : 0 < w.heap.size := World.block_lt_of_cell? _ _ hmx
  have fsa := (few_small hfa).2
  have fsb := (few_small hfb).2
  have fsz : ∀ x ∈ la ++ lb, x.s.size ≤ 1000 ∧ x.dg.size ≤ 1000 := fun x hx => by
    rcases List.mem_append.1 hx with hx | hx
    · exact fsa x hx
    · exact fsb x hx
  have sz : (la ++ lb).all psane = false := by rw [List.all_append, sa, sb]; rfl
  have ws : IntKind.i64.wrap ((n : Int) + (m : Int)) = (n : Int) + m := by rw [IntKind.wrap_i64]; omega
  have d1 : decide ((16 : Int) < (n : Int) + (m : Int)) = false := decide_eq_false (by omega)
  have HRa := Lib.hid ha
  have HRb := Lib.hid hb
  have HM := Lib.hid hmx
  have H0 := Lib.hid h0
  have HSa := Lib.hid (And.intro sa fsa)
  have HSb := Lib.hid (And.intro sb fsb)
  have HSz := Lib.hid (And.intro sz fsz)
  have HFa := Lib.hid hfa
  have HFb := Lib.hid hfb
  have HNM := Lib.hid hnm
  clear ha hb hmx h0 sa sb sz fsa fsb fsz hfa hfb hnm
  go_enter Tryd.func6, Tryd.ntmps6
  go_wp2_with (go_at_call 8; with_reducible refine HA.out.mono ?_; rintro e w0 ⟨rfl, hb0⟩)
  have HB0 := Lib.hid hb0
  clear hb0 HA
  with_reducible refine (Few_any w0 n c p la (HRa.out.below HB0.out (Nat.le_refl _))).mono ?_
  rintro e w1 ⟨rfl, rfl⟩
  rw [HFa.out]
  go_wp2_with fail
  with_reducible refine (Few_any w1 m d q lb (HRb.out.below HB0.out (Nat.le_refl _))).mono ?_
  rintro e w2 ⟨rfl, rfl⟩
  rw [HFb.out]
  go_wp2_with fail
  with_reducible refine (ours_any w2 n c p la (HRa.out.below HB0.out (Nat.le_refl _)) (by have := HNM.out; omega)).mono ?_
  rintro e w3 ⟨p3, c3, rfl, hr3, hb3⟩
  have HB3 := Lib.hid (HB0.out.trans (hb3.mono HB0.out.size))
  have HR3 := Lib.hid hr3
  clear hb3 hr3 HB0
  go_wp2_with fail
  with_reducible refine (Encode_no w3 n c3 p3 la mx HR3.out HSa.out.2 (Nat.lt_of_lt_of_le H0.out HB3.out.size) (by rw [cell_kept HB3.out H0.out]; exact HM.out) (by have := HNM.out; omega) HSa.out.1).mono ?_
  rintro e w4 ⟨rfl, hb4⟩
  have HB4 := Lib.hid (HB3.out.trans (hb4.mono HB3.out.size))
  clear hb4 HB3
  clear HR3
  go_wp2_with fail
  with_reducible refine (ours_any w4 m d q lb (HRb.out.below HB4.out (Nat.le_refl _)) (by have := HNM.out; omega)).mono ?_
  rintro e w5 ⟨p5, c5, rfl, hr5, hb5⟩
  have HB5 := Lib.hid (HB4.out.trans (hb5.mono HB4.out.size))
  have HR5 := Lib.hid hr5
  clear hb5 hr5 HB4
  go_wp2_with fail
  with_reducible refine (Encode_no w5 m c5 p5 lb mx HR5.out HSb.out.2 (Nat.lt_of_lt_of_le H0.out HB5.out.size) (by rw [cell_kept HB5.out H0.out]; exact HM.out) (by have := HNM.out; omega) HSb.out.1).mono ?_
  rintro e w6 ⟨rfl, hb6⟩
  have HB6 := Lib.hid (HB5.out.trans (hb6.mono HB5.out.size))
  clear hb6 HB5
  clear HR5
  obtain ⟨p7, c7, w7, p8, c8, w8, hr7, hr8, hz8, hb8⟩ := app_twoP (c := c) (d := d) (HRa.out.below HB6.out (Nat.le_refl _)) (HRb.out.below HB6.out (Nat.le_refl _)) (by have := HNM.out; omega) (by have := HNM.out; omega)
  have HR7 := Lib.hid hr7
  have HR8 := Lib.hid hr8
  have HZ8 := Lib.hid hz8
  have HB8 := Lib.hid (HB6.out.trans (hb8.mono HB6.out.size))
  clear hr7 hr8 hz8 hb8 HB6
  go_wp2_with (first | (at_builtin; refine wpList_append_run rfl _ _ _ rfl _ _ _ _ rfl rfl HR7.out ?_; clear HR7) | (at_builtin; refine wpList_append_run rfl _ _ _ rfl _ _ _ _ rfl rfl HR8.out ?_; clear HR8))
  with_reducible refine (ours_any w8 (n + m) c8 p8 (la ++ lb) HZ8.out (by have := HNM.out; omega)).mono ?_
  rintro e w9 ⟨p9, c9, rfl, hr9, hb9⟩
  have HB9 := Lib.hid (HB8.out.trans (hb9.mono HB8.out.size))
  have HR9 := Lib.hid hr9
  clear hb9 hr9 HB8 HZ8
  go_wp2_with fail
  with_reducible refine (Encode_no w9 (n + m) c9 p9 (la ++ lb) mx HR9.out HSz.out.2 (Nat.lt_of_lt_of_le H0.out HB9.out.size) (by rw [cell_kept HB9.out H0.out]; exact HM.out) HNM.out HSz.out.1).mono ?_
  rintro e w10 ⟨rfl, hb10⟩
  have HB10 := Lib.hid (HB9.out.trans (hb10.mono HB9.out.size))
  clear hb10 HB9
  go_wp2_with fail
  go_ret
  exact ⟨rfl, HB10.out⟩
theorem keysJoin_any (w : World) (p q : Option Addr) (n c m d : Nat) (la lb : List Pt) (mx : Int) (ha : RdP w p n la) (hb : RdP w q m lb) (hmx : w.cell? ⟨0, 0, none⟩ = some (.int .i64 mx)) :
    Calls Tryd.prog 6 #[.slice p n c, .slice q m d] w fun e w' => e = .returned (.bool true) ∧ Below w.heap.size w w' := by
  by_cases h : fewP la = true ∧ fewP lb = true ∧ n + m ≤ 16
  · obtain ⟨h1, h2, h3⟩ := h
    cases sa : la.all psane with
    | true =>
      cases sb : lb.all psane with
      | true => exact join_yy w p q n c m d la lb mx ha hb hmx h1 h2 h3 sa sb
      | false => exact join_yn w p q n c m d la lb mx ha hb hmx h1 h2 h3 sa sb
    | false =>
      cases sb : lb.all psane with
      | true => exact join_ny w p q n c m d la lb mx ha hb hmx h1 h2 h3 sa sb
      | false => exact join_nn w p q n c m d la lb mx ha hb hmx h1 h2 h3 sa sb
  · exact join_out w p q n c m d la lb ha hb h
end Go.Proofs.YtebhbcbcnjdgjaaDoor.dk
