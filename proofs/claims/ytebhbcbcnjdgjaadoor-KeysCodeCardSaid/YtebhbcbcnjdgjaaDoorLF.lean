/- KeysBack: the walk. -/
import Derived.Test.YtebhbcbcnjdgjaaDoorLE
import Derived.Test.YtebhbcbcnjdgjaaDoorY
namespace Go.Proofs.YtebhbcbcnjdgjaaDoor.dk
open Go.PlainAid Go.ChangeShapes Go.WideShapes Go.ChangeAt Go.RowKit

theorem all_cons {q : Pt} {l : List Pt} (h : (q :: l).all psane = true) : psane q = true ∧ l.all psane = true := by
  rw [List.all_cons, Bool.and_eq_true] at h
  exact h
/-- Encoded parts, read some way. -/
theorem dc_enc {qs : List Pt} (hq : qs.all psane = true) : ∀ {l : List Pt} {r : List Int}, Dc (encOf qs) l r → ∃ s, qs = l ++ s ∧ r = encOf s := by
  intro l r h
  induction h with
  | nil => exact ⟨qs, rfl, rfl⟩
  | step h hne hf ih =>
    rename_i l r q k
    obtain ⟨s, e1, rfl⟩ := ih
    cases s with
    | nil => exact absurd rfl hne
    | cons x s =>
      have hx : psane x = true := by
        rw [List.all_eq_true] at hq
        exact hq x (by rw [e1]; simp)
      rw [encOf_cons] at hf ⊢
      rw [fpart_penc x _ hx] at hf
      simp only [Option.some.injEq, Prod.mk.injEq] at hf
      obtain ⟨rfl, rfl⟩ := hf
      exact ⟨s, by rw [e1, List.append_assoc]; rfl, by rw [List.drop_append_of_le_length (Nat.le_refl _), List.drop_length, List.nil_append]⟩
/-- Bytes read some way are the bytes of the parts. -/
theorem dc_back {b : List Int} (hb : Bys b) : ∀ {l : List Pt} {r : List Int}, Dc b l r → l.all psane = true ∧ b = encOf l ++ r := by
  intro l r h
  induction h with
  | nil => exact ⟨rfl, rfl⟩
  | step h hne hf ih =>
    rename_i l r q k
    obtain ⟨e1, e2⟩ := ih
    have hr : Bys r := fun x hx => hb x (by rw [e2]; simp [hx])
    obtain ⟨h1, h2⟩ := fpart_back hr hne hf
    refine ⟨by rw [List.all_append, e1]; simp [h1], ?_⟩
    rw [encOf_app, show encOf [q] = penc q by simp [encOf], ← h2, List.append_assoc, List.take_append_drop]
    exact e2
theorem enc_nil {s : List Pt} (hq : s.all psane = true) (h : encOf s = []) : s = [] := by
  cases s with
  | nil => rfl
  | cons q s =>
    rw [encOf_cons] at h
    exact absurd (List.append_eq_nil_iff.1 h).1 (penc_ne (ps_of q (all_cons hq).1))
theorem esc_long : ∀ (l : List Int), l.length ≤ (esc l).length
  | [] => by simp [esc]
  | c :: l => by
    have := esc_long l
    rw [esc_cons, List.length_append]
    split <;> simp <;> omega
theorem penc_small {q : Pt} (h : psane q = true) : q.s.size ≤ (penc q).length ∧ q.dg.size ≤ 40 := by
  have hp := ps_of q h
  cases hp with
  | null => exact ⟨Nat.zero_le _, Nat.zero_le _⟩
  | bool b => exact ⟨Nat.zero_le _, Nat.zero_le _⟩
  | zero => exact ⟨Nat.zero_le _, Nat.zero_le _⟩
  | num neg dg ex h0 h40 hd h1 h2 => exact ⟨Nat.zero_le _, h40⟩
  | text s =>
    refine ⟨?_, Nat.zero_le _⟩
    rw [penc_text]
    have := esc_long (unstr s)
    rw [unstr_length] at this
    simp
    omega
  | whole i h0 h1 => exact ⟨Nat.zero_le _, Nat.zero_le _⟩
theorem enc_mem : ∀ {l : List Pt} {q : Pt}, q ∈ l → (penc q).length ≤ (encOf l).length
  | x :: l, q, h => by
    rw [encOf_cons, List.length_append]
    rcases List.mem_cons.1 h with rfl | h
    · omega
    · have := enc_mem h; omega
theorem Decode_enc (w : World) (p : Option Addr) (n c : Nat) (l : List Pt) (hR : Rd w p n (encOf l)) (hnc : n ≤ c) (hn : n ≤ 100000) (hl : l.length ≤ 16) (hs : l.all psane = true) :
    Calls Tryd.prog 13 #[.slice p n c] w fun e w' => ∃ p2 c2, e = .returned (.tuple #[.slice p2 l.length c2, .int .i64 0]) ∧ RdP w' p2 l.length l ∧ Below w.heap.size w w' := by
  refine (Decode_any w p n c _ hR (encOf_bys l fun q hq => ps_of q (List.all_eq_true.1 hs q hq)) hnc hn).mono ?_
  rintro e w' ⟨hb, ⟨qs, p2, c2, hd, hq, rfl, ho⟩ | ⟨qs, r, hd, hr, hf, hq, rfl⟩ | ⟨qs, r, q, k, hd, hr, hf, hq, rfl⟩⟩
  · obtain ⟨s, e1, e2⟩ := dc_enc hs hd
    have hss : s.all psane = true := by rw [e1, List.all_append, Bool.and_eq_true] at hs; exact hs.2
    have := enc_nil hss e2.symm
    subst this
    rw [List.append_nil] at e1
    subst e1
    exact ⟨p2, c2, rfl, owned_rdP ho, hb⟩
  · exfalso
    obtain ⟨s, e1, e2⟩ := dc_enc hs hd
    cases s with
    | nil => exact hr e2
    | cons x s =>
      have hx : psane x = true := List.all_eq_true.1 hs x (by rw [e1]; simp)
      rw [e2, encOf_cons, fpart_penc x _ hx] at hf
      cases hf
  · exfalso
    obtain ⟨s, e1, e2⟩ := dc_enc hs hd
    cases s with
    | nil => exact hr e2
    | cons x s => rw [e1, List.length_append] at hl; simp at hl; omega
/-- What Decode answers of any bytes. -/
def DB (w : World) (b : List Int) (e : Ending) (w' : World) : Prop :=
  Below w.heap.size w w' ∧ ((∃ qs p2 c2, b = encOf qs ∧ qs.length ≤ 16 ∧ qs.all psane = true ∧ e = .returned (.tuple #[.slice p2 qs.length c2, .int .i64 0]) ∧ RdP w' p2 qs.length qs) ∨ (∃ ec : Int, e = .returned (.tuple #[.slice none 0 0, .int .i64 ec]) ∧ (ec != 0) = true))
theorem Decode_bytes (w : World) (p : Option Addr) (n c : Nat) (b : List Int) (hR : Rd w p n b) (hy : Bys b) (hnc : n ≤ c) (hn : n ≤ 100000) :
    Calls Tryd.prog 13 #[.slice p n c] w (DB w b) := by
  refine (Decode_any w p n c _ hR hy hnc hn).mono ?_
  rintro e w' ⟨hb, ⟨qs, p2, c2, hd, hq, rfl, ho⟩ | ⟨qs, r, hd, hr, hf, hq, rfl⟩ | ⟨qs, r, q, k, hd, hr, hf, hq, rfl⟩⟩
  · obtain ⟨h1, h2⟩ := dc_back hy hd
    rw [List.append_nil] at h2
    exact ⟨hb, .inl ⟨qs, p2, c2, h2, hq, h1, rfl, owned_rdP ho⟩⟩
  · exact ⟨hb, .inr ⟨2, rfl, by decide⟩⟩
  · exact ⟨hb, .inr ⟨4, rfl, by decide⟩⟩
theorem drewN_zero' (w : World) : w.drewN 0 = w := rfl
set_option maxHeartbeats 4000000 in
set_option maxRecDepth 100000 in
theorem back_out (w : World) (p q : Option Addr) (n c m d : Nat) (la : List Pt) (ha : RdP w p n la) (h : ¬ (fewP la = true ∧ m ≤ 1000)) (hm : m ≤ 140737488351232) :
    Calls Tryd.prog 4 #[.slice p n c, .slice q m d] w fun e w' => e = .returned (.bool true) ∧ Below w.heap.size w w' := by
  have HA := Lib.hid (awake_any w)
  have HRa := Lib.hid ha
  clear ha
  go_enter Tryd.func4, Tryd.ntmps4
  go_wp2_with (go_at_call 8; with_reducible refine HA.out.mono ?_; rintro e w0 ⟨rfl, hb0⟩)
  have HF1 := Lib.hid (Few_any w0 n c p la (HRa.out.below hb0 (Nat.le_refl _)))
  have HB := Lib.hid hb0
  clear hb0 HA HRa
  generalize fewP la = fa at HF1 h
  with_reducible refine HF1.out.mono ?_
  clear HF1
  rintro e w1 ⟨rfl, rfl⟩
  cases fa with
  | false =>
    go_wp2_with fail
    go_ret
    exact ⟨rfl, HB.out⟩
  | true =>
    have hm2 : 1000 < m := by
      rcases Nat.lt_or_ge 1000 m with h2 | h2
      · exact h2
      · exact absurd ⟨by trivial, h2⟩ h
    have dm : decide ((1000 : Int) < (m : Int)) = true := decide_eq_true (by omega)
    have dmn : decide (1000 < m) = true := decide_eq_true hm2
    go_wp2_with fail
    go_ret
    exact ⟨rfl, HB.out⟩
set_option maxHeartbeats 4000000 in
set_option maxRecDepth 100000 in
theorem back_yes (w : World) (p q : Option Addr) (n c m d : Nat) (la : List Pt) (b : List Int) (mx : Int) (ha : RdP w p n la) (hb : Rd w q m b) (hy : Bys b) (hmd : m ≤ d) (hmx : w.cell? ⟨0, 0, none⟩ = some (.int .i64 mx)) (hfa : fewP la = true) (hm : m ≤ 1000) (sa : (n ≤ 16 ∧ la.all psane = true)) :
    Calls Tryd.prog 4 #[.slice p n c, .slice q m d] w fun e w' => e = .returned (.bool true) ∧ Below w.heap.size w w' := by
  have HA := Lib.hid (awake_any w)
  have h0 : 0 < w.heap.size := World.block_lt_of_cell? _ _ hmx
  have fsa := few_small hfa
  have hna : n ≤ 40 := by have := fsa.1; rw [ha.1] at this; exact this
  have dm : decide ((1000 : Int) < (m : Int)) = false := decide_eq_false (by omega)
  have dmn : decide (1000 < m) = false := decide_eq_false (by omega)
  have HRa := Lib.hid ha
  have HRb := Lib.hid hb
  have HM := Lib.hid hmx
  have H0 := Lib.hid h0
  have HSa := Lib.hid sa
  have HFa := Lib.hid (And.intro hfa fsa)
  have HMd := Lib.hid hmd
  have HM1 := Lib.hid hm
  have HNa := Lib.hid hna
  have HY := Lib.hid hy
  clear ha hb hmx h0 hna sa fsa hfa hmd hm hy
  go_enter Tryd.func4, Tryd.ntmps4
  go_wp2_with (go_at_call 8; with_reducible refine HA.out.mono ?_; rintro e w0 ⟨rfl, hb0⟩)
  have HB0 := Lib.hid hb0
  clear hb0 HA
  with_reducible refine (Few_any w0 n c p la (HRa.out.below HB0.out (Nat.le_refl _))).mono ?_
  rintro e w1 ⟨rfl, rfl⟩
  rw [HFa.out.1]
  go_wp2_with fail
  with_reducible refine (ours_any w1 n c p la (HRa.out.below HB0.out (Nat.le_refl _)) HNa.out).mono ?_
  rintro e w3 ⟨p3, c3, rfl, hr3, hb3⟩
  have HB3 := Lib.hid (HB0.out.trans (hb3.mono HB0.out.size))
  have HR3 := Lib.hid hr3
  clear hb3 hr3 HB0
  go_wp2_with fail
  with_reducible refine (Encode_good w3 n c3 p3 la mx HR3.out HFa.out.2.2 (Nat.lt_of_lt_of_le H0.out HB3.out.size) (by rw [cell_kept HB3.out H0.out]; exact HM.out) HSa.out).mono ?_
  rintro e w4 ⟨x4, y4, rfl, hx4, hb4⟩
  have HX4 := Lib.hid hx4
  have HB4 := Lib.hid (HB3.out.trans (hb4.mono HB3.out.size))
  have hle4 : (encOf la).length ≤ 100000 := by
    have := encOf_len la fun x hx => ⟨List.all_eq_true.1 HSa.out.2 x hx, (HFa.out.2.2 x hx).1⟩
    have h2 := HRa.out.1
    have h3 := HNa.out
    have h4 := HSa.out.1
    omega
  have HL4 := Lib.hid hle4
  have hn16 : la.length ≤ 16 := by have h2 := HRa.out.1; have h4 := HSa.out.1; omega
  have HN16 := Lib.hid hn16
  clear hn16
  clear hb4 hx4 HB3 HR3 hle4
  go_wp2_with fail
  with_reducible refine (Decode_enc w4 x4 _ y4 la HX4.out.1 HX4.out.2 HL4.out HN16.out HSa.out.2).mono ?_
  rintro e w5 ⟨p5, c5, rfl, hr5, hb5⟩
  have hln := HRa.out.1
  rw [hln] at hr5 ⊢
  have HR5 := Lib.hid hr5
  have HB5 := Lib.hid (HB4.out.trans (hb5.mono HB4.out.size))
  clear hr5 hb5 HB4 HX4 HL4 hln
  generalize (encOf la).length = nx4
  go_wp2_with fail
  with_reducible refine (theirs_any w5 n c5 p5 la HR5.out HNa.out).mono ?_
  rintro e w6 ⟨p6, c6, rfl, hr6, hb6⟩
  have HR6 := Lib.hid hr6
  have HB6 := Lib.hid (HB5.out.trans (hb6.mono HB5.out.size))
  clear hr6 hb6 HB5 HR5
  go_wp2_with fail
  with_reducible refine (Same_any w6 n c6 n c p6 p la la HR6.out (HRa.out.below HB6.out (Nat.le_refl _)) rfl HNa.out true ⟨fun _ => rfl, fun _ => rfl⟩).mono ?_
  rintro e w6b ⟨rfl, z6, rfl⟩
  have HB6b := Lib.hid (below_drewN HB6.out z6)
  clear HB6 HR6
  generalize w6.drewN z6 = w6c at HB6b ⊢
  go_wp2_with fail
  have HDb := Lib.hid (Decode_bytes w6c q m d b (HRb.out.below HB6b.out) HY.out HMd.out (by have := HM1.out; omega))
  with_reducible refine HDb.out.mono ?_
  clear HDb
  rintro e w7 ⟨hb7, ⟨qs, p7, c7, h71, h72, h73, rfl, h75⟩ | ⟨ec7, rfl, h71⟩⟩
  · have HB7 := Lib.hid (HB6b.out.trans (hb7.mono HB6b.out.size))
    have HQ := Lib.hid (And.intro h71 (And.intro h72 (And.intro h73 h75)))
    have hsz : ∀ x ∈ qs, x.s.size ≤ 1000 ∧ x.dg.size ≤ 1000 := fun x hx => by
      have h1 := penc_small (List.all_eq_true.1 h73 x hx)
      have h2 := enc_mem hx
      rw [← h71, HRb.out.1] at h2
      have := HM1.out
      omega
    have HSz := Lib.hid hsz
    clear hb7 h71 h72 h73 h75 hsz
    go_wp2_with fail
    with_reducible refine (Encode_good w7 qs.length c7 p7 qs mx HQ.out.2.2.2 HSz.out (Nat.lt_of_lt_of_le H0.out HB7.out.size) (by rw [cell_kept HB7.out H0.out]; exact HM.out) ⟨HQ.out.2.1, HQ.out.2.2.1⟩).mono ?_
    rintro e w8 ⟨x8, y8, rfl, hx8, hb8⟩
    have hq := HQ.out.1
    rw [← hq] at hx8 ⊢
    have HB8 := Lib.hid (HB7.out.trans (hb8.mono HB7.out.size))
    have V1 : ∀ y, (convert 23 9 (.slice x8 b.length y8)).run Tryd.prog (w8.drewN y) = .ok (.string (strOf b)) (w8.drewN y) := fun y => conv_rd (hx8.1.below (below_drewN (Below.refl _ _) y))
    have V2 : ∀ y, (convert 23 9 (.slice q m d)).run Tryd.prog (w8.drewN y) = .ok (.string (strOf b)) (w8.drewN y) := fun y => conv_rd (HRb.out.below (below_drewN HB8.out y))
    have V1' := V1 0
    have V2' := V2 0
    rw [drewN_zero'] at V1' V2'
    clear hx8 hb8 hq HQ HSz HRb HY
    generalize strOf b = sb at V1 V2 V1' V2'
    generalize b.length = nb at V1 V1' ⊢
    go_wp2_with fail
    go_ret
    exact ⟨rfl, HB8.out⟩
  · have HB7 := Lib.hid (HB6b.out.trans (hb7.mono HB6b.out.size))
    clear hb7
    go_wp2_with fail
    go_ret
    exact ⟨rfl, HB7.out⟩
set_option maxHeartbeats 4000000 in
set_option maxRecDepth 100000 in
theorem back_no (w : World) (p q : Option Addr) (n c m d : Nat) (la : List Pt) (b : List Int) (mx : Int) (ha : RdP w p n la) (hb : Rd w q m b) (hy : Bys b) (hmd : m ≤ d) (hmx : w.cell? ⟨0, 0, none⟩ = some (.int .i64 mx)) (hfa : fewP la = true) (hm : m ≤ 1000) (sa : ¬ (n ≤ 16 ∧ la.all psane = true)) :
    Calls Tryd.prog 4 #[.slice p n c, .slice q m d] w fun e w' => e = .returned (.bool true) ∧ Below w.heap.size w w' := by
  have HA := Lib.hid (awake_any w)
  have h0 : 0 < w.heap.size := World.block_lt_of_cell? _ _ hmx
  have fsa := few_small hfa
  have hna : n ≤ 40 := by have := fsa.1; rw [ha.1] at this; exact this
  have dm : decide ((1000 : Int) < (m : Int)) = false := decide_eq_false (by omega)
  have dmn : decide (1000 < m) = false := decide_eq_false (by omega)
  have HRa := Lib.hid ha
  have HRb := Lib.hid hb
  have HM := Lib.hid hmx
  have H0 := Lib.hid h0
  have HSa := Lib.hid sa
  have HFa := Lib.hid (And.intro hfa fsa)
  have HMd := Lib.hid hmd
  have HM1 := Lib.hid hm
  have HNa := Lib.hid hna
  have HY := Lib.hid hy
  clear ha hb hmx h0 hna sa fsa hfa hmd hm hy
  go_enter Tryd.func4, Tryd.ntmps4
  go_wp2_with (go_at_call 8; with_reducible refine HA.out.mono ?_; rintro e w0 ⟨rfl, hb0⟩)
  have HB0 := Lib.hid hb0
  clear hb0 HA
  with_reducible refine (Few_any w0 n c p la (HRa.out.below HB0.out (Nat.le_refl _))).mono ?_
  rintro e w1 ⟨rfl, rfl⟩
  rw [HFa.out.1]
  go_wp2_with fail
  with_reducible refine (ours_any w1 n c p la (HRa.out.below HB0.out (Nat.le_refl _)) HNa.out).mono ?_
  rintro e w3 ⟨p3, c3, rfl, hr3, hb3⟩
  have HB3 := Lib.hid (HB0.out.trans (hb3.mono HB0.out.size))
  have HR3 := Lib.hid hr3
  clear hb3 hr3 HB0
  go_wp2_with fail
  with_reducible refine (Encode_bad w3 n c3 p3 la mx HR3.out HFa.out.2.2 (Nat.lt_of_lt_of_le H0.out HB3.out.size) (by rw [cell_kept HB3.out H0.out]; exact HM.out) HSa.out).mono ?_
  rintro e w4 ⟨ec4, rfl, hec4, hb4⟩
  have HB4 := Lib.hid (HB3.out.trans (hb4.mono HB3.out.size))
  have hec4' : (ec4 == 0) = false := by simpa [bne] using hec4
  clear hb4 HB3 HR3
  go_wp2_with fail
  have HDb := Lib.hid (Decode_bytes w4 q m d b (HRb.out.below HB4.out) HY.out HMd.out (by have := HM1.out; omega))
  with_reducible refine HDb.out.mono ?_
  clear HDb
  rintro e w7 ⟨hb7, ⟨qs, p7, c7, h71, h72, h73, rfl, h75⟩ | ⟨ec7, rfl, h71⟩⟩
  · have HB7 := Lib.hid (HB4.out.trans (hb7.mono HB4.out.size))
    have HQ := Lib.hid (And.intro h71 (And.intro h72 (And.intro h73 h75)))
    have hsz : ∀ x ∈ qs, x.s.size ≤ 1000 ∧ x.dg.size ≤ 1000 := fun x hx => by
      have h1 := penc_small (List.all_eq_true.1 h73 x hx)
      have h2 := enc_mem hx
      rw [← h71, HRb.out.1] at h2
      have := HM1.out
      omega
    have HSz := Lib.hid hsz
    clear hb7 h71 h72 h73 h75 hsz
    go_wp2_with fail
    with_reducible refine (Encode_good w7 qs.length c7 p7 qs mx HQ.out.2.2.2 HSz.out (Nat.lt_of_lt_of_le H0.out HB7.out.size) (by rw [cell_kept HB7.out H0.out]; exact HM.out) ⟨HQ.out.2.1, HQ.out.2.2.1⟩).mono ?_
    rintro e w8 ⟨x8, y8, rfl, hx8, hb8⟩
    have hq := HQ.out.1
    rw [← hq] at hx8 ⊢
    have HB8 := Lib.hid (HB7.out.trans (hb8.mono HB7.out.size))
    have V1 : ∀ y, (convert 23 9 (.slice x8 b.length y8)).run Tryd.prog (w8.drewN y) = .ok (.string (strOf b)) (w8.drewN y) := fun y => conv_rd (hx8.1.below (below_drewN (Below.refl _ _) y))
    have V2 : ∀ y, (convert 23 9 (.slice q m d)).run Tryd.prog (w8.drewN y) = .ok (.string (strOf b)) (w8.drewN y) := fun y => conv_rd (HRb.out.below (below_drewN HB8.out y))
    have V1' := V1 0
    have V2' := V2 0
    rw [drewN_zero'] at V1' V2'
    clear hx8 hb8 hq HQ HSz HRb HY
    generalize strOf b = sb at V1 V2 V1' V2'
    generalize b.length = nb at V1 V1' ⊢
    go_wp2_with fail
    go_ret
    exact ⟨rfl, HB8.out⟩
  · have HB7 := Lib.hid (HB4.out.trans (hb7.mono HB4.out.size))
    clear hb7
    go_wp2_with fail
    go_ret
    exact ⟨rfl, HB7.out⟩
theorem back_any (w : World) (p q : Option Addr) (n c m d : Nat) (la : List Pt) (b : List Int) (mx : Int) (ha : RdP w p n la) (hb : Rd w q m b) (hy : Bys b) (hmd : m ≤ d) (hm : m ≤ 140737488351232) (hmx : w.cell? ⟨0, 0, none⟩ = some (.int .i64 mx)) :
    Calls Tryd.prog 4 #[.slice p n c, .slice q m d] w fun e w' => e = .returned (.bool true) ∧ Below w.heap.size w w' := by
  by_cases h : fewP la = true ∧ m ≤ 1000
  · by_cases sa : n ≤ 16 ∧ la.all psane = true
    · exact back_yes w p q n c m d la b mx ha hb hy hmd hmx h.1 h.2 sa
    · exact back_no w p q n c m d la b mx ha hb hy hmd hmx h.1 h.2 sa
  · exact back_out w p q n c m d la ha h hm
end Go.Proofs.YtebhbcbcnjdgjaaDoor.dk
