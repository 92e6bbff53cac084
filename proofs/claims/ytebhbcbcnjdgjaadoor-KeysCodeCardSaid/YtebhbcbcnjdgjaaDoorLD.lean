/- What is encoded is decoded to itself, and the other way round. -/
import Derived.Test.YtebhbcbcnjdgjaaDoorLC
namespace Go.Proofs.YtebhbcbcnjdgjaaDoor.dk
open Go.PlainAid Go.ChangeShapes Go.WideShapes Go.ChangeAt Go.RowKit

theorem zat_map (D v : List Int) (hd : ∀ x ∈ D, isDig x = true) : zat (D.map (fun c => c - 48 + 1) ++ 0 :: v) = some D.length := by
  induction D with
  | nil => simp [zat]
  | cons c D ih =>
    have hc := dig_bd (hd c (List.mem_cons_self ..))
    rw [List.map_cons, List.cons_append, zat, if_neg (by omega), ih fun x hx => hd x (List.mem_cons_of_mem _ hx)]
    rfl
theorem map_back (D : List Int) (hd : ∀ x ∈ D, isDig x = true) : (D.map (fun c => c - 48 + 1)).map (fun c => IntKind.u8.wrap (c + 47)) = D := by
  rw [List.map_map]
  conv => rhs; rw [← List.map_id D]
  apply List.map_congr_left
  intro c hc
  have := dig_bd (hd c hc)
  show IntKind.u8.wrap (c - 48 + 1 + 47) = c
  rw [IntKind.wrap_u8]
  omega
theorem nsize_eq (D : List Int) (h : Int) : nsize D h = h / 256 :: h % 256 :: (D.map (fun c => c - 48 + 1) ++ [0]) := by
  unfold nsize nsz
  rw [List.take_length]
  rfl
theorem fsz_nsize (neg : Bool) (D v : List Int) (ex : Int) (h0 : D.length ≠ 0) (hd : ∀ x ∈ D, isDig x = true) (hs : dsane neg D ex = true) :
    fsz neg (nsize D ((D.length : Int) + ex + 1000) ++ v) = some (neg, D, ex, D.length + 4) := by
  have e2 : (nsize D ((D.length : Int) + ex + 1000) ++ v).drop 2 = D.map (fun c => c - 48 + 1) ++ 0 :: v := by rw [nsize_eq]; simp
  have e0 : (nsize D ((D.length : Int) + ex + 1000) ++ v).getD 0 0 = ((D.length : Int) + ex + 1000) / 256 := by rw [nsize_eq]; rfl
  have e1 : (nsize D ((D.length : Int) + ex + 1000) ++ v).getD 1 0 = ((D.length : Int) + ex + 1000) % 256 := by rw [nsize_eq]; rfl
  have el : ¬ (nsize D ((D.length : Int) + ex + 1000) ++ v).length < 2 := by rw [nsize_eq]; simp
  have et : ((D.map (fun c => c - 48 + 1) ++ 0 :: v).take D.length).map (fun c => IntKind.u8.wrap (c + 47)) = D := by
    rw [List.take_append_of_le_length (by rw [List.length_map]; exact Nat.le_refl _), List.take_of_length_le (by rw [List.length_map]; exact Nat.le_refl _), map_back D hd]
  have ee : ((D.length : Int) + ex + 1000) / 256 * 256 + ((D.length : Int) + ex + 1000) % 256 - 1000 - (D.length : Int) = ex := by omega
  unfold fsz
  rw [if_neg el, e2, zat_map D v hd]
  dsimp only
  rw [if_neg h0, et, e0, e1, ee, if_pos hs]
theorem flipb_flipb (l : List Int) : flipb (flipb l) = l := by
  unfold flipb
  rw [List.map_map]
  conv => rhs; rw [← List.map_id l]
  apply List.map_congr_left
  intro c _
  show 255 - (255 - c) = c
  omega
theorem flipb_app (a b : List Int) : flipb (a ++ b) = flipb a ++ flipb b := List.map_append ..
theorem nsize_len (D : List Int) (h : Int) : (nsize D h).length = D.length + 3 := by rw [nsize_eq]; simp
theorem fnum_nbytes (neg : Bool) (D u : List Int) (ex : Int) (h0 : D.length ≠ 0) (h40 : D.length ≤ 40) (hd : ∀ x ∈ D, isDig x = true) (hs : dsane neg D ex = true) :
    fnum (nbytes neg D ((D.length : Int) + ex + 1000) ++ u) = some (neg, D, ex, D.length + 4) := by
  have hcut : ∀ (m : Int) (t : List Int), t.length ≤ 43 → ((m :: t ++ u).take 44).drop 1 = t ++ u.take (43 - t.length) := fun m t ht => by
    rw [List.cons_append, List.take_succ_cons, List.drop_succ_cons, List.drop_zero, List.take_append, List.take_of_length_le ht]
  have hn := nsize_len D ((D.length : Int) + ex + 1000)
  cases neg with
  | true =>
    have e : nbytes true D ((D.length : Int) + ex + 1000) = 48 :: flipb (nsize D ((D.length : Int) + ex + 1000)) := rfl
    have hf := flipb_len (nsize D ((D.length : Int) + ex + 1000))
    rw [e]
    unfold fnum
    have h48 : (48 :: flipb (nsize D ((D.length : Int) + ex + 1000)) ++ u).getD 0 0 = 48 := rfl
    rw [if_pos h48, hcut _ _ (by omega), flipb_app, flipb_flipb]
    exact fsz_nsize true D _ ex h0 hd hs
  | false =>
    have e : nbytes false D ((D.length : Int) + ex + 1000) = 50 :: nsize D ((D.length : Int) + ex + 1000) := rfl
    rw [e]
    unfold fnum
    rw [if_neg (by rw [List.cons_append]; show ¬ (50 : Int) = 48; omega), hcut _ _ (by omega)]
    exact fsz_nsize false D _ ex h0 hd hs
theorem txt_esc : ∀ (t A : List Int) (i : Nat) (u : List Int), txt (esc t ++ 0 :: 0 :: u) A i = some (A ++ t, i + (esc t).length + 2)
  | [], A, i, u => by simp [esc, txt]
  | c :: t, A, i, u => by
    rw [esc_cons]
    by_cases hc : c = 0
    · subst hc
      rw [if_pos rfl]
      show txt (0 :: 255 :: (esc t ++ 0 :: 0 :: u)) A i = _
      rw [txt, if_pos rfl, if_neg (by omega), if_pos rfl, txt_esc t (A ++ [0]) (i + 2) u]
      simp
      omega
    · rw [if_neg hc]
      show txt (c :: (esc t ++ 0 :: 0 :: u)) A i = _
      have ih := txt_esc t (A ++ [c]) (i + 1) u
      obtain ⟨d, r, hr⟩ : ∃ d r, esc t ++ 0 :: 0 :: u = d :: r := by
        cases h : esc t with
        | nil => exact ⟨_, _, rfl⟩
        | cons x y => exact ⟨_, _, rfl⟩
      rw [hr] at ih ⊢
      rw [txt, if_neg hc, ih]
      simp
      omega
/-- A part's bytes tell it. -/
theorem fpart_penc (q : Pt) (u : List Int) (hq : psane q = true) : fpart (penc q ++ u) = some (q, (penc q).length) := by
  have hps := ps_of q hq
  cases hps with
  | null => rw [penc_null]; simp [fpart]
  | bool b => rw [penc_bool]; cases b <;> simp [fpart]
  | zero => rw [penc_zero]; simp [fpart]
  | num neg dg ex h0 h40 hd h1 h2 =>
    have hsn : dsane neg (unstr dg) ex = true := by
      unfold psane at hq
      simp only [Bool.and_eq_true] at hq
      exact hq.1.1.2
    have hf := fnum_nbytes neg (unstr dg) u ex (by rw [unstr_length]; exact h0) (by rw [unstr_length]; exact h40) hd hsn
    rw [unstr_length] at hf
    rw [penc_num _ _ _ h0]
    have hlen : (nbytes neg (unstr dg) ((dg.size : Int) + ex + 1000)).length = dg.size + 4 := by
      have hn := nsize_len (unstr dg) ((dg.size : Int) + ex + 1000)
      rw [unstr_length] at hn
      unfold nbytes
      split
      · rw [List.length_append, flipb_len, hn]; simp; omega
      · rw [List.length_append, hn]; simp; omega
    have hd0 : (nbytes neg (unstr dg) ((dg.size : Int) + ex + 1000) ++ u).getD 0 0 = if neg = true then 48 else 50 := by
      obtain ⟨t, ht⟩ := nbytes_head neg (unstr dg) ((dg.size : Int) + ex + 1000)
      rw [ht]
      rfl
    unfold fpart
    rw [hd0, hf, hlen]
    cases neg <;> simp [strOf_unstr]
  | text s =>
    rw [penc_text]
    have h := txt_esc (unstr s) [] 1 u
    have e : (64 :: (esc (unstr s) ++ [0, 0]) ++ u) = 64 :: (esc (unstr s) ++ 0 :: 0 :: u) := by simp
    rw [e]
    unfold fpart
    have d : (64 :: (esc (unstr s) ++ 0 :: 0 :: u)).drop 1 = esc (unstr s) ++ 0 :: 0 :: u := rfl
    rw [d, h]
    simp [strOf_unstr]
    omega
  | whole i h0 h1 =>
    rw [penc_whole]
    have : i / 16777216 * 16777216 + i / 65536 % 256 * 65536 + i / 256 % 256 * 256 + i % 256 = i := by omega
    simp [fpart, this]
theorem zat_spec : ∀ (s : List Int) (k : Nat), zat s = some k → s.take (k + 1) = s.take k ++ [0]
  | [], k, h => by simp [zat] at h
  | c :: s, k, h => by
    unfold zat at h
    split at h
    · rename_i h0
      simp at h
      subst h
      rw [h0]
      rfl
    · cases hz : zat s with
      | none => rw [hz] at h; simp at h
      | some j =>
        rw [hz] at h
        simp at h
        subst h
        rw [List.take_succ_cons, List.take_succ_cons, zat_spec s j hz]
        rfl
theorem fsz_back {neg : Bool} {s : List Int} {r : Bool × List Int × Int × Nat} (hy : Bys s) (h : fsz neg s = some r) :
    r.1 = neg ∧ r.2.1.length ≠ 0 ∧ dsane neg r.2.1 r.2.2.1 = true ∧ Bys r.2.1 ∧ r.2.2.2 = r.2.1.length + 4 ∧ r.2.1.length + 3 ≤ s.length ∧ s.take (r.2.1.length + 3) = nsize r.2.1 ((r.2.1.length : Int) + r.2.2.1 + 1000) := by
  unfold fsz at h
  split at h
  · simp at h
  rename_i hl2
  split at h
  · simp at h
  rename_i k hz
  split at h
  · simp at h
  rename_i hk0
  split at h
  · rename_i hs
    simp only [Option.some.injEq] at h
    subst h
    dsimp only
    have hk := zat_lt _ _ hz
    rw [List.length_drop] at hk
    have hlen : (((s.drop 2).take k).map fun c => IntKind.u8.wrap (c + 47)).length = k := by rw [List.length_map, List.length_take, List.length_drop]; omega
    obtain ⟨h40, hdig, he0, he1⟩ := dsane_dig hs (by intro e; rw [e] at hlen; simp at hlen; omega)
    have hb0 := bys_at hy (i := 0) (by omega)
    have hb1 := bys_at hy (i := 1) (by omega)
    have hz2 := zat_spec _ _ hz
    refine ⟨rfl, by omega, hs, ?_, by omega, by omega, ?_⟩
    · intro x hx
      have := dig_bd (hdig x hx)
      omega
    · rw [hlen, nsize_eq]
      have e : (k : Int) + (s.getD 0 0 * 256 + s.getD 1 0 - 1000 - k) + 1000 = s.getD 0 0 * 256 + s.getD 1 0 := by omega
      rw [e, show (s.getD 0 0 * 256 + s.getD 1 0) / 256 = s.getD 0 0 by omega, show (s.getD 0 0 * 256 + s.getD 1 0) % 256 = s.getD 1 0 by omega]
      have em : (((s.drop 2).take k).map fun c => IntKind.u8.wrap (c + 47)).map (fun c => c - 48 + 1) = (s.drop 2).take k := by
        rw [List.map_map]
        conv => rhs; rw [← List.map_id ((s.drop 2).take k)]
        apply List.map_congr_left
        intro c hc
        have h1 := dig_bd (hdig _ (List.mem_map.2 ⟨c, hc, rfl⟩))
        have h2 := hy c (List.mem_of_mem_drop (List.mem_of_mem_take hc))
        show IntKind.u8.wrap (c + 47) - 48 + 1 = c
        rw [IntKind.wrap_u8] at h1 ⊢
        omega
      rw [em, ← hz2]
      obtain ⟨a, s, rfl⟩ : ∃ a t, s = a :: t := by cases s with | nil => simp at hl2 | cons a t => exact ⟨a, t, rfl⟩
      obtain ⟨b, s, rfl⟩ : ∃ a t, s = a :: t := by cases s with | nil => simp at hl2 | cons a t => exact ⟨a, t, rfl⟩
      rfl
  · simp at h
theorem fnum_back {l : List Int} {r : Bool × List Int × Int × Nat} (hy : Bys l) (hl : l ≠ []) (hh : l.getD 0 0 = 48 ∨ l.getD 0 0 = 50) (h : fnum l = some r) :
    dsane r.1 r.2.1 r.2.2.1 = true ∧ r.2.1.length ≠ 0 ∧ Bys r.2.1 ∧ l.take r.2.2.2 = nbytes r.1 r.2.1 ((r.2.1.length : Int) + r.2.2.1 + 1000) ∧ r.2.2.2 = r.2.1.length + 4 := by
  obtain ⟨m, t, rfl⟩ : ∃ m t, l = m :: t := by cases l with | nil => exact absurd rfl hl | cons m t => exact ⟨m, t, rfl⟩
  have hyt : Bys (((m :: t).take 44).drop 1) := (hy.take 44).drop 1
  have ed : ((m :: t).take 44).drop 1 = t.take 43 := rfl
  rw [ed] at hyt
  have hm : (m :: t).getD 0 0 = m := rfl
  rw [hm] at hh
  unfold fnum at h
  rw [hm, ed] at h
  by_cases h48 : m = 48
  · rw [if_pos h48] at h
    obtain ⟨h1, h2, h3, h4, h5, h6, h7⟩ := fsz_back (flip_bys hyt) h
    rw [flipb_len] at h6
    refine ⟨by rw [h1]; exact h3, h2, h4, ?_, h5⟩
    rw [h5, h1, h48]
    show 48 :: t.take (r.2.1.length + 3) = 48 :: flipb (nsize r.2.1 _)
    rw [← h7]
    have : (flipb (t.take 43)).take (r.2.1.length + 3) = flipb ((t.take 43).take (r.2.1.length + 3)) := (List.map_take ..).symm
    rw [this, flipb_flipb, List.take_take]
    rw [List.length_take] at h6
    congr 2
    omega
  · rw [if_neg h48] at h
    obtain ⟨h1, h2, h3, h4, h5, h6, h7⟩ := fsz_back hyt h
    refine ⟨by rw [h1]; exact h3, h2, h4, ?_, h5⟩
    rw [h5, h1, show m = 50 by omega]
    show 50 :: t.take (r.2.1.length + 3) = 50 :: nsize r.2.1 _
    rw [← h7, List.take_take]
    rw [List.length_take] at h6
    congr 2
    omega
theorem txt_back : ∀ (l A : List Int) (i : Nat) (s : List Int) (k : Nat), txt l A i = some (s, k) → ∃ t, s = A ++ t ∧ (∀ x ∈ t, x = 0 ∨ x ∈ l) ∧ k = i + (esc t).length + 2 ∧ ∃ u, l = esc t ++ 0 :: 0 :: u := by
  intro l A i
  induction l, A, i using txt.induct with
  | case1 A i => intro s k h; simp [txt] at h
  | case2 A i x => intro s k h; simp [txt] at h
  | case3 r A i => intro s k h; simp [txt] at h; obtain ⟨rfl, rfl⟩ := h; exact ⟨[], by simp, by simp, by simp [esc], r, by simp [esc]⟩
  | case4 r A i h1 ih =>
    intro s k h
    rw [txt, if_pos rfl, if_neg (by omega), if_pos rfl] at h
    obtain ⟨t, e1, e2, e3, u, e4⟩ := ih s k h
    refine ⟨0 :: t, by rw [e1]; simp, fun x hx => ?_, ?_, u, ?_⟩
    · rcases List.mem_cons.1 hx with rfl | hx
      · exact .inl rfl
      · rcases e2 x hx with h | h
        · exact .inl h
        · exact .inr (by simp [h])
    · rw [esc_cons, if_pos rfl, e3]; simp; omega
    · rw [esc_cons, if_pos rfl, e4]; rfl
  | case5 d r A i h1 h2 => intro s k h; simp [txt, h1, h2] at h
  | case6 c d r A i h1 ih =>
    intro s k h
    rw [txt, if_neg h1] at h
    obtain ⟨t, e1, e2, e3, u, e4⟩ := ih s k h
    refine ⟨c :: t, by rw [e1]; simp, fun x hx => ?_, ?_, u, ?_⟩
    · rcases List.mem_cons.1 hx with rfl | hx
      · exact .inr (List.mem_cons_self ..)
      · rcases e2 x hx with h | h
        · exact .inl h
        · exact .inr (List.mem_cons_of_mem _ h)
    · rw [esc_cons, if_neg h1, e3]; simp; omega
    · rw [esc_cons, if_neg h1, e4]; rfl
/-- The part that bytes begin with has these bytes. -/
theorem fpart_back {l : List Int} {q : Pt} {k : Nat} (hy : Bys l) (hl : l ≠ []) (h : fpart l = some (q, k)) : psane q = true ∧ l.take k = penc q := by
  obtain ⟨m, t, rfl⟩ : ∃ m t, l = m :: t := by cases l with | nil => exact absurd rfl hl | cons m t => exact ⟨m, t, rfl⟩
  have hm : (m :: t).getD 0 0 = m := rfl
  have num : ∀ r, (m = 48 ∨ m = 50) → fnum (m :: t) = some r → psane ⟨2, false, r.1, strOf r.2.1, r.2.2.1, ⟨#[]⟩, 0⟩ = true ∧ (m :: t).take r.2.2.2 = penc ⟨2, false, r.1, strOf r.2.1, r.2.2.1, ⟨#[]⟩, 0⟩ := fun r h48 hf => by
    obtain ⟨h1, h2, h3, h4, h5⟩ := fnum_back hy hl (by rw [hm]; exact h48) hf
    have hu := unstr_strOf r.2.1 h3
    have hz := strOf_size r.2.1
    refine ⟨?_, ?_⟩
    · simp [psane, hu, h1, emptyEq]
    · rw [penc_num _ _ _ (by rw [hz]; exact h2), hu, hz]
      exact h4
  unfold fpart at h
  rw [hm] at h
  split at h
  · rename_i e; simp at h; obtain ⟨rfl, rfl⟩ := h; exact ⟨by decide, by rw [penc_null, e]; rfl⟩
  split at h
  · rename_i e; simp at h; obtain ⟨rfl, rfl⟩ := h; exact ⟨by decide, by rw [penc_bool, e]; rfl⟩
  split at h
  · rename_i e; simp at h; obtain ⟨rfl, rfl⟩ := h; exact ⟨by decide, by rw [penc_bool, e]; rfl⟩
  split at h
  · rename_i e; simp at h; obtain ⟨rfl, rfl⟩ := h; exact ⟨by decide, by rw [penc_zero, e]; rfl⟩
  split at h
  · rename_i e
    cases hf : fnum (m :: t) with
    | none => rw [hf] at h; simp at h
    | some r => rw [hf] at h; simp at h; obtain ⟨rfl, rfl⟩ := h; exact num r (.inl e) hf
  split at h
  · rename_i e
    cases hf : fnum (m :: t) with
    | none => rw [hf] at h; simp at h
    | some r => rw [hf] at h; simp at h; obtain ⟨rfl, rfl⟩ := h; exact num r (.inr e) hf
  split at h
  · rename_i e
    have ed : (m :: t).drop 1 = t := rfl
    rw [ed] at h
    cases hf : txt t [] 1 with
    | none => rw [hf] at h; simp at h
    | some r =>
      rw [hf] at h
      simp at h
      obtain ⟨rfl, rfl⟩ := h
      obtain ⟨s, e1, e2, e3, u, e4⟩ := txt_back _ _ _ r.1 r.2 hf
      rw [List.nil_append] at e1
      have hb : Bys r.1 := fun x hx => by
        rw [e1] at hx
        rcases e2 x hx with rfl | h
        · omega
        · exact hy x (List.mem_cons_of_mem _ h)
      refine ⟨?_, ?_⟩
      · have : dsane false (unstr ⟨#[]⟩) 0 = true := by decide
        simp [psane, this, emptyEq]
      · rw [penc_text, unstr_strOf r.1 hb, e1, e3, e4, e, show 1 + (esc s).length + 2 = ((esc s).length + 2) + 1 by omega, List.take_succ_cons]
        congr 1
        rw [show esc s ++ 0 :: 0 :: u = (esc s ++ [0, 0]) ++ u by simp, List.take_append_of_le_length (by simp), List.take_of_length_le (by simp)]
  split at h
  · rename_i e
    split at h
    · rename_i h4
      simp at h
      obtain ⟨rfl, rfl⟩ := h
      match t, h4 with
      | [], h4 => simp at h4
      | [_], h4 => simp at h4
      | [_, _], h4 => simp at h4
      | [_, _, _], h4 => simp at h4
      | a :: b :: c :: d :: t, _ =>
        have ha := hy a (by simp)
        have hb := hy b (by simp)
        have hc := hy c (by simp)
        have hd := hy d (by simp)
        have hsn : dsane false (unstr ⟨#[]⟩) 0 = true := by decide
        refine ⟨?_, ?_⟩
        · simp [psane, hsn, emptyEq]
          omega
        · rw [penc_whole, e]
          simp
          omega
    · simp at h
  · simp at h
end Go.Proofs.YtebhbcbcnjdgjaaDoor.dk
