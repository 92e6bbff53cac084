/- inText: the character that stands between two signs. -/
import Derived.Test.YtkifndecpbphbaaDoorTJb
import Derived.Deep.RegionHeld3
namespace Go.Proofs.YtkifndecpbphbaaDoor.dk
open Go.PlainAid Go.ChangeShapes Go.WideShapes Go.ChangeAt Go.RowKit

theorem esc_range (l : List Int) : (utf.esc l).2 = 0 ∨ (utf.esc l).2 = 1 ∨ (utf.esc l).2 = 5 ∨ (utf.esc l).2 = 11 := by
  unfold utf.esc
  repeat' split
  all_goals first | (left; rfl) | (right; left; rfl) | skip
  unfold utf.escn
  repeat' split
  all_goals first | (left; rfl) | (right; right; left; rfl) | (right; right; right; rfl)
def InP (p : List Int × Nat) (w : World) (e : Ending) (w' : World) : Prop := ∃ v, e = .returned (.tuple #[v, .int .i64 (p.2 : Int)]) ∧ utf.Bs w' v p.1 ∧ Below w.heap.size w w'
theorem InP.no {w : World} : InP ([], 0) w (.returned (.tuple #[.slice none 0 0, .int .i64 0])) w := ⟨_, rfl, .inl ⟨_, _, rfl, rfl⟩, Below.refl _ _⟩
set_option maxRecDepth 100000 in
set_option maxHeartbeats 4000000 in
theorem inText_any (w : World) (s : ByteArray) (sg : Int) (hF : utf.Forms w) (h0 : 0 < s.size) (hs : s.size ≤ 1000000000) :
    Calls Tryd.prog 51 #[.string s, .int .u8 sg] w (InP (inTextL (unstr s) sg) w) := by
  have hl := unstr_length s
  have hat := byte_at s 0 h0
  obtain ⟨x, hxv⟩ : ∃ x, ((s[0].toNat : Nat) : Int) = x := ⟨_, rfl⟩
  rw [hxv] at hat
  have hcv := fun (W : World) (s : ByteArray) => Lib.run_convert_string_bytes (P := Tryd.prog) W 9 33 5 s Tryd.underlying9 Tryd.underlying33 Tryd.underlying5
  by_cases c32 : x < 32
  · have hv : inTextL (unstr s) sg = ([], 0) := by unfold inTextL; rw [← hat, if_pos c32]
    have d32 : decide (x < 32) = true := decide_eq_true c32
    rw [hv]
    clear hv hl hat hcv hF
    go_enter Tryd.func51, Tryd.ntmps51
    go_wp2_with fail
    go_ret2
    exact InP.no
  have d32 : decide (x < 32) = false := decide_eq_false c32
  by_cases c92 : x = 92
  · subst c92
    have e92 : ¬ ((unstr s).getD 0 0 < 32) ∧ ¬ ((unstr s).getD 0 0 ≠ 92) := by rw [← hat]; exact ⟨by omega, by omega⟩
    by_cases c1 : s.size = 1
    · have hv : inTextL (unstr s) sg = ([], 0) := by unfold inTextL; rw [if_neg e92.1, if_neg e92.2, if_pos (by omega)]
      have d1 : ((s.size : Int) == 1) = true := beq_iff_eq.2 (by omega)
      rw [hv]
      clear hv hl hat hcv hF e92
      go_enter Tryd.func51, Tryd.ntmps51
      go_wp2_with fail
      go_ret2
      exact InP.no
    have d1 : ((s.size : Int) == 1) = false := beq_eq_false_iff_ne.2 (by omega)
    have h1 : 1 < s.size := by omega
    have hat1 := byte_at s 1 h1
    obtain ⟨y, hyv⟩ : ∃ y, ((s[1].toNat : Nat) : Int) = y := ⟨_, rfl⟩
    rw [hyv] at hat1
    by_cases csg : y = sg
    · have hv : inTextL (unstr s) sg = ([sg], 2) := by unfold inTextL; rw [if_neg e92.1, if_neg e92.2, if_neg (by omega), if_pos (by rw [← hat1]; exact csg)]
      subst csg
      rw [hv]
      clear hv hl hat hat1 hcv hF e92
      go_enter Tryd.func51, Tryd.ntmps51
      go_wp2_with fail
      go_ret2
      exact ⟨_, rfl, utf.Bs_one w y, (Below.refl _ _).alloc (Nat.le_refl _) _⟩
    have dsg : (y == sg) = false := beq_eq_false_iff_ne.2 csg
    by_cases c39 : y = 39
    · have hv : inTextL (unstr s) sg = ([], 0) := by unfold inTextL; rw [if_neg e92.1, if_neg e92.2, if_neg (by omega), if_neg (by rw [← hat1]; exact csg), if_pos (by rw [← hat1]; exact .inl c39)]
      subst c39
      rw [hv]
      clear hv hl hat hat1 hcv hF e92
      go_enter Tryd.func51, Tryd.ntmps51
      go_wp2_with fail
      go_ret2
      exact InP.no
    have d39 : (y == 39) = false := beq_eq_false_iff_ne.2 c39
    by_cases c34 : y = 34
    · have hv : inTextL (unstr s) sg = ([], 0) := by unfold inTextL; rw [if_neg e92.1, if_neg e92.2, if_neg (by omega), if_neg (by rw [← hat1]; exact csg), if_pos (by rw [← hat1]; exact .inr c34)]
      subst c34
      rw [hv]
      clear hv hl hat hat1 hcv hF e92
      go_enter Tryd.func51, Tryd.ntmps51
      go_wp2_with fail
      go_ret2
      exact InP.no
    have d34 : (y == 34) = false := beq_eq_false_iff_ne.2 c34
    obtain ⟨t, ht⟩ : ∃ t, t = s.extract 1 (min 12 s.size) := ⟨_, rfl⟩
    have hu : unstr t = ((unstr s).drop 1).take 11 := by
      rw [ht]
      have h := cut_unstr s 1 (min 12 s.size - 1)
      rw [show 1 + (min 12 s.size - 1) = min 12 s.size by omega] at h
      rw [h]
      by_cases h12 : 12 ≤ s.size
      · rw [show min 12 s.size - 1 = 11 by omega]
      · rw [List.take_of_length_le (by rw [List.length_drop]; omega), List.take_of_length_le (by rw [List.length_drop]; omega)]
    have hts : t.size ≤ 11 := by rw [ht, ByteArray.size_extract]; omega
    have E1 : Hid ((min (12 : Int) (s.size : Int)).toNat = min 12 s.size) := by show _ = _; omega
    have E2 : Hid (min (min 12 s.size) s.size - 1 = t.size) := by show _ = _; rw [ht, ByteArray.size_extract]
    have ET := Lib.hid ht.symm
    have m1 : (1 : Int) ≤ min 12 (s.size : Int) := by omega
    have hE : ∀ W, Calls Tryd.prog 60 #[.slice (some ⟨W.heap.size, 0, none⟩) t.size (grownCap W t.size 0 5)] (Lib.bytesWorld W 5 t) fun e w' => e = .returned (.tuple #[.int .i32 (utf.esc (((unstr s).drop 1).take 11)).1, .int .i64 (utf.esc (((unstr s).drop 1).take 11)).2]) ∧ Below W.heap.size W w' := fun W => by
      have hbb := utf.bytes_below' W t 5
      have hN := utf.Escape_any _ (utf.ints t) _ (utf.ints_oct t) (by rw [utf.ints_length]; omega) (utf.Bs_conv' W t)
      rw [← unstr_ints, hu] at hN
      refine hN.mono ?_
      rintro e w' ⟨rfl, rfl⟩
      exact ⟨rfl, hbb⟩
    have hr := esc_range (((unstr s).drop 1).take 11)
    have hv : inTextL (unstr s) sg = if (utf.esc (((unstr s).drop 1).take 11)).2 = 0 then ([], 0) else (utf.enc (utf.fixed (utf.esc (((unstr s).drop 1).take 11)).1), 1 + (utf.esc (((unstr s).drop 1).take 11)).2.toNat) := by
      unfold inTextL
      rw [if_neg e92.1, if_neg e92.2, if_neg (by omega), if_neg (by rw [← hat1]; exact csg), if_neg (by rw [← hat1]; rintro (h | h); exact c39 h; exact c34 h)]
    rw [hv]
    generalize utf.esc (((unstr s).drop 1).take 11) = q at hE hr ⊢
    obtain ⟨r, n⟩ := q
    dsimp only at hE hr ⊢
    have HE := Lib.hid hE
    clear hv hl hat hat1 hF e92 hu hts ht hE
    by_cases cn : n = 0
    · subst cn
      rw [if_pos rfl]
      clear hr
      go_enter Tryd.func51, Tryd.ntmps51
      go_wp2_with fail
      rw [E1.out, E2.out, ET.out]
      with_reducible refine (HE.out _).mono ?_
      rintro e w2 ⟨rfl, hb2⟩
      clear hcv
      go_wp2_with fail
      go_ret2
      exact ⟨_, rfl, .inl ⟨_, _, rfl, rfl⟩, hb2⟩
    · rw [if_neg cn]
      obtain ⟨m, hm⟩ : ∃ m : Nat, n = (m : Int) := ⟨n.toNat, by omega⟩
      subst hm
      have dn0 : (((m : Nat) : Int) == 0) = false := beq_eq_false_iff_ne.2 cn
      have wm : IntKind.i64.wrap (1 + (m : Int)) = ((1 + m : Nat) : Int) := by rw [IntKind.wrap_i64]; omega
      have HP := Lib.hid (fun W => utf.PutNil_any r W)
      have ht2 : ((m : Nat) : Int).toNat = m := Int.toNat_natCast m
      rw [ht2]
      clear hr cn ht2
      go_enter Tryd.func51, Tryd.ntmps51
      go_wp2_with fail
      rw [E1.out, E2.out, ET.out]
      with_reducible refine (HE.out _).mono ?_
      rintro e w2 ⟨rfl, hb2⟩
      clear hcv
      go_wp2_with fail
      with_reducible refine (HP.out _).mono ?_
      rintro e w3 ⟨rfl, rfl⟩
      go_wp2_with fail
      go_ret2
      exact ⟨_, rfl, utf.Bs_put w2 (utf.fixed r), hb2.alloc hb2.size _⟩
  · have d92 : (x != 92) = true := bne_iff_ne.2 c92
    have hml := utf.nxl_len (unstr_oct s)
    obtain ⟨m, hm⟩ : ∃ m : Nat, (utf.nxl (unstr s)).2 = (m : Int) := ⟨(utf.nxl (unstr s)).2.toNat, by omega⟩
    have hv : inTextL (unstr s) sg = ((unstr s).take m, m) := by
      unfold inTextL
      rw [← hat, if_neg c32, if_pos c92, hm]
      rfl
    have hS := size_any w s hF hs
    rw [hm] at hS
    have HS := Lib.hid hS
    have hmx : (m : Int) ≤ (s.size : Int) := by omega
    have E1 : Hid (min m s.size = (s.extract 0 m).size) := by show _ = _; rw [ByteArray.size_extract]; omega
    have HB : Hid (∀ W, utf.Bs (Lib.bytesWorld W 5 (s.extract 0 m)) (.slice (some ⟨W.heap.size, 0, none⟩) (s.extract 0 m).size (grownCap W (s.extract 0 m).size 0 5)) ((unstr s).take m)) := fun W => by
      have h := utf.Bs_conv' W (s.extract 0 m)
      rw [← unstr_ints, unstr_take] at h
      exact h
    rw [hv]
    clear hv hl hat hF hS hm hml c92
    go_enter Tryd.func51, Tryd.ntmps51
    go_wp2_with fail
    with_reducible refine HS.out.mono ?_
    rintro e w2 ⟨rfl, hb2⟩
    go_wp2_with fail
    rw [E1.out]
    go_ret2
    exact ⟨_, rfl, HB.out w2, hb2.trans ((utf.bytes_below' w2 _ _).mono hb2.size)⟩
end Go.Proofs.YtkifndecpbphbaaDoor.dk
/- text: what stands between two signs. -/
namespace Go.Proofs.YtkifndecpbphbaaDoor.dk
open Go.PlainAid Go.ChangeShapes Go.WideShapes Go.ChangeAt Go.RowKit

/-- What stands up to the closing sign. -/
def textT (l : List Int) (sg : Int) : Option (List Int × Nat) := textF l.length l sg
theorem dig_len {l : List Int} (h : ¬ (utf.dig l).2 = false) : 5 ≤ l.length := by
  unfold utf.dig at h
  by_cases h5 : l.length < 5
  · rw [if_pos h5] at h; exact absurd rfl h
  · omega
theorem esc_le (l : List Int) : (utf.esc l).2 ≤ (l.length : Int) := by
  unfold utf.esc
  split
  · omega
  rename_i h0
  have h1 : (1 : Int) ≤ (l.length : Int) := by omega
  repeat' split
  all_goals try exact h1
  unfold utf.escn
  split
  · omega
  rename_i hd
  have h5 := dig_len (fun h => hd (.inl h))
  split
  · show (5 : Int) ≤ _; omega
  split
  · omega
  split
  · omega
  · rename_i hd2
    have h6 := dig_len (fun h => hd2 (.inl h))
    rw [List.length_drop] at h6
    show (11 : Int) ≤ _
    omega
theorem inTextL_range {l : List Int} (hO : utf.Oct l) (sg : Int) : (inTextL l sg).2 ≤ 12 ∧ (inTextL l sg).1.length ≤ 4 ∧ ((inTextL l sg).2 ≠ 0 → l ≠ [] → 0 < (inTextL l sg).1.length) := by
  have hml := utf.nxl_len hO
  unfold inTextL
  have no : ∀ a : List Int, ((([] : List Int), 0) : List Int × Nat).2 ≤ 12 ∧ ((([] : List Int), 0) : List Int × Nat).1.length ≤ 4 ∧ ((([] : List Int), 0).2 ≠ 0 → a ≠ [] → 0 < ((([] : List Int), 0) : List Int × Nat).1.length) := fun a => ⟨by decide, by decide, fun h => absurd rfl h⟩
  split
  · exact no l
  split
  · refine ⟨by show (utf.nxl l).2.toNat ≤ 12; omega, by show (l.take _).length ≤ 4; rw [List.length_take]; omega, fun h1 h2 => ?_⟩
    have hp : 0 < l.length := List.length_pos_iff.2 h2
    have h1' : (utf.nxl l).2.toNat ≠ 0 := h1
    show 0 < (l.take _).length
    rw [List.length_take]
    omega
  split
  · exact no l
  split
  · exact ⟨by show 2 ≤ 12; decide, by show 1 ≤ 4; decide, fun _ _ => Nat.zero_lt_one⟩
  split
  · exact no l
  split
  · exact no l
  · have h := utf.enc_len (utf.fixed (utf.esc ((l.drop 1).take 11)).1)
    have hr := esc_range ((l.drop 1).take 11)
    exact ⟨by show 1 + (utf.esc ((l.drop 1).take 11)).2.toNat ≤ 12; omega, h.2, fun _ _ => h.1⟩
theorem inTextL_le {l : List Int} (hO : utf.Oct l) (hn : l ≠ []) (sg : Int) : (inTextL l sg).2 ≤ l.length := by
  have hml := utf.nxl_len hO
  have hp : 0 < l.length := List.length_pos_iff.2 hn
  unfold inTextL
  split
  · exact Nat.zero_le _
  split
  · show (utf.nxl l).2.toNat ≤ l.length
    omega
  split
  · exact Nat.zero_le _
  split
  · show 2 ≤ l.length
    omega
  split
  · exact Nat.zero_le _
  split
  · exact Nat.zero_le _
  · have hr := esc_le ((l.drop 1).take 11)
    rw [List.length_take, List.length_drop] at hr
    show 1 + (utf.esc ((l.drop 1).take 11)).2.toNat ≤ l.length
    omega
theorem textF_nil (f : Nat) (sg : Int) : textF f [] sg = none := by cases f <;> simp [textF]
theorem textF_succ (f : Nat) (l : List Int) (sg : Int) : textF (f + 1) l sg = if l = [] then none else if l.getD 0 0 = sg then some ([], 1) else if (inTextL l sg).2 = 0 then none
      else (textF f (l.drop (inTextL l sg).2) sg).map fun q => ((inTextL l sg).1 ++ q.1, (inTextL l sg).2 + q.2) := rfl
theorem textF_fuel : ∀ (f g : Nat) (l : List Int) (sg : Int), l.length ≤ f → l.length ≤ g → textF f l sg = textF g l sg := by
  intro f
  induction f with
  | zero =>
    intro g l sg hl _
    rw [List.length_eq_zero_iff.1 (Nat.le_zero.1 hl), textF_nil, textF_nil]
  | succ f ih =>
    intro g l sg hl hg
    by_cases hn : l = []
    · subst hn; rw [textF_nil, textF_nil]
    have hp : 0 < l.length := List.length_pos_iff.2 hn
    cases g with
    | zero => omega
    | succ g =>
      rw [textF_succ, textF_succ, if_neg hn, if_neg hn]
      split
      · rfl
      · split
        · rfl
        · rw [ih g (l.drop (inTextL l sg).2) sg (by rw [List.length_drop]; omega) (by rw [List.length_drop]; omega)]
theorem textT_step {l : List Int} (hn : l ≠ []) (sg : Int) : textT l sg = if l.getD 0 0 = sg then some ([], 1) else if (inTextL l sg).2 = 0 then none
      else (textT (l.drop (inTextL l sg).2) sg).map fun q => ((inTextL l sg).1 ++ q.1, (inTextL l sg).2 + q.2) := by
  have hp : 0 < l.length := List.length_pos_iff.2 hn
  unfold textT
  rw [textF_fuel l.length ((l.length - 1) + 1) l sg (Nat.le_refl _) (by omega), textF_succ, if_neg hn]
  split
  · rfl
  · split
    · rfl
    · rw [textF_fuel (l.length - 1) (l.drop (inTextL l sg).2).length (l.drop (inTextL l sg).2) sg (by rw [List.length_drop]; omega) (Nat.le_refl _)]
theorem textL_T (l : List Int) : textL l = textT (l.drop 1) (l.getD 0 0) := by
  unfold textL textT
  exact textF_fuel _ _ _ _ (by rw [List.length_drop]; omega) (Nat.le_refl _)
/-- Where the reading of a text stands. -/
def TxR (l : List Int) (k : Nat) (acc : List Int) : Prop := textL l = (textT (l.drop k) (l.getD 0 0)).map fun q => (acc ++ q.1, k - 1 + q.2)
theorem TxR.start (l : List Int) : TxR l 1 [] := by
  unfold TxR
  rw [textL_T]
  cases textT (l.drop 1) (l.getD 0 0) with
  | none => rfl
  | some q => show some q = some ([] ++ q.1, 1 - 1 + q.2); rw [List.nil_append, Nat.sub_self, Nat.zero_add]
theorem TxR.stop {l : List Int} {k : Nat} {acc : List Int} (h : TxR l k acc) (hk : ¬ k < l.length) : (textFs l).val = (Fs.bad 2).val := by
  unfold TxR at h
  unfold textFs
  rw [h, List.drop_eq_nil_of_le (by omega)]
  rfl
theorem TxR.bad {l : List Int} {k : Nat} {acc : List Int} (h : TxR l k acc) (hk : k < l.length) (hc : l.getD k 0 ≠ l.getD 0 0) (hn : (inTextL (l.drop k) (l.getD 0 0)).2 = 0) : (textFs l).val = (Fs.bad 2).val := by
  have hd := drop_cons_at hk
  unfold TxR at h
  rw [textT_step hd.2, hd.1, if_neg hc, if_pos hn] at h
  unfold textFs
  rw [h]
  rfl
theorem TxR.done {l : List Int} {k : Nat} {acc : List Int} (h : TxR l k acc) (h1 : 1 ≤ k) (hk : k < l.length) (hc : l.getD k 0 = l.getD 0 0) : textFs l = ⟨⟨2, acc, false, ⟨#[]⟩, 0⟩, k + 1, 0⟩ := by
  have hd := drop_cons_at hk
  unfold TxR at h
  rw [textT_step hd.2, hd.1, if_pos hc] at h
  unfold textFs
  rw [h]
  show (⟨⟨2, acc ++ [], false, ⟨#[]⟩, 0⟩, k - 1 + 1 + 1, 0⟩ : Fs) = _
  rw [List.append_nil, Nat.sub_add_cancel h1]
theorem TxR.more {l : List Int} {k : Nat} {acc : List Int} (h : TxR l k acc) (h1 : 1 ≤ k) (hk : k < l.length) (hc : l.getD k 0 ≠ l.getD 0 0) (hn : (inTextL (l.drop k) (l.getD 0 0)).2 ≠ 0) :
    TxR l (k + (inTextL (l.drop k) (l.getD 0 0)).2) (acc ++ (inTextL (l.drop k) (l.getD 0 0)).1) := by
  have hd := drop_cons_at hk
  unfold TxR at h ⊢
  rw [textT_step hd.2, hd.1, if_neg hc, if_neg hn, List.drop_drop] at h
  rw [h]
  cases textT (l.drop (k + (inTextL (l.drop k) (l.getD 0 0)).2)) (l.getD 0 0) with
  | none => rfl
  | some q =>
    show some (acc ++ (_ ++ q.1), k - 1 + (_ + q.2)) = some (acc ++ _ ++ q.1, k + _ - 1 + q.2)
    rw [List.append_assoc]
    congr 2
    omega
def TxI (w : World) (v : Value) (acc : List Int) (W : World) : Prop :=
  W.ownsRow (w.heap.size + 1) 5 1 v acc.length (bcells acc) ∧ W.heap[w.heap.size]? = some (.cells #[.int .i64 0, .string ⟨#[]⟩, .bool false, .string ⟨#[]⟩, .int .i64 0, .int .i64 0, .int .i64 0] 30 (0, 0)) ∧ Below w.heap.size w W ∧ w.heap.size + 1 ≤ W.heap.size
theorem TxI.past {w : World} {v : Value} {acc : List Int} {W W' : World} (h : TxI w v acc W) (hb : Below W.heap.size W W') : TxI w v acc W' :=
  ⟨own_block_keeps h.1 (fun g hg => hb.block g (h.1.lt g hg).2), (hb.block _ (lt_of_block h.2.1)).trans h.2.1, h.2.2.1.trans (hb.mono h.2.2.1.size), Nat.le_trans h.2.2.2 hb.size⟩
theorem bs_rd {W : World} {v : Value} {l : List Int} (h : utf.Bs W v l) (h0 : 0 < l.length) : ∃ b off c, v = .slice (some ⟨b, off, none⟩) l.length c ∧ Rd W (some ⟨b, off, none⟩) l.length l := by
  rcases h with ⟨_, _, _, hl⟩ | ⟨b, off, c, hv, _, _, hlt, hc⟩
  · rw [hl] at h0; cases h0
  · exact ⟨b, off, c, hv, rfl, fun _ => ⟨b, off, rfl, hlt, hc⟩⟩
theorem bad_val (e : Int) : (Fs.bad e).val = .tuple #[.agg #[.int .i64 0, .string ⟨#[]⟩, .bool false, .string ⟨#[]⟩, .int .i64 0, .int .i64 0, .int .i64 0], .int .i64 0, .int .i64 e] := rfl
set_option maxRecDepth 100000 in
set_option maxHeartbeats 8000000 in
theorem text_any (w : World) (s : ByteArray) (hF : utf.Forms w) (h0 : 0 < s.size) (hs : s.size ≤ 10000000) :
    Calls Tryd.prog 39 #[.string s] w fun e w' => e = .returned (textFs (unstr s)).val ∧ Below w.heap.size w w' := by
  obtain ⟨wa, hwa⟩ : ∃ wa, wa = w.alloc (.cells #[.int .i64 0, .string ⟨#[]⟩, .bool false, .string ⟨#[]⟩, .int .i64 0, .int .i64 0, .int .i64 0] 30) := ⟨_, rfl⟩
  have hr : wa.heap[w.heap.size]? = some (.cells #[.int .i64 0, .string ⟨#[]⟩, .bool false, .string ⟨#[]⟩, .int .i64 0, .int .i64 0, .int .i64 0] 30 (0, 0)) := by rw [hwa]; exact heap_alloc_new _ _
  have hb : Below w.heap.size w wa := by rw [hwa]; exact (Below.refl _ _).alloc (Nat.le_refl _) _
  have HW := Lib.hid hwa
  have HR := Lib.hid hr
  have HB := Lib.hid hb
  have HI0 : Hid (TxI w (.slice none 0 0) [] wa) := ⟨World.ownsRow_nil _ _ _ _, hr, hb, by have := lt_of_block hr; omega⟩
  have HF := Lib.hid hF
  have hlen := unstr_length s
  have hat0 := byte_at s 0 h0
  obtain ⟨sg, hsg⟩ : ∃ sg, ((s[0].toNat : Nat) : Int) = sg := ⟨_, rfl⟩
  rw [hsg] at hat0
  have HA0 := Lib.hid hat0
  have HLen := Lib.hid hlen
  have HCc := Lib.hid (fun v k (h : utf.Forms v) (hk : k < s.size) => inText_any v (s.extract k s.size) sg h (by rw [ByteArray.size_extract]; omega) (by rw [ByteArray.size_extract]; omega))
  clear hwa hr hb hF HR HB hat0 hlen
  go_enter Tryd.func39, Tryd.ntmps39
  go_upto_region 1 with fail
  rw [← HW.out]
  clear HW
  go_wp2_with fail
  go_loopw [5, 6] (fun v i wr => ∃ (k : Nat) (acc : List Int) (p : Option Addr) (c : Nat), v = .slice p acc.length c ∧ i = .int .i64 k ∧ 1 ≤ k ∧ k ≤ s.size ∧ acc.length ≤ 4 * k ∧ Hid (TxR (unstr s) k acc) ∧ Hid (TxI w (.slice p acc.length c) acc wr)) (fun _ i _ => s.size - (intOf i).toNat)
  case atStart => exact ⟨1, [], none, 0, rfl, rfl, Nat.le_refl _, h0, by simp, TxR.start _, HI0⟩
  case round =>
    clear HI0
    obtain ⟨k, acc, p, c, rfl, rfl, hk1, hk, hal, hN, hI⟩ := hrel
    by_cases hkl : k < s.size
    · have hatk := byte_at s k hkl
      have HL := Lib.hid (And.intro hk1 (And.intro hk hal))
      by_cases hx : ((s[k].toNat : Nat) : Int) = sg
      · have HV0 : Hid (textFs (unstr s) = ⟨⟨2, acc, false, ⟨#[]⟩, 0⟩, k + 1, 0⟩) := hN.out.done hk1 (by rw [HLen.out]; exact hkl) (by rw [← hatk, ← HA0.out, hx])
        have wk : IntKind.i64.wrap ((k : Int) + 1) = (k : Int) + 1 := by rw [IntKind.wrap_i64]; omega
        have HV : Hid ((textFs (unstr s)).val = .tuple #[.agg #[.int .i64 2, .string (strOf acc), .bool false, .string ⟨#[]⟩, .int .i64 0, .int .i64 0, .int .i64 0], .int .i64 ((k : Int) + 1), .int .i64 0]) := by show _ = _; rw [HV0.out]; rfl
        clear hN hatk hk1 hk hal HV0
        go_upto_region 4 with fail
        refine wp_region_held_drew (S := (fun W : World => Below wr.drew.heap.size wr.drew W)) (by kernel_rfl) (Below.refl _ _) (fun hHeld => ?_)
        clear hHeld
        have hTx := hI.out.past (Below.refl _ _).drew
        have hFd : utf.Forms wr.drew := HF.out.below (hTx.2.2.1) HF.out.size
        have HTx := Lib.hid hTx
        have HFd := Lib.hid hFd
        have hT : (fun W : World => Below wr.drew.heap.size wr.drew W) wr.drew := Below.refl _ _
        clear hTx hFd hI
        generalize wr.drew = wd at HTx HFd hT ⊢
        refine wpAnyH_take (i := 0) (oi := { dst := some 13, op := Op.move (Operand.tmp 0), type := 9, pos := "token.go:131", after := #[], guard := none }) (v := ?_) rfl (by kernel_rfl) (by kernel_rfl) (by kernel_rfl) (fun _ _ _ h => h) (Or.inl ⟨by rfl, ?_⟩) (by assumption) ?_
        rotate_left
        · intro w hSw
          try dsimp only at hSw
          go_simp
          try with_reducible rfl
        try simp only [Act.put, List.setIfInBounds_toArray, List.set_cons_zero, List.set_cons_succ]
        refine wpAnyH_take (i := 1) (oi := { dst := some 14, op := Op.move (Operand.tmp 6), type := 3, pos := "token.go:131", after := #[], guard := none }) (v := ?_) rfl (by kernel_rfl) (by kernel_rfl) (by kernel_rfl) (fun _ _ _ h => h) (Or.inl ⟨by rfl, ?_⟩) (by assumption) ?_
        rotate_left
        · intro w hSw
          try dsimp only at hSw
          go_simp
          try with_reducible rfl
        try simp only [Act.put, List.setIfInBounds_toArray, List.set_cons_zero, List.set_cons_succ]
        refine wpAnyH_take (i := 2) (oi := { dst := some 15, op := Op.index 9 (Operand.tmp 13) (Operand.tmp 14), type := 5, pos := "token.go:131", after := #[{ on := 0, ground := Ground.data }, { on := 1, ground := Ground.data }], guard := none }) (v := ?_) rfl (by kernel_rfl) (by kernel_rfl) (by kernel_rfl) (fun _ _ _ h => h) (Or.inl ⟨by rfl, ?_⟩) (by assumption) ?_
        rotate_left
        · intro w hSw
          try dsimp only at hSw
          go_simp
          try with_reducible rfl
        try simp only [Act.put, List.setIfInBounds_toArray, List.set_cons_zero, List.set_cons_succ]
        refine wpAnyH_take (i := 3) (oi := { dst := some 16, op := Op.move (Operand.tmp 0), type := 9, pos := "token.go:131", after := #[], guard := none }) (v := ?_) rfl (by kernel_rfl) (by kernel_rfl) (by kernel_rfl) (fun _ _ _ h => h) (Or.inl ⟨by rfl, ?_⟩) (by assumption) ?_
        rotate_left
        · intro w hSw
          try dsimp only at hSw
          go_simp
          try with_reducible rfl
        try simp only [Act.put, List.setIfInBounds_toArray, List.set_cons_zero, List.set_cons_succ]
        refine wpAnyH_take (i := 4) (oi := { dst := some 17, op := Op.index 9 (Operand.tmp 16) (Operand.const (Value.int IntKind.i64 0)), type := 5, pos := "token.go:131", after := #[{ on := 3, ground := Ground.data }], guard := none }) (v := ?_) rfl (by kernel_rfl) (by kernel_rfl) (by kernel_rfl) (fun _ _ _ h => h) (Or.inl ⟨by rfl, ?_⟩) (by assumption) ?_
        rotate_left
        · intro w hSw
          try dsimp only at hSw
          go_simp
          try with_reducible rfl
        try simp only [Act.put, List.setIfInBounds_toArray, List.set_cons_zero, List.set_cons_succ]
        refine wpAnyH_take (i := 5) (oi := { dst := some 18, op := Op.binOp BinOp.eql 5 (Operand.tmp 15) (Operand.tmp 17) 5, type := 4, pos := "token.go:131", after := #[{ on := 2, ground := Ground.data }, { on := 4, ground := Ground.data }], guard := none }) (v := ?_) rfl (by kernel_rfl) (by kernel_rfl) (by kernel_rfl) (fun _ _ _ h => h) (Or.inl ⟨by rfl, ?_⟩) (by assumption) ?_
        rotate_left
        · intro w hSw
          try dsimp only at hSw
          go_simp
          try with_reducible rfl
        try simp only [Act.put, List.setIfInBounds_toArray, List.set_cons_zero, List.set_cons_succ]
        refine wpAnyH_done (by kernel_rfl) ?_ _
        clear hT
        have hcv := conv_rd (c := c) (owned_rd HTx.out.1)
        have HR3 := Lib.hid HTx.out.2.1
        have HB3 := Lib.hid HTx.out.2.2.1
        clear HTx HFd
        have hS := set7 (v0 := .int .i64 2) (v1 := .string (strOf acc)) (v2 := .bool false) (v3 := .string ⟨#[]⟩) (v4 := .int .i64 0) (v5 := .int .i64 0) (v6 := .int .i64 0) HR3.out (Nat.le_refl _) HB3.out
        have HS := Lib.hid hS
        obtain ⟨_, y0, y1, y2, y3, y4, y5, y6⟩ := row7 HR3.out
        clear hS HR3 HB3
        go_wp2_with fail
        refine bodyPost_ret (results_row_tmp2 rfl _ _ w.heap.size _ _ _ _ rfl HS.out.1 Tryd.underlying30 rfl (by kernel_rfl)) rfl ⟨by rw [HV.out]; rfl, HS.out.2⟩
      · have hne : (((s[k].toNat : Nat) : Int) == sg) = false := beq_eq_false_iff_ne.2 hx
        have hxg : (unstr s).getD k 0 ≠ (unstr s).getD 0 0 := by rw [← hatk, ← HA0.out]; exact hx
        have hC := fun v (h : utf.Forms v) => HCc.out v k h hkl
        rw [unstr_from] at hC
        have hrg := inTextL_range ((unstr_oct s).drop k) sg
        have hle := inTextL_le ((unstr_oct s).drop k) (drop_cons_at (by rw [HLen.out]; exact hkl)).2 sg
        rw [List.length_drop, HLen.out] at hle
        have hbad := fun (h : (inTextL ((unstr s).drop k) sg).2 = 0) => hN.out.bad (by rw [HLen.out]; exact hkl) hxg (by rw [← HA0.out]; exact h)
        have hmore := fun (h : (inTextL ((unstr s).drop k) sg).2 ≠ 0) => hN.out.more hk1 (by rw [HLen.out]; exact hkl) hxg (by rw [← HA0.out]; exact h)
        rw [← HA0.out] at hmore
        have hdn := (drop_cons_at (l := unstr s) (k := k) (by rw [HLen.out]; exact hkl)).2
        have hpos := fun h => hrg.2.2 h hdn
        generalize inTextL ((unstr s).drop k) sg = q at hC hrg hle hbad hmore hpos
        obtain ⟨b, n⟩ := q
        dsimp only at hC hrg hle hbad hmore hpos
        have HC := Lib.hid hC
        have HRg := Lib.hid (And.intro hrg (And.intro hle hpos))
        by_cases hn : n = 0
        · subst hn
          have HV : Hid ((textFs (unstr s)).val = _) := (hbad rfl).trans (bad_val 2)
          clear hN hatk hk1 hal hC hbad hmore hx hxg hrg hle hpos hdn
          go_upto_region 4 with fail
          refine wp_region_held_drew (S := (fun W : World => Below wr.drew.heap.size wr.drew W)) (by kernel_rfl) (Below.refl _ _) (fun hHeld => ?_)
          clear hHeld
          have hTx := hI.out.past (Below.refl _ _).drew
          have hFd : utf.Forms wr.drew := HF.out.below (hTx.2.2.1) HF.out.size
          have HTx := Lib.hid hTx
          have HFd := Lib.hid hFd
          have hT : (fun W : World => Below wr.drew.heap.size wr.drew W) wr.drew := Below.refl _ _
          clear hTx hFd hI
          generalize wr.drew = wd at HTx HFd hT ⊢
          refine wpAnyH_take (i := 0) (oi := { dst := some 13, op := Op.move (Operand.tmp 0), type := 9, pos := "token.go:131", after := #[], guard := none }) (v := ?_) rfl (by kernel_rfl) (by kernel_rfl) (by kernel_rfl) (fun _ _ _ h => h) (Or.inl ⟨by rfl, ?_⟩) (by assumption) ?_
          rotate_left
          · intro w hSw
            try dsimp only at hSw
            go_simp
            try with_reducible rfl
          try simp only [Act.put, List.setIfInBounds_toArray, List.set_cons_zero, List.set_cons_succ]
          refine wpAnyH_take (i := 1) (oi := { dst := some 14, op := Op.move (Operand.tmp 6), type := 3, pos := "token.go:131", after := #[], guard := none }) (v := ?_) rfl (by kernel_rfl) (by kernel_rfl) (by kernel_rfl) (fun _ _ _ h => h) (Or.inl ⟨by rfl, ?_⟩) (by assumption) ?_
          rotate_left
          · intro w hSw
            try dsimp only at hSw
            go_simp
            try with_reducible rfl
          try simp only [Act.put, List.setIfInBounds_toArray, List.set_cons_zero, List.set_cons_succ]
          refine wpAnyH_take (i := 2) (oi := { dst := some 15, op := Op.index 9 (Operand.tmp 13) (Operand.tmp 14), type := 5, pos := "token.go:131", after := #[{ on := 0, ground := Ground.data }, { on := 1, ground := Ground.data }], guard := none }) (v := ?_) rfl (by kernel_rfl) (by kernel_rfl) (by kernel_rfl) (fun _ _ _ h => h) (Or.inl ⟨by rfl, ?_⟩) (by assumption) ?_
          rotate_left
          · intro w hSw
            try dsimp only at hSw
            go_simp
            try with_reducible rfl
          try simp only [Act.put, List.setIfInBounds_toArray, List.set_cons_zero, List.set_cons_succ]
          refine wpAnyH_take (i := 3) (oi := { dst := some 16, op := Op.move (Operand.tmp 0), type := 9, pos := "token.go:131", after := #[], guard := none }) (v := ?_) rfl (by kernel_rfl) (by kernel_rfl) (by kernel_rfl) (fun _ _ _ h => h) (Or.inl ⟨by rfl, ?_⟩) (by assumption) ?_
          rotate_left
          · intro w hSw
            try dsimp only at hSw
            go_simp
            try with_reducible rfl
          try simp only [Act.put, List.setIfInBounds_toArray, List.set_cons_zero, List.set_cons_succ]
          refine wpAnyH_take (i := 4) (oi := { dst := some 17, op := Op.index 9 (Operand.tmp 16) (Operand.const (Value.int IntKind.i64 0)), type := 5, pos := "token.go:131", after := #[{ on := 3, ground := Ground.data }], guard := none }) (v := ?_) rfl (by kernel_rfl) (by kernel_rfl) (by kernel_rfl) (fun _ _ _ h => h) (Or.inl ⟨by rfl, ?_⟩) (by assumption) ?_
          rotate_left
          · intro w hSw
            try dsimp only at hSw
            go_simp
            try with_reducible rfl
          try simp only [Act.put, List.setIfInBounds_toArray, List.set_cons_zero, List.set_cons_succ]
          refine wpAnyH_take (i := 5) (oi := { dst := some 18, op := Op.binOp BinOp.eql 5 (Operand.tmp 15) (Operand.tmp 17) 5, type := 4, pos := "token.go:131", after := #[{ on := 2, ground := Ground.data }, { on := 4, ground := Ground.data }], guard := none }) (v := ?_) rfl (by kernel_rfl) (by kernel_rfl) (by kernel_rfl) (fun _ _ _ h => h) (Or.inl ⟨by rfl, ?_⟩) (by assumption) ?_
          rotate_left
          · intro w hSw
            try dsimp only at hSw
            go_simp
            try with_reducible rfl
          try simp only [Act.put, List.setIfInBounds_toArray, List.set_cons_zero, List.set_cons_succ]
          refine wpAnyH_done (by kernel_rfl) ?_ _
          clear hT
          go_upto_region 6 with fail
          refine wp_region_held_drew (S := (fun W : World => Below wd.drew.heap.size wd.drew W)) (by kernel_rfl) (Below.refl _ _) (fun hHeld => ?_)
          clear hHeld
          have hTx := HTx.out.past (Below.refl _ _).drew
          have hFd : utf.Forms wd.drew := HF.out.below (hTx.2.2.1) HF.out.size
          have HTx2 := Lib.hid hTx
          have HFd2 := Lib.hid hFd
          have hT : (fun W : World => Below wd.drew.heap.size wd.drew W) wd.drew := Below.refl _ _
          clear hTx hFd HTx HFd
          generalize wd.drew = we at HTx2 HFd2 hT ⊢
          refine wpAnyH_take (i := 0) (oi := { dst := some 25, op := Op.move (Operand.tmp 0), type := 9, pos := "token.go:134", after := #[], guard := none }) (v := ?_) rfl (by kernel_rfl) (by kernel_rfl) (by kernel_rfl) (fun _ _ _ h => h) (Or.inl ⟨by rfl, ?_⟩) (by assumption) ?_
          rotate_left
          · intro w hSw
            try dsimp only at hSw
            go_simp
            try with_reducible rfl
          try simp only [Act.put, List.setIfInBounds_toArray, List.set_cons_zero, List.set_cons_succ]
          refine wpAnyH_take (i := 1) (oi := { dst := some 26, op := Op.move (Operand.tmp 6), type := 3, pos := "token.go:134", after := #[], guard := none }) (v := ?_) rfl (by kernel_rfl) (by kernel_rfl) (by kernel_rfl) (fun _ _ _ h => h) (Or.inl ⟨by rfl, ?_⟩) (by assumption) ?_
          rotate_left
          · intro w hSw
            try dsimp only at hSw
            go_simp
            try with_reducible rfl
          try simp only [Act.put, List.setIfInBounds_toArray, List.set_cons_zero, List.set_cons_succ]
          refine wpAnyH_take (i := 2) (oi := { dst := some 27, op := Op.slice 9 (Operand.tmp 25) (some (Operand.tmp 26)) none none, type := 9, pos := "token.go:134", after := #[{ on := 0, ground := Ground.data }, { on := 1, ground := Ground.data }], guard := none }) (v := ?_) rfl (by kernel_rfl) (by kernel_rfl) (by kernel_rfl) (fun _ _ _ h => h) (Or.inl ⟨by rfl, ?_⟩) (by assumption) ?_
          rotate_left
          · intro w hSw
            try dsimp only at hSw
            go_simp
            try with_reducible rfl
          try simp only [Act.put, List.setIfInBounds_toArray, List.set_cons_zero, List.set_cons_succ]
          refine wpAnyH_take (i := 3) (oi := { dst := some 28, op := Op.move (Operand.tmp 0), type := 9, pos := "token.go:134", after := #[], guard := none }) (v := ?_) rfl (by kernel_rfl) (by kernel_rfl) (by kernel_rfl) (fun _ _ _ h => h) (Or.inl ⟨by rfl, ?_⟩) (by assumption) ?_
          rotate_left
          · intro w hSw
            try dsimp only at hSw
            go_simp
            try with_reducible rfl
          try simp only [Act.put, List.setIfInBounds_toArray, List.set_cons_zero, List.set_cons_succ]
          refine wpAnyH_take (i := 4) (oi := { dst := some 29, op := Op.index 9 (Operand.tmp 28) (Operand.const (Value.int IntKind.i64 0)), type := 5, pos := "token.go:134", after := #[{ on := 3, ground := Ground.data }], guard := none }) (v := ?_) rfl (by kernel_rfl) (by kernel_rfl) (by kernel_rfl) (fun _ _ _ h => h) (Or.inl ⟨by rfl, ?_⟩) (by assumption) ?_
          rotate_left
          · intro w hSw
            try dsimp only at hSw
            go_simp
            try with_reducible rfl
          try simp only [Act.put, List.setIfInBounds_toArray, List.set_cons_zero, List.set_cons_succ]
          refine wpAnyH_ready (rs := [5]) (by kernel_rfl) (by simp) ?_
          refine AllReadyH.cons (o := { dst := some 30, op := Op.call { callee := Callee.value (Operand.func 51), args := #[Operand.tmp 27, Operand.tmp 29], argTypes := #[9, 5] }, type := 82, pos := "token.go:134", after := #[{ on := 2, ground := Ground.data }, { on := 4, ground := Ground.data }], guard := none }) rfl (fun K hK => ?_) AllReadyH.nil
          go_simp
          with_reducible refine (HC.out _ HFd2.out).mono ?_
          rintro e w2 ⟨v2, rfl, hbs, hb⟩
          have hT2 : (fun W : World => Below we.heap.size we W) w2 := hT.trans (hb.mono hT.size)
          refine hK.out _ _ hT2 (fun _ => ?_)
          dsimp only at hbs
          have HBs := Lib.hid hbs
          clear hbs hK K hb
          try dsimp only
          refine wpAnyH_take (i := 6) (oi := { dst := some 24, op := Op.move (Operand.tmp 30), type := 82, pos := "token.go:134", after := #[{ on := 5, ground := Ground.data }], guard := none }) (v := ?_) rfl (by kernel_rfl) (by kernel_rfl) (by kernel_rfl) (fun _ _ _ h => h) (Or.inl ⟨by rfl, ?_⟩) (by assumption) ?_
          rotate_left
          · intro w hSw
            try dsimp only at hSw
            go_simp
            try with_reducible rfl
          try simp only [Act.put, List.setIfInBounds_toArray, List.set_cons_zero, List.set_cons_succ]
          refine wpAnyH_take (i := 7) (oi := { dst := some 31, op := Op.extract (Operand.tmp 24) 0, type := 33, pos := "token.go:134", after := #[{ on := 6, ground := Ground.data }], guard := none }) (v := ?_) rfl (by kernel_rfl) (by kernel_rfl) (by kernel_rfl) (fun _ _ _ h => h) (Or.inl ⟨by rfl, ?_⟩) (by assumption) ?_
          rotate_left
          · intro w hSw
            try dsimp only at hSw
            go_simp
            try with_reducible rfl
          try simp only [Act.put, List.setIfInBounds_toArray, List.set_cons_zero, List.set_cons_succ]
          refine wpAnyH_take (i := 8) (oi := { dst := some 32, op := Op.extract (Operand.tmp 24) 1, type := 3, pos := "token.go:134", after := #[{ on := 6, ground := Ground.data }, { on := 9, ground := Ground.gcOnly Departure.lateStores }], guard := none }) (v := ?_) rfl (by kernel_rfl) (by kernel_rfl) (by kernel_rfl) (fun _ _ _ h => h) (Or.inl ⟨by rfl, ?_⟩) (by assumption) ?_
          rotate_left
          · intro w hSw
            try dsimp only at hSw
            go_simp
            try with_reducible rfl
          try simp only [Act.put, List.setIfInBounds_toArray, List.set_cons_zero, List.set_cons_succ]
          refine wpAnyH_take (i := 9) (oi := { dst := some 7, op := Op.assign (Operand.tmp 31), type := 33, pos := "token.go:134", after := #[{ on := 7, ground := Ground.data }, { on := 5, ground := Ground.chain }, { on := 0, ground := Ground.phase }, { on := 1, ground := Ground.phase }, { on := 2, ground := Ground.phase }, { on := 3, ground := Ground.phase }, { on := 4, ground := Ground.phase }, { on := 5, ground := Ground.phase }, { on := 6, ground := Ground.phase }, { on := 7, ground := Ground.phase }, { on := 8, ground := Ground.textOnly Departure.lateStores }], guard := none }) (v := ?_) rfl (by kernel_rfl) (by kernel_rfl) (by kernel_rfl) (fun _ _ _ h => h) (Or.inl ⟨by rfl, ?_⟩) (by assumption) ?_
          rotate_left
          · intro w hSw
            try dsimp only at hSw
            go_simp
            try with_reducible rfl
          try simp only [Act.put, List.setIfInBounds_toArray, List.set_cons_zero, List.set_cons_succ]
          refine wpAnyH_take (i := 10) (oi := { dst := some 8, op := Op.assign (Operand.tmp 32), type := 3, pos := "token.go:134", after := #[{ on := 8, ground := Ground.data }, { on := 9, ground := Ground.chain }, { on := 0, ground := Ground.phase }, { on := 1, ground := Ground.phase }, { on := 2, ground := Ground.phase }, { on := 3, ground := Ground.phase }, { on := 4, ground := Ground.phase }, { on := 5, ground := Ground.phase }, { on := 6, ground := Ground.phase }, { on := 7, ground := Ground.phase }, { on := 8, ground := Ground.phase }, { on := 9, ground := Ground.phase }], guard := none }) (v := ?_) rfl (by kernel_rfl) (by kernel_rfl) (by kernel_rfl) (fun _ _ _ h => h) (Or.inl ⟨by rfl, ?_⟩) (by assumption) ?_
          rotate_left
          · intro w hSw
            try dsimp only at hSw
            go_simp
            try with_reducible rfl
          try simp only [Act.put, List.setIfInBounds_toArray, List.set_cons_zero, List.set_cons_succ]
          refine wpAnyH_done (by kernel_rfl) ?_ _
          have HI2 := Lib.hid (HTx2.out.past hT2)
          clear HTx2 HFd2 hT hT2
          clear HBs
          have HR3 := Lib.hid HI2.out.2.1
          have HB3 := Lib.hid HI2.out.2.2.1
          clear HI2
          have hS := set7 (v0 := .int .i64 0) (v1 := .string ⟨#[]⟩) (v2 := .bool false) (v3 := .string ⟨#[]⟩) (v4 := .int .i64 0) (v5 := .int .i64 0) (v6 := .int .i64 0) HR3.out (Nat.le_refl _) HB3.out
          have HS := Lib.hid hS
          obtain ⟨_, y0, y1, y2, y3, y4, y5, y6⟩ := row7 HR3.out
          clear hS HR3 HB3
          go_wp2_with fail
          refine bodyPost_ret (results_row_tmp2 rfl _ _ w.heap.size _ _ _ _ rfl HS.out.1 Tryd.underlying30 rfl (by kernel_rfl)) rfl ⟨by rw [HV.out]; rfl, HS.out.2⟩
        · have hN2 : Hid (TxR (unstr s) (k + n) (acc ++ b)) := hmore hn
          have wn : IntKind.i64.wrap ((k : Int) + (n : Int)) = ((k + n : Nat) : Int) := by rw [IntKind.wrap_i64]; omega
          have dn : (((n : Nat) : Int) == 0) = false := beq_eq_false_iff_ne.2 (by omega)
          have HNn := Lib.hid hn
          clear hN hatk hk1 hal hC hbad hmore hx hxg hn hrg hle hpos hdn
          go_upto_region 4 with fail
          refine wp_region_held_drew (S := (fun W : World => Below wr.drew.heap.size wr.drew W)) (by kernel_rfl) (Below.refl _ _) (fun hHeld => ?_)
          clear hHeld
          have hTx := hI.out.past (Below.refl _ _).drew
          have hFd : utf.Forms wr.drew := HF.out.below (hTx.2.2.1) HF.out.size
          have HTx := Lib.hid hTx
          have HFd := Lib.hid hFd
          have hT : (fun W : World => Below wr.drew.heap.size wr.drew W) wr.drew := Below.refl _ _
          clear hTx hFd hI
          generalize wr.drew = wd at HTx HFd hT ⊢
          refine wpAnyH_take (i := 0) (oi := { dst := some 13, op := Op.move (Operand.tmp 0), type := 9, pos := "token.go:131", after := #[], guard := none }) (v := ?_) rfl (by kernel_rfl) (by kernel_rfl) (by kernel_rfl) (fun _ _ _ h => h) (Or.inl ⟨by rfl, ?_⟩) (by assumption) ?_
          rotate_left
          · intro w hSw
            try dsimp only at hSw
            go_simp
            try with_reducible rfl
          try simp only [Act.put, List.setIfInBounds_toArray, List.set_cons_zero, List.set_cons_succ]
          refine wpAnyH_take (i := 1) (oi := { dst := some 14, op := Op.move (Operand.tmp 6), type := 3, pos := "token.go:131", after := #[], guard := none }) (v := ?_) rfl (by kernel_rfl) (by kernel_rfl) (by kernel_rfl) (fun _ _ _ h => h) (Or.inl ⟨by rfl, ?_⟩) (by assumption) ?_
          rotate_left
          · intro w hSw
            try dsimp only at hSw
            go_simp
            try with_reducible rfl
          try simp only [Act.put, List.setIfInBounds_toArray, List.set_cons_zero, List.set_cons_succ]
          refine wpAnyH_take (i := 2) (oi := { dst := some 15, op := Op.index 9 (Operand.tmp 13) (Operand.tmp 14), type := 5, pos := "token.go:131", after := #[{ on := 0, ground := Ground.data }, { on := 1, ground := Ground.data }], guard := none }) (v := ?_) rfl (by kernel_rfl) (by kernel_rfl) (by kernel_rfl) (fun _ _ _ h => h) (Or.inl ⟨by rfl, ?_⟩) (by assumption) ?_
          rotate_left
          · intro w hSw
            try dsimp only at hSw
            go_simp
            try with_reducible rfl
          try simp only [Act.put, List.setIfInBounds_toArray, List.set_cons_zero, List.set_cons_succ]
          refine wpAnyH_take (i := 3) (oi := { dst := some 16, op := Op.move (Operand.tmp 0), type := 9, pos := "token.go:131", after := #[], guard := none }) (v := ?_) rfl (by kernel_rfl) (by kernel_rfl) (by kernel_rfl) (fun _ _ _ h => h) (Or.inl ⟨by rfl, ?_⟩) (by assumption) ?_
          rotate_left
          · intro w hSw
            try dsimp only at hSw
            go_simp
            try with_reducible rfl
          try simp only [Act.put, List.setIfInBounds_toArray, List.set_cons_zero, List.set_cons_succ]
          refine wpAnyH_take (i := 4) (oi := { dst := some 17, op := Op.index 9 (Operand.tmp 16) (Operand.const (Value.int IntKind.i64 0)), type := 5, pos := "token.go:131", after := #[{ on := 3, ground := Ground.data }], guard := none }) (v := ?_) rfl (by kernel_rfl) (by kernel_rfl) (by kernel_rfl) (fun _ _ _ h => h) (Or.inl ⟨by rfl, ?_⟩) (by assumption) ?_
          rotate_left
          · intro w hSw
            try dsimp only at hSw
            go_simp
            try with_reducible rfl
          try simp only [Act.put, List.setIfInBounds_toArray, List.set_cons_zero, List.set_cons_succ]
          refine wpAnyH_take (i := 5) (oi := { dst := some 18, op := Op.binOp BinOp.eql 5 (Operand.tmp 15) (Operand.tmp 17) 5, type := 4, pos := "token.go:131", after := #[{ on := 2, ground := Ground.data }, { on := 4, ground := Ground.data }], guard := none }) (v := ?_) rfl (by kernel_rfl) (by kernel_rfl) (by kernel_rfl) (fun _ _ _ h => h) (Or.inl ⟨by rfl, ?_⟩) (by assumption) ?_
          rotate_left
          · intro w hSw
            try dsimp only at hSw
            go_simp
            try with_reducible rfl
          try simp only [Act.put, List.setIfInBounds_toArray, List.set_cons_zero, List.set_cons_succ]
          refine wpAnyH_done (by kernel_rfl) ?_ _
          clear hT
          go_upto_region 6 with fail
          refine wp_region_held_drew (S := (fun W : World => Below wd.drew.heap.size wd.drew W)) (by kernel_rfl) (Below.refl _ _) (fun hHeld => ?_)
          clear hHeld
          have hTx := HTx.out.past (Below.refl _ _).drew
          have hFd : utf.Forms wd.drew := HF.out.below (hTx.2.2.1) HF.out.size
          have HTx2 := Lib.hid hTx
          have HFd2 := Lib.hid hFd
          have hT : (fun W : World => Below wd.drew.heap.size wd.drew W) wd.drew := Below.refl _ _
          clear hTx hFd HTx HFd
          generalize wd.drew = we at HTx2 HFd2 hT ⊢
          refine wpAnyH_take (i := 0) (oi := { dst := some 25, op := Op.move (Operand.tmp 0), type := 9, pos := "token.go:134", after := #[], guard := none }) (v := ?_) rfl (by kernel_rfl) (by kernel_rfl) (by kernel_rfl) (fun _ _ _ h => h) (Or.inl ⟨by rfl, ?_⟩) (by assumption) ?_
          rotate_left
          · intro w hSw
            try dsimp only at hSw
            go_simp
            try with_reducible rfl
          try simp only [Act.put, List.setIfInBounds_toArray, List.set_cons_zero, List.set_cons_succ]
          refine wpAnyH_take (i := 1) (oi := { dst := some 26, op := Op.move (Operand.tmp 6), type := 3, pos := "token.go:134", after := #[], guard := none }) (v := ?_) rfl (by kernel_rfl) (by kernel_rfl) (by kernel_rfl) (fun _ _ _ h => h) (Or.inl ⟨by rfl, ?_⟩) (by assumption) ?_
          rotate_left
          · intro w hSw
            try dsimp only at hSw
            go_simp
            try with_reducible rfl
          try simp only [Act.put, List.setIfInBounds_toArray, List.set_cons_zero, List.set_cons_succ]
          refine wpAnyH_take (i := 2) (oi := { dst := some 27, op := Op.slice 9 (Operand.tmp 25) (some (Operand.tmp 26)) none none, type := 9, pos := "token.go:134", after := #[{ on := 0, ground := Ground.data }, { on := 1, ground := Ground.data }], guard := none }) (v := ?_) rfl (by kernel_rfl) (by kernel_rfl) (by kernel_rfl) (fun _ _ _ h => h) (Or.inl ⟨by rfl, ?_⟩) (by assumption) ?_
          rotate_left
          · intro w hSw
            try dsimp only at hSw
            go_simp
            try with_reducible rfl
          try simp only [Act.put, List.setIfInBounds_toArray, List.set_cons_zero, List.set_cons_succ]
          refine wpAnyH_take (i := 3) (oi := { dst := some 28, op := Op.move (Operand.tmp 0), type := 9, pos := "token.go:134", after := #[], guard := none }) (v := ?_) rfl (by kernel_rfl) (by kernel_rfl) (by kernel_rfl) (fun _ _ _ h => h) (Or.inl ⟨by rfl, ?_⟩) (by assumption) ?_
          rotate_left
          · intro w hSw
            try dsimp only at hSw
            go_simp
            try with_reducible rfl
          try simp only [Act.put, List.setIfInBounds_toArray, List.set_cons_zero, List.set_cons_succ]
          refine wpAnyH_take (i := 4) (oi := { dst := some 29, op := Op.index 9 (Operand.tmp 28) (Operand.const (Value.int IntKind.i64 0)), type := 5, pos := "token.go:134", after := #[{ on := 3, ground := Ground.data }], guard := none }) (v := ?_) rfl (by kernel_rfl) (by kernel_rfl) (by kernel_rfl) (fun _ _ _ h => h) (Or.inl ⟨by rfl, ?_⟩) (by assumption) ?_
          rotate_left
          · intro w hSw
            try dsimp only at hSw
            go_simp
            try with_reducible rfl
          try simp only [Act.put, List.setIfInBounds_toArray, List.set_cons_zero, List.set_cons_succ]
          refine wpAnyH_ready (rs := [5]) (by kernel_rfl) (by simp) ?_
          refine AllReadyH.cons (o := { dst := some 30, op := Op.call { callee := Callee.value (Operand.func 51), args := #[Operand.tmp 27, Operand.tmp 29], argTypes := #[9, 5] }, type := 82, pos := "token.go:134", after := #[{ on := 2, ground := Ground.data }, { on := 4, ground := Ground.data }], guard := none }) rfl (fun K hK => ?_) AllReadyH.nil
          go_simp
          with_reducible refine (HC.out _ HFd2.out).mono ?_
          rintro e w2 ⟨v2, rfl, hbs, hb⟩
          have hT2 : (fun W : World => Below we.heap.size we W) w2 := hT.trans (hb.mono hT.size)
          refine hK.out _ _ hT2 (fun _ => ?_)
          dsimp only at hbs
          have HBs := Lib.hid hbs
          clear hbs hK K hb
          try dsimp only
          refine wpAnyH_take (i := 6) (oi := { dst := some 24, op := Op.move (Operand.tmp 30), type := 82, pos := "token.go:134", after := #[{ on := 5, ground := Ground.data }], guard := none }) (v := ?_) rfl (by kernel_rfl) (by kernel_rfl) (by kernel_rfl) (fun _ _ _ h => h) (Or.inl ⟨by rfl, ?_⟩) (by assumption) ?_
          rotate_left
          · intro w hSw
            try dsimp only at hSw
            go_simp
            try with_reducible rfl
          try simp only [Act.put, List.setIfInBounds_toArray, List.set_cons_zero, List.set_cons_succ]
          refine wpAnyH_take (i := 7) (oi := { dst := some 31, op := Op.extract (Operand.tmp 24) 0, type := 33, pos := "token.go:134", after := #[{ on := 6, ground := Ground.data }], guard := none }) (v := ?_) rfl (by kernel_rfl) (by kernel_rfl) (by kernel_rfl) (fun _ _ _ h => h) (Or.inl ⟨by rfl, ?_⟩) (by assumption) ?_
          rotate_left
          · intro w hSw
            try dsimp only at hSw
            go_simp
            try with_reducible rfl
          try simp only [Act.put, List.setIfInBounds_toArray, List.set_cons_zero, List.set_cons_succ]
          refine wpAnyH_take (i := 8) (oi := { dst := some 32, op := Op.extract (Operand.tmp 24) 1, type := 3, pos := "token.go:134", after := #[{ on := 6, ground := Ground.data }, { on := 9, ground := Ground.gcOnly Departure.lateStores }], guard := none }) (v := ?_) rfl (by kernel_rfl) (by kernel_rfl) (by kernel_rfl) (fun _ _ _ h => h) (Or.inl ⟨by rfl, ?_⟩) (by assumption) ?_
          rotate_left
          · intro w hSw
            try dsimp only at hSw
            go_simp
            try with_reducible rfl
          try simp only [Act.put, List.setIfInBounds_toArray, List.set_cons_zero, List.set_cons_succ]
          refine wpAnyH_take (i := 9) (oi := { dst := some 7, op := Op.assign (Operand.tmp 31), type := 33, pos := "token.go:134", after := #[{ on := 7, ground := Ground.data }, { on := 5, ground := Ground.chain }, { on := 0, ground := Ground.phase }, { on := 1, ground := Ground.phase }, { on := 2, ground := Ground.phase }, { on := 3, ground := Ground.phase }, { on := 4, ground := Ground.phase }, { on := 5, ground := Ground.phase }, { on := 6, ground := Ground.phase }, { on := 7, ground := Ground.phase }, { on := 8, ground := Ground.textOnly Departure.lateStores }], guard := none }) (v := ?_) rfl (by kernel_rfl) (by kernel_rfl) (by kernel_rfl) (fun _ _ _ h => h) (Or.inl ⟨by rfl, ?_⟩) (by assumption) ?_
          rotate_left
          · intro w hSw
            try dsimp only at hSw
            go_simp
            try with_reducible rfl
          try simp only [Act.put, List.setIfInBounds_toArray, List.set_cons_zero, List.set_cons_succ]
          refine wpAnyH_take (i := 10) (oi := { dst := some 8, op := Op.assign (Operand.tmp 32), type := 3, pos := "token.go:134", after := #[{ on := 8, ground := Ground.data }, { on := 9, ground := Ground.chain }, { on := 0, ground := Ground.phase }, { on := 1, ground := Ground.phase }, { on := 2, ground := Ground.phase }, { on := 3, ground := Ground.phase }, { on := 4, ground := Ground.phase }, { on := 5, ground := Ground.phase }, { on := 6, ground := Ground.phase }, { on := 7, ground := Ground.phase }, { on := 8, ground := Ground.phase }, { on := 9, ground := Ground.phase }], guard := none }) (v := ?_) rfl (by kernel_rfl) (by kernel_rfl) (by kernel_rfl) (fun _ _ _ h => h) (Or.inl ⟨by rfl, ?_⟩) (by assumption) ?_
          rotate_left
          · intro w hSw
            try dsimp only at hSw
            go_simp
            try with_reducible rfl
          try simp only [Act.put, List.setIfInBounds_toArray, List.set_cons_zero, List.set_cons_succ]
          refine wpAnyH_done (by kernel_rfl) ?_ _
          have HI2 := Lib.hid (HTx2.out.past hT2)
          clear HTx2 HFd2 hT hT2
          obtain ⟨bb, bo, bc, rfl, hrd⟩ := bs_rd HBs.out (HRg.out.2.2 HNn.out)
          obtain ⟨p3, c3, w3, hrun, hown3, hb3, hg3⟩ := append_bytes (c := bc) HI2.out.1 hrd (by have := HL.out; omega) (by have := HRg.out; omega) HI2.out.2.2.2
          have HI3 : Hid (TxI w (.slice p3 (acc ++ b).length c3) (acc ++ b) w3) := ⟨hown3, (hb3.block _ (by omega)).trans HI2.out.2.1, HI2.out.2.2.1.trans (hb3.mono (by omega)), Nat.le_trans HI2.out.2.2.2 hb3.size⟩
          have HRun := Lib.hid hrun
          clear hrun hown3 hb3 hg3 hrd HBs HI2
          go_wp2_with (at_builtin; refine wpList_append_run rfl _ _ _ rfl _ _ _ _ rfl rfl HRun.out ?_)
          go_wp2_with fail
          go_roundw
          case rel =>
            have hl := HL.out
            have hr := HRg.out
            have hn := HNn.out
            exact ⟨k + n, acc ++ b, p3, c3, by rw [List.length_append], by go_num, by omega, by omega, by rw [List.length_append]; omega, hN2, HI3⟩
          case measure =>
            have hn := HNn.out
            simp [intOf]
            omega
    · have HV : Hid ((textFs (unstr s)).val = _) := (hN.out.stop (by rw [HLen.out]; exact hkl)).trans (bad_val 2)
      clear hN hk1 hk hal
      have HR3 := Lib.hid hI.out.2.1
      have HB3 := Lib.hid hI.out.2.2.1
      clear hI
      have hS := set7 (v0 := .int .i64 0) (v1 := .string ⟨#[]⟩) (v2 := .bool false) (v3 := .string ⟨#[]⟩) (v4 := .int .i64 0) (v5 := .int .i64 0) (v6 := .int .i64 0) HR3.out (Nat.le_refl _) HB3.out
      have HS := Lib.hid hS
      obtain ⟨_, y0, y1, y2, y3, y4, y5, y6⟩ := row7 HR3.out
      clear hS HR3 HB3
      go_wp2_with fail
      refine bodyPost_ret (results_row_tmp2 rfl _ _ w.heap.size _ _ _ _ rfl HS.out.1 Tryd.underlying30 rfl (by kernel_rfl)) rfl ⟨by rw [HV.out]; rfl, HS.out.2⟩
end Go.Proofs.YtkifndecpbphbaaDoor.dk
/- first: the token with which a text begins. -/
namespace Go.Proofs.YtkifndecpbphbaaDoor.dk
open Go.PlainAid Go.ChangeShapes Go.WideShapes Go.ChangeAt Go.RowKit

theorem signV_L (s : ByteArray) : signV s = (signL (unstr s)).val := by
  unfold signV signL
  rw [strOf_unstr, cut_strOf, cut_strOf]
  split
  · rfl
  · split <;> rfl
set_option maxRecDepth 100000 in
set_option maxHeartbeats 8000000 in
theorem first_any (w : World) (s : ByteArray) (hF : utf.Forms w) (hs : s.size ≤ 1000000) (mx : Int) (hm : w.cell? ⟨1, 0, none⟩ = some (.int .i64 mx)) :
    Calls Tryd.prog 23 #[.string s] w fun e w' => e = .returned (firstFs (unstr s)).val ∧ Below w.heap.size w w' := by
  obtain ⟨wa, hwa⟩ : ∃ wa, wa = w.alloc (.cells #[.int .i64 0, .string ⟨#[]⟩, .bool false, .string ⟨#[]⟩, .int .i64 0, .int .i64 0, .int .i64 0] 30) := ⟨_, rfl⟩
  have hr : wa.heap[w.heap.size]? = some (.cells #[.int .i64 0, .string ⟨#[]⟩, .bool false, .string ⟨#[]⟩, .int .i64 0, .int .i64 0, .int .i64 0] 30 (0, 0)) := by rw [hwa]; exact heap_alloc_new _ _
  have hb : Below w.heap.size w wa := by rw [hwa]; exact (Below.refl _ _).alloc (Nat.le_refl _) _
  have HW := Lib.hid hwa
  have HR := Lib.hid hr
  have HB := Lib.hid hb
  by_cases hz : s.size = 0
  · have hsn : s = ⟨#[]⟩ := ba_nil hz
    subst hsn
    have hv : (firstFs (unstr ⟨#[]⟩)).val = .tuple #[.agg #[.int .i64 0, .string ⟨#[]⟩, .bool false, .string ⟨#[]⟩, .int .i64 0, .int .i64 0, .int .i64 0], .int .i64 0, .int .i64 0] := rfl
    rw [hv]
    clear hwa hr hb hF hm hv hz hs
    go_enter Tryd.func23, Tryd.ntmps23
    go_upto_region 1 with fail
    rw [← HW.out]
    clear HW
    have HR3 := HR
    have HB3 := HB
    clear HR HB
    have hS := set7 (v0 := .int .i64 0) (v1 := .string ⟨#[]⟩) (v2 := .bool false) (v3 := .string ⟨#[]⟩) (v4 := .int .i64 0) (v5 := .int .i64 0) (v6 := .int .i64 0) HR3.out (Nat.le_refl _) HB3.out
    have HS := Lib.hid hS
    obtain ⟨_, y0, y1, y2, y3, y4, y5, y6⟩ := row7 HR3.out
    clear hS HR3 HB3
    go_wp2_with fail
    refine bodyPost_ret (results_row_tmp2 rfl _ _ w.heap.size _ _ _ _ rfl HS.out.1 Tryd.underlying30 rfl (by kernel_rfl)) rfl ⟨rfl, HS.out.2⟩
  have h0 : 0 < s.size := by omega
  have hlen := unstr_length s
  have hnl : unstr s ≠ [] := fun e => by rw [e] at hlen; simp at hlen; omega
  have hfull := ba_full hz
  have hat := byte_at s 0 h0
  obtain ⟨x, hxv⟩ : ∃ x, ((s[0].toNat : Nat) : Int) = x := ⟨_, rfl⟩
  rw [hxv] at hat
  have hx255 : 0 ≤ x ∧ x ≤ 255 := by have := s[0].toNat_lt; omega
  have wx : IntKind.i32.wrap x = x := by rw [IntKind.wrap_i32]; omega
  have hmx : wa.cell? ⟨1, 0, none⟩ = some (.int .i64 mx) := (hb.cell (World.block_lt_of_cell? _ _ hm)).trans hm
  have hFa : utf.Forms wa := hF.below hb hF.size
  have HName := name_any wa s hFa (by omega)
  have HText := text_any wa s hFa h0 (by omega)
  have HNum := number_any wa s (by omega)
  have HSign := sign_any wa s h0 hs mx hmx
  rw [signV_L] at HSign
  have hG := fun v => begins_any v x
  have hD := fun v => digit_any v x
  have hfs : firstFs (unstr s) = if bgn x = true then nameFs (unstr s)
    else if isDig x = true ∨ (x = 45 ∧ 1 < s.size ∧ isDig ((unstr s).getD 1 0) = true) then numberFs (unstr s)
    else if x = 39 ∨ x = 34 then textFs (unstr s)
    else signL (unstr s) := by
    unfold firstFs
    rw [if_neg hnl, ← hat, hlen]
  clear hwa hr hb hF hm hmx hFa hx255 hnl
  cases hbg : bgn x with
  | true =>
    rw [hbg] at hG
    rw [if_pos hbg] at hfs
    have HG := Lib.hid hG
    clear hG hD HText HNum HSign
    have hv : firstFs (unstr s) = nameFs (unstr s) := hfs
    rw [hv]
    have HC := Lib.hid HName
    generalize nameFs (unstr s) = f at HC ⊢
    obtain ⟨⟨a0, a1, a2, a3, a4⟩, n, er⟩ := f
    unfold Fs.val Tk.cells at HC ⊢
    dsimp only at HC ⊢
    clear hv hfs hlen hat hbg HName
    go_enter Tryd.func23, Tryd.ntmps23
    go_upto_region 1 with fail
    rw [← HW.out]
    clear HW
    go_wp2_with fail
    with_reducible refine (HG.out _).mono ?_
    rintro e w10 ⟨rfl, rfl⟩
    go_wp2_with fail
    with_reducible refine HC.out.mono ?_
    rintro e w3 ⟨rfl, hb3⟩
    have HR3 := Lib.hid ((hb3.block _ (lt_of_block HR.out)).trans HR.out)
    have HB3 := Lib.hid (HB.out.trans (hb3.mono HB.out.size))
    clear hb3 HR HB HC
    have hS := set7 (v0 := .int .i64 a0) (v1 := .string (strOf a1)) (v2 := .bool a2) (v3 := .string a3) (v4 := .int .i64 a4) (v5 := .int .i64 0) (v6 := .int .i64 0) HR3.out (Nat.le_refl _) HB3.out
    have HS := Lib.hid hS
    obtain ⟨_, y0, y1, y2, y3, y4, y5, y6⟩ := row7 HR3.out
    clear hS HR3 HB3
    go_wp2_with fail
    refine bodyPost_ret (results_row_tmp2 rfl _ _ w.heap.size _ _ _ _ rfl HS.out.1 Tryd.underlying30 rfl (by kernel_rfl)) rfl ⟨rfl, HS.out.2⟩
  | false =>
    rw [hbg] at hG
    rw [if_neg (by rw [hbg]; decide)] at hfs
    have HG := Lib.hid hG
    clear hG HName
    cases hdg : isDig x with
    | true =>
      rw [hdg] at hD
      rw [if_pos (.inl hdg)] at hfs
      have HD := Lib.hid hD
      clear hD HText HSign
      have hv : firstFs (unstr s) = numberFs (unstr s) := hfs
      rw [hv]
      have HC := Lib.hid HNum
      generalize numberFs (unstr s) = f at HC ⊢
      obtain ⟨⟨a0, a1, a2, a3, a4⟩, n, er⟩ := f
      unfold Fs.val Tk.cells at HC ⊢
      dsimp only at HC ⊢
      clear hv hfs hlen hat hbg hdg HNum
      go_enter Tryd.func23, Tryd.ntmps23
      go_upto_region 1 with fail
      rw [← HW.out]
      clear HW
      go_wp2_with fail
      with_reducible refine (HG.out _).mono ?_
      rintro e w10 ⟨rfl, rfl⟩
      go_wp2_with fail
      with_reducible refine (HD.out _).mono ?_
      rintro e w11 ⟨rfl, rfl⟩
      go_wp2_with fail
      with_reducible refine HC.out.mono ?_
      rintro e w3 ⟨rfl, hb3⟩
      have HR3 := Lib.hid ((hb3.block _ (lt_of_block HR.out)).trans HR.out)
      have HB3 := Lib.hid (HB.out.trans (hb3.mono HB.out.size))
      clear hb3 HR HB HC
      have hS := set7 (v0 := .int .i64 a0) (v1 := .string (strOf a1)) (v2 := .bool a2) (v3 := .string a3) (v4 := .int .i64 a4) (v5 := .int .i64 0) (v6 := .int .i64 0) HR3.out (Nat.le_refl _) HB3.out
      have HS := Lib.hid hS
      obtain ⟨_, y0, y1, y2, y3, y4, y5, y6⟩ := row7 HR3.out
      clear hS HR3 HB3
      go_wp2_with fail
      refine bodyPost_ret (results_row_tmp2 rfl _ _ w.heap.size _ _ _ _ rfl HS.out.1 Tryd.underlying30 rfl (by kernel_rfl)) rfl ⟨rfl, HS.out.2⟩
    | false =>
      rw [hdg] at hD
      have HD := Lib.hid hD
      clear hD
      by_cases h45 : x = 45
      · subst h45
        by_cases h1 : 1 < s.size
        · have d1 : decide ((1 : Int) < (s.size : Int)) = true := decide_eq_true (by omega)
          have hat1 := byte_at s 1 h1
          obtain ⟨y, hyv⟩ : ∃ y, ((s[1].toNat : Nat) : Int) = y := ⟨_, rfl⟩
          rw [hyv] at hat1
          have hE := fun v => digit_any v y
          cases hdy : isDig y with
          | true =>
            rw [hdy] at hE
            rw [if_pos (.inr ⟨rfl, h1, by rw [← hat1]; exact hdy⟩)] at hfs
            have HE := Lib.hid hE
            clear hE HText HSign
            have hv : firstFs (unstr s) = numberFs (unstr s) := hfs
            rw [hv]
            have HC := Lib.hid HNum
            generalize numberFs (unstr s) = f at HC ⊢
            obtain ⟨⟨a0, a1, a2, a3, a4⟩, n, er⟩ := f
            unfold Fs.val Tk.cells at HC ⊢
            dsimp only at HC ⊢
            clear hv hfs hlen hat hat1 hbg hdg hdy HNum
            go_enter Tryd.func23, Tryd.ntmps23
            go_upto_region 1 with fail
            rw [← HW.out]
            clear HW
            go_wp2_with fail
            with_reducible refine (HG.out _).mono ?_
            rintro e w10 ⟨rfl, rfl⟩
            go_wp2_with fail
            with_reducible refine (HD.out _).mono ?_
            rintro e w11 ⟨rfl, rfl⟩
            go_wp2_with fail
            with_reducible refine (HE.out _).mono ?_
            rintro e w12 ⟨rfl, rfl⟩
            go_wp2_with fail
            with_reducible refine HC.out.mono ?_
            rintro e w3 ⟨rfl, hb3⟩
            have HR3 := Lib.hid ((hb3.block _ (lt_of_block HR.out)).trans HR.out)
            have HB3 := Lib.hid (HB.out.trans (hb3.mono HB.out.size))
            clear hb3 HR HB HC
            have hS := set7 (v0 := .int .i64 a0) (v1 := .string (strOf a1)) (v2 := .bool a2) (v3 := .string a3) (v4 := .int .i64 a4) (v5 := .int .i64 0) (v6 := .int .i64 0) HR3.out (Nat.le_refl _) HB3.out
            have HS := Lib.hid hS
            obtain ⟨_, y0, y1, y2, y3, y4, y5, y6⟩ := row7 HR3.out
            clear hS HR3 HB3
            go_wp2_with fail
            refine bodyPost_ret (results_row_tmp2 rfl _ _ w.heap.size _ _ _ _ rfl HS.out.1 Tryd.underlying30 rfl (by kernel_rfl)) rfl ⟨rfl, HS.out.2⟩
          | false =>
            rw [hdy] at hE
            rw [if_neg (by rintro (h | ⟨_, _, h⟩); rw [hdg] at h; cases h; rw [← hat1, hdy] at h; cases h), if_neg (by omega)] at hfs
            have HE := Lib.hid hE
            clear hE HText HNum
            have hv : firstFs (unstr s) = signL (unstr s) := hfs
            rw [hv]
            have HC := Lib.hid HSign
            generalize signL (unstr s) = f at HC ⊢
            obtain ⟨⟨a0, a1, a2, a3, a4⟩, n, er⟩ := f
            unfold Fs.val Tk.cells at HC ⊢
            dsimp only at HC ⊢
            clear hv hfs hlen hat hat1 hbg hdg hdy HSign
            go_enter Tryd.func23, Tryd.ntmps23
            go_upto_region 1 with fail
            rw [← HW.out]
            clear HW
            go_wp2_with fail
            with_reducible refine (HG.out _).mono ?_
            rintro e w10 ⟨rfl, rfl⟩
            go_wp2_with fail
            with_reducible refine (HD.out _).mono ?_
            rintro e w11 ⟨rfl, rfl⟩
            go_wp2_with fail
            with_reducible refine (HE.out _).mono ?_
            rintro e w12 ⟨rfl, rfl⟩
            go_wp2_with fail
            with_reducible refine HC.out.mono ?_
            rintro e w3 ⟨rfl, hb3⟩
            have HR3 := Lib.hid ((hb3.block _ (lt_of_block HR.out)).trans HR.out)
            have HB3 := Lib.hid (HB.out.trans (hb3.mono HB.out.size))
            clear hb3 HR HB HC
            have hS := set7 (v0 := .int .i64 a0) (v1 := .string (strOf a1)) (v2 := .bool a2) (v3 := .string a3) (v4 := .int .i64 a4) (v5 := .int .i64 0) (v6 := .int .i64 0) HR3.out (Nat.le_refl _) HB3.out
            have HS := Lib.hid hS
            obtain ⟨_, y0, y1, y2, y3, y4, y5, y6⟩ := row7 HR3.out
            clear hS HR3 HB3
            go_wp2_with fail
            refine bodyPost_ret (results_row_tmp2 rfl _ _ w.heap.size _ _ _ _ rfl HS.out.1 Tryd.underlying30 rfl (by kernel_rfl)) rfl ⟨rfl, HS.out.2⟩
        · have d1 : decide ((1 : Int) < (s.size : Int)) = false := decide_eq_false (by omega)
          rw [if_neg (by rintro (h | ⟨_, h, _⟩); rw [hdg] at h; cases h; exact h1 h), if_neg (by omega)] at hfs
          clear HText HNum
          have hv : firstFs (unstr s) = signL (unstr s) := hfs
          rw [hv]
          have HC := Lib.hid HSign
          generalize signL (unstr s) = f at HC ⊢
          obtain ⟨⟨a0, a1, a2, a3, a4⟩, n, er⟩ := f
          unfold Fs.val Tk.cells at HC ⊢
          dsimp only at HC ⊢
          clear hv hfs hlen hat hbg hdg HSign h1
          go_enter Tryd.func23, Tryd.ntmps23
          go_upto_region 1 with fail
          rw [← HW.out]
          clear HW
          go_wp2_with fail
          with_reducible refine (HG.out _).mono ?_
          rintro e w10 ⟨rfl, rfl⟩
          go_wp2_with fail
          with_reducible refine (HD.out _).mono ?_
          rintro e w11 ⟨rfl, rfl⟩
          go_wp2_with fail
          with_reducible refine HC.out.mono ?_
          rintro e w3 ⟨rfl, hb3⟩
          have HR3 := Lib.hid ((hb3.block _ (lt_of_block HR.out)).trans HR.out)
          have HB3 := Lib.hid (HB.out.trans (hb3.mono HB.out.size))
          clear hb3 HR HB HC
          have hS := set7 (v0 := .int .i64 a0) (v1 := .string (strOf a1)) (v2 := .bool a2) (v3 := .string a3) (v4 := .int .i64 a4) (v5 := .int .i64 0) (v6 := .int .i64 0) HR3.out (Nat.le_refl _) HB3.out
          have HS := Lib.hid hS
          obtain ⟨_, y0, y1, y2, y3, y4, y5, y6⟩ := row7 HR3.out
          clear hS HR3 HB3
          go_wp2_with fail
          refine bodyPost_ret (results_row_tmp2 rfl _ _ w.heap.size _ _ _ _ rfl HS.out.1 Tryd.underlying30 rfl (by kernel_rfl)) rfl ⟨rfl, HS.out.2⟩
      · have d45 : (x == 45) = false := beq_eq_false_iff_ne.2 h45
        rw [if_neg (by rintro (h | ⟨h, _⟩); rw [hdg] at h; cases h; exact h45 h)] at hfs
        by_cases h39 : x = 39
        · subst h39
          rw [if_pos (.inl rfl)] at hfs
          clear HNum HSign
          have hv : firstFs (unstr s) = textFs (unstr s) := hfs
          rw [hv]
          have HC := Lib.hid HText
          generalize textFs (unstr s) = f at HC ⊢
          obtain ⟨⟨a0, a1, a2, a3, a4⟩, n, er⟩ := f
          unfold Fs.val Tk.cells at HC ⊢
          dsimp only at HC ⊢
          clear hv hfs hlen hat hbg hdg HText
          go_enter Tryd.func23, Tryd.ntmps23
          go_upto_region 1 with fail
          rw [← HW.out]
          clear HW
          go_wp2_with fail
          with_reducible refine (HG.out _).mono ?_
          rintro e w10 ⟨rfl, rfl⟩
          go_wp2_with fail
          with_reducible refine (HD.out _).mono ?_
          rintro e w11 ⟨rfl, rfl⟩
          go_wp2_with fail
          with_reducible refine HC.out.mono ?_
          rintro e w3 ⟨rfl, hb3⟩
          have HR3 := Lib.hid ((hb3.block _ (lt_of_block HR.out)).trans HR.out)
          have HB3 := Lib.hid (HB.out.trans (hb3.mono HB.out.size))
          clear hb3 HR HB HC
          have hS := set7 (v0 := .int .i64 a0) (v1 := .string (strOf a1)) (v2 := .bool a2) (v3 := .string a3) (v4 := .int .i64 a4) (v5 := .int .i64 0) (v6 := .int .i64 0) HR3.out (Nat.le_refl _) HB3.out
          have HS := Lib.hid hS
          obtain ⟨_, y0, y1, y2, y3, y4, y5, y6⟩ := row7 HR3.out
          clear hS HR3 HB3
          go_wp2_with fail
          refine bodyPost_ret (results_row_tmp2 rfl _ _ w.heap.size _ _ _ _ rfl HS.out.1 Tryd.underlying30 rfl (by kernel_rfl)) rfl ⟨rfl, HS.out.2⟩
        have d39 : (x == 39) = false := beq_eq_false_iff_ne.2 h39
        by_cases h34 : x = 34
        · subst h34
          rw [if_pos (.inr rfl)] at hfs
          clear HNum HSign
          have hv : firstFs (unstr s) = textFs (unstr s) := hfs
          rw [hv]
          have HC := Lib.hid HText
          generalize textFs (unstr s) = f at HC ⊢
          obtain ⟨⟨a0, a1, a2, a3, a4⟩, n, er⟩ := f
          unfold Fs.val Tk.cells at HC ⊢
          dsimp only at HC ⊢
          clear hv hfs hlen hat hbg hdg HText
          go_enter Tryd.func23, Tryd.ntmps23
          go_upto_region 1 with fail
          rw [← HW.out]
          clear HW
          go_wp2_with fail
          with_reducible refine (HG.out _).mono ?_
          rintro e w10 ⟨rfl, rfl⟩
          go_wp2_with fail
          with_reducible refine (HD.out _).mono ?_
          rintro e w11 ⟨rfl, rfl⟩
          go_wp2_with fail
          with_reducible refine HC.out.mono ?_
          rintro e w3 ⟨rfl, hb3⟩
          have HR3 := Lib.hid ((hb3.block _ (lt_of_block HR.out)).trans HR.out)
          have HB3 := Lib.hid (HB.out.trans (hb3.mono HB.out.size))
          clear hb3 HR HB HC
          have hS := set7 (v0 := .int .i64 a0) (v1 := .string (strOf a1)) (v2 := .bool a2) (v3 := .string a3) (v4 := .int .i64 a4) (v5 := .int .i64 0) (v6 := .int .i64 0) HR3.out (Nat.le_refl _) HB3.out
          have HS := Lib.hid hS
          obtain ⟨_, y0, y1, y2, y3, y4, y5, y6⟩ := row7 HR3.out
          clear hS HR3 HB3
          go_wp2_with fail
          refine bodyPost_ret (results_row_tmp2 rfl _ _ w.heap.size _ _ _ _ rfl HS.out.1 Tryd.underlying30 rfl (by kernel_rfl)) rfl ⟨rfl, HS.out.2⟩
        have d34 : (x == 34) = false := beq_eq_false_iff_ne.2 h34
        rw [if_neg (by rintro (h | h); exact h39 h; exact h34 h)] at hfs
        clear HNum HText
        have hv : firstFs (unstr s) = signL (unstr s) := hfs
        rw [hv]
        have HC := Lib.hid HSign
        generalize signL (unstr s) = f at HC ⊢
        obtain ⟨⟨a0, a1, a2, a3, a4⟩, n, er⟩ := f
        unfold Fs.val Tk.cells at HC ⊢
        dsimp only at HC ⊢
        clear hv hfs hlen hat hbg hdg HSign
        go_enter Tryd.func23, Tryd.ntmps23
        go_upto_region 1 with fail
        rw [← HW.out]
        clear HW
        go_wp2_with fail
        with_reducible refine (HG.out _).mono ?_
        rintro e w10 ⟨rfl, rfl⟩
        go_wp2_with fail
        with_reducible refine (HD.out _).mono ?_
        rintro e w11 ⟨rfl, rfl⟩
        go_wp2_with fail
        with_reducible refine HC.out.mono ?_
        rintro e w3 ⟨rfl, hb3⟩
        have HR3 := Lib.hid ((hb3.block _ (lt_of_block HR.out)).trans HR.out)
        have HB3 := Lib.hid (HB.out.trans (hb3.mono HB.out.size))
        clear hb3 HR HB HC
        have hS := set7 (v0 := .int .i64 a0) (v1 := .string (strOf a1)) (v2 := .bool a2) (v3 := .string a3) (v4 := .int .i64 a4) (v5 := .int .i64 0) (v6 := .int .i64 0) HR3.out (Nat.le_refl _) HB3.out
        have HS := Lib.hid hS
        obtain ⟨_, y0, y1, y2, y3, y4, y5, y6⟩ := row7 HR3.out
        clear hS HR3 HB3
        go_wp2_with fail
        refine bodyPost_ret (results_row_tmp2 rfl _ _ w.heap.size _ _ _ _ rfl HS.out.1 Tryd.underlying30 rfl (by kernel_rfl)) rfl ⟨rfl, HS.out.2⟩
end Go.Proofs.YtkifndecpbphbaaDoor.dk
