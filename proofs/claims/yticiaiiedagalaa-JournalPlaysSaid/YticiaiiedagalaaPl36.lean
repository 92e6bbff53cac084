/- The document's Open, where the session is not full. -/
import Derived.Test.YticiaiiedagalaaPl35
namespace Go.Proofs.Yticiaiiedagalaa.dk
open Go.PlainAid Go.ChangeShapes Go.WideShapes Go.ChangeAt Go.RowKit

set_option maxHeartbeats 8000000 in
set_option maxRecDepth 100000 in
theorem rOpen_ok {B D : Nat} {S P : Value} {r : Rk} {w : World} (h : RefAt B D S P r w) (hd : r.gone = false) (frm n : Nat) (hn1 : 1 ≤ n) (hn : frm + n ≤ r.S.length) (hby : ∀ i, i < n → Bys (rR r frm i)) (hs : gr2 fS (rF r frm) n ≠ 4294967295) :
    Calls Try.prog 14 #[.pointer (some ⟨D, 0, none⟩), .int .i64 (frm : Int), .int .i64 (n : Int)] w (ROpenPost w D frm n (rF r frm)) := by
  have HSs := Lib.hid hs
  clear hs
  obtain ⟨sp, sc, rfl⟩ := own_form h.hS
  have k0 := h.cell 0
  have k3 := h.cell 3
  simp only [rcells] at k0 k3
  simp at k0 k3
  rw [hd] at k3
  have hn2 := h.n2
  have HH := Lib.hid h
  have HBy := Lib.hid hby
  have d1 : decide ((n : Int) < 1) = false := decide_eq_false (by omega)
  have d2 : decide ((frm : Int) < 0) = false := decide_eq_false (by omega)
  have d3 : decide ((r.S.length : Int) < (n : Int)) = false := decide_eq_false (by omega)
  have d3b : decide (r.S.length < n) = false := decide_eq_false (by omega)
  have ws : IntKind.i64.wrap ((r.S.length : Int) - (n : Int)) = (r.S.length : Int) - n := by rw [IntKind.wrap_i64]; omega
  have d4 : decide ((r.S.length : Int) - (n : Int) < (frm : Int)) = false := decide_eq_false (by omega)
  clear h hby
  go_enter Try.func14, Try.ntmps14
  go_wp2_with fail
  go_loopw [9, 10, 11, 12, 13] (fun v9 v10 v11 v12 v13 wr => ∃ (i : Nat) (p : Option Addr) (cc : Nat) (vs : List Value) (bb : Bool), v9 = .slice p i cc ∧ v10 = .bool bb ∧ v11 = .int .u32 (gr2 fS (rF r frm) i) ∧ v12 = .int .u32 (gr2 fN (rF r frm) i) ∧ v13 = .int .i64 (i : Int) ∧ i ≤ n ∧ (gr2 fS (rF r frm) i ≠ 0 → bb = true) ∧ Hid (SecAt w.heap.size p i cc (rR r frm) vs wr) ∧ Hid (Below w.heap.size w wr)) (fun _ _ _ _ v13 _ => n - (intOf v13).toNat)
  case atStart => exact ⟨0, none, 0, [], false, rfl, rfl, rfl, rfl, rfl, Nat.zero_le _, fun hh => absurd rfl hh, ⟨World.ownsRow_nil _ _ _ _, fun i hi => absurd hi (by omega)⟩, Below.refl _ _⟩
  case round =>
    obtain ⟨i, p, cc, vs, bb, rfl, rfl, rfl, rfl, rfl, hi, hbb, HS, HB⟩ := hrel
    by_cases hin : i < n
    · have dj : decide ((i : Int) < (n : Int)) = true := decide_eq_true (by omega)
      have wsum : IntKind.i64.wrap ((frm : Int) + (i : Int)) = (frm : Int) + (i : Int) := by rw [IntKind.wrap_i64]; omega
      have HRd := Lib.hid (rRead_ok (HH.out.below HB.out) hd (frm + i) (by omega))
      rw [show ((frm + i : Nat) : Int) = (frm : Int) + (i : Int) from Int.natCast_add frm i] at HRd
      go_wp2_with fail
      with_reducible refine HRd.out.mono ?_
      clear HRd
      rintro e w2 ⟨G, c, rfl, hrd, hb2, hc, hG, ht⟩
      have hbV : Below w2.heap.size w2 (w2.alloc (.cells #[.slice (some ⟨G, 0, none⟩) 64 c] 45)) := (Below.refl _ _).alloc (Nat.le_refl _) _
      have hGl : G < w2.heap.size := by obtain ⟨cur, fr, e4⟩ := ht; exact (Array.getElem?_eq_some_iff.1 e4).1
      have hsV := (HS.out.below hb2).below hbV
      have hB2 := HB.out.trans (hb2.mono HB.out.size)
      have hBV := hB2.trans (hbV.mono hB2.size)
      obtain ⟨p3, c3, w3, hru, hs3, hb3, hrd3, hsz3⟩ := hsV.grow (b := w2.heap.size) hc (Nat.lt_of_lt_of_le hGl hbV.size) (by obtain ⟨cur, fr, e4⟩ := ht; exact ⟨cur, fr, (hbV.block G hGl).trans e4⟩) (hrd.below hbV) (cell_of_row _ _ _ _ _ _ (heap_alloc_new _ _)) (by omega) hBV.size
      have HRr := Lib.hid (rread_any w3 G 0 c (rR r frm i) hrd3 (HBy.out i hin) hc (Nat.lt_of_lt_of_le (Nat.lt_of_lt_of_le hGl hbV.size) hsz3))
      have HRu := Lib.hid hru
      have HS3 := Lib.hid hs3
      have HB3 := Lib.hid (hBV.trans hb3)
      clear hrd hb2 hbV hsV hB2 hBV hru hs3 hb3 hrd3 hsz3 ht hG hGl HS HB
      have hgS := gr2_succ fS (rF r frm) i
      have hgN := gr2_succ fN (rF r frm) i
      have HgS := Lib.hid hgS
      have HgN := Lib.hid hgN
      clear hgS hgN
      by_cases hp : isP (rR r frm i) = true
      · have hFi : rF r frm i = some (rR r frm i) := by unfold rF pcOf; rw [if_pos hp]
        have hrv : rv (rR r frm i) G 0 c = .agg #[.int .u32 (fS (rR r frm i)), .int .u32 (fN (rR r frm i)), .int .i64 (fP (rR r frm i)), .int .i64 (fC (rR r frm i)), .slice (some ⟨G, 16, none⟩) (fB (rR r frm i)).length (c - 16)] := by unfold rv; rw [if_pos hp, Nat.zero_add]
        rw [hrv, hp] at HRr
        rw [hFi] at HgS HgN
        clear hFi hrv
        go_wp2_with (at_builtin; refine wpList_append_run rfl _ _ _ rfl _ _ _ _ rfl rfl HRu.out ?_)
        with_reducible refine HRr.out.mono ?_
        clear HRr
        rintro e w4 ⟨rfl, hb4⟩
        have HS4 := Lib.hid (HS3.out.below hb4)
        have HB4 := Lib.hid (HB3.out.trans (hb4.mono HB3.out.size))
        clear hb4
        go_wp2_with fail
        have hmS : Hid (gr2 fS (rF r frm) (i + 1) = max (gr2 fS (rF r frm) i) (fS (rR r frm i))) := HgS.out
        have hmN : Hid (gr2 fN (rF r frm) (i + 1) = max (gr2 fN (rF r frm) i) (fN (rR r frm i))) := HgN.out
        have hb5 := (Below.refl w4.heap.size w4).alloc (Nat.le_refl _) (.cells #[.int .u32 (fS (rR r frm i)), .int .u32 (fN (rR r frm i)), .int .i64 (fP (rR r frm i)), .int .i64 (fC (rR r frm i)), .slice (some ⟨G, 16, none⟩) (fB (rR r frm i)).length (c - 16)] 81)
        constructor
        · exact ⟨i + 1, p3, c3, _, true, rfl, rfl, by rw [hmS.out], by rw [hmN.out], by go_num, by omega, fun _ => rfl, HS4.out.below hb5, HB4.out.trans (hb5.mono HB4.out.size)⟩
        · show n - ((i : Int) + 1).toNat < n - (i : Int).toNat
          omega
      · have hpf : isP (rR r frm i) = false := by simpa using hp
        have hFi : rF r frm i = none := by unfold rF pcOf; rw [if_neg hp]
        have hrv : rv (rR r frm i) G 0 c = .agg #[.int .u32 0, .int .u32 0, .int .i64 0, .int .i64 0, .slice none 0 0] := by unfold rv; rw [if_neg hp]
        rw [hrv, hpf] at HRr
        rw [hFi] at HgS HgN
        clear hFi hrv
        go_wp2_with (at_builtin; refine wpList_append_run rfl _ _ _ rfl _ _ _ _ rfl rfl HRu.out ?_)
        with_reducible refine HRr.out.mono ?_
        clear HRr
        rintro e w4 ⟨rfl, hb4⟩
        have HS4 := Lib.hid (HS3.out.below hb4)
        have HB4 := Lib.hid (HB3.out.trans (hb4.mono HB3.out.size))
        clear hb4
        go_wp2_with fail
        have hmS : Hid (gr2 fS (rF r frm) (i + 1) = gr2 fS (rF r frm) i) := HgS.out
        have hmN : Hid (gr2 fN (rF r frm) (i + 1) = gr2 fN (rF r frm) i) := HgN.out
        have hb5 := (Below.refl w4.heap.size w4).alloc (Nat.le_refl _) (.cells #[.int .u32 0, .int .u32 0, .int .i64 0, .int .i64 0, .slice none 0 0] 81)
        constructor
        · exact ⟨i + 1, p3, c3, _, bb, rfl, rfl, by rw [hmS.out], by rw [hmN.out], by go_num, by omega, by rw [hmS.out]; exact hbb, HS4.out.below hb5, HB4.out.trans (hb5.mono HB4.out.size)⟩
        · show n - ((i : Int) + 1).toNat < n - (i : Int).toNat
          omega
    · have dj : decide ((i : Int) < (n : Int)) = false := decide_eq_false (by omega)
      obtain rfl : i = n := by omega
      have hsb := gr2_bd fS (rF r frm) fS_bd i
      have hnb := gr2_bd fN (rF r frm) fN_bd i
      have hs' := HSs.out
      have dse : (gr2 fS (rF r frm) i == 4294967295) = false := beq_eq_false_iff_ne.2 hs'
      generalize hse : gr2 fS (rF r frm) i = se at hsb dse hs' ⊢
      generalize hnu : gr2 fN (rF r frm) i = nu0 at hnb ⊢
      have HSE := Lib.hid hse
      have HNU := Lib.hid hnu
      clear hse hnu hbb
      have hiM : i ≤ 1000000 := by omega
      cases bb with
      | true =>
        go_wp2_with fail
        obtain ⟨ag, hag⟩ : ∃ a, a = wr.heap.size := ⟨_, rfl⟩
        rw [← hag]
        have hW0 : GL wr ag { d := D, frm := frm, n := i, place := 0, num := (nu0 + 1) % 4294967296, ses := se + 1, broken := false } none none 0 [] [] ((wr.alloc (.cells #[.pointer (some ⟨D, 0, none⟩), .int .i64 (frm : Int), .int .i64 (i : Int), .int .i64 0, .int .u32 ((nu0 + 1) % 4294967296), .int .u32 (se + 1), .bool false] 85)).alloc (.cells #[.int .u32 0, .int .u32 0, .int .i64 0, .int .i64 0, .slice none 0 0] 81)) := ⟨by rw [hag]; exact alloc_row (heap_alloc_new _ _), ⟨0, 0, _, _, _, by
          rw [hag, show wr.heap.size + 1 = (wr.alloc (.cells #[.pointer (some ⟨D, 0, none⟩), .int .i64 (frm : Int), .int .i64 (i : Int), .int .i64 0, .int .u32 ((nu0 + 1) % 4294967296), .int .u32 (se + 1), .bool false] 85)).heap.size by simp [World.alloc, -World.alloc_eq]]; exact heap_alloc_new _ _, fun q hq => by cases hq⟩, ⟨World.ownsRow_nil _ _ _ _, fun x hx => absurd hx (by simp)⟩, ((Below.refl _ _).alloc (Nat.le_refl _) _).alloc (by simp [World.alloc, -World.alloc_eq]) _⟩
        have HW0 := Lib.hid hW0
        have HAg := Lib.hid hag
        clear hW0 hag
        generalize (wr.alloc _).alloc _ = wz at HW0 ⊢
        go_loopw [19] (fun v19 wx => ∃ (f pl : Nat) (num : Int) (last : Option (List Int)) (out : List (List Int)) (p2 : Option Addr) (cc2 : Nat) (vs2 : List Value), v19 = .slice p2 out.length cc2 ∧ pl ≤ i ∧ i ≤ pl + f ∧ out.length ≤ pl ∧ Hid (tellN (rF r frm) i = gathF (rF r frm) i f pl num last out) ∧ ((last = none ∧ out = []) ∨ (∃ q, last = some q ∧ num = (fN q + 1) % 4294967296 ∧ out ≠ [])) ∧ Hid (GL wr ag { d := D, frm := frm, n := i, place := pl, num := num, ses := se + 1, broken := false } last p2 cc2 out vs2 wx)) (fun v19 _ => i + 1 - slen v19)
        case atStart => exact ⟨i, 0, _, none, [], none, 0, [], rfl, Nat.zero_le _, by omega, Nat.le_refl _, by show _ = _; unfold tellN; rw [HNU.out], .inl ⟨rfl, rfl⟩, HW0.out⟩
        case round =>
          clear HW0
          obtain ⟨f, pl, num, last, out, p2, cc2, vs2, rfl, hpl, hf, hol, HT, hlast, HG⟩ := hrel
          have HSx := Lib.hid (HS.out.below HG.out.b)
          have HWh := Lib.hid (rwhole_any HSx.out HBy.out (fun x hx => rR_len HH.out frm x (by omega)) pl (by omega) hpl)
          have l3 := HG.out.lg.cell 3
          have l4 := HG.out.lg.cell 4
          simp only [lgcells] at l3 l4
          simp at l3 l4
          go_wp2_with fail
          with_reducible refine HWh.out.mono ?_
          clear HWh
          rintro e w2 ⟨hb2, hpost⟩
          rcases hpost with ⟨hz, rfl⟩ | ⟨p0, q, qc, hF0, hnz, rfl, hown⟩
          · have e : Hid (tellN (rF r frm) i = (pl, num, out)) := by
              refine HT.out.trans ?_
              cases f with
              | zero => rfl
              | succ f =>
                rw [gathF.eq_2]
                split
                · rw [if_pos (show wholeF (fun x => rF r frm (pl + x)) (i - pl) = 0 from hz)]
                · rfl
            have hlg := HG.out.lg.below hb2
            have hrc := HG.out.rc.below hb2
            have hwb := HG.out.b.trans (hb2.mono HG.out.b.size)
            have hb3 := (Below.refl w2.heap.size w2).alloc (Nat.le_refl _) (.cells #[.int .u32 0, .int .u32 0, .int .i64 0, .int .i64 0, .slice none 0 0] 81)
            have hX : ROpenPost w D frm i (rF r frm) (.returned (.tuple #[.pointer (some ⟨ag, 0, none⟩), .slice p2 out.length cc2, .int .i64 0])) (w2.alloc (.cells #[.int .u32 0, .int .u32 0, .int .i64 0, .int .i64 0, .slice none 0 0] 81)) := ⟨ag, p2, cc2, vs2, by rw [e.out], by rw [HAg.out]; exact HB.out.size, by rw [e.out, HSE.out]; exact hlg.below hb3, by rw [e.out]; exact (hrc.below hb3).base HB.out.size, HB.out.trans ((hwb.trans (hb3.mono hwb.size)).mono HB.out.size)⟩
            have HX := Lib.hid hX
            clear hlg hrc hwb hb3 hX
            unfold pzero
            go_wp2_with fail
            go_ret3
            exact HX.out
          · obtain ⟨k, hk⟩ : ∃ k, k = wholeF (fun x => rF r frm (pl + x)) (i - pl) := ⟨_, rfl⟩
            have hk2 : wholeF (fun x => pcOf (rR r frm (pl + x))) (i - pl) = k := hk.symm
            rw [hk2] at hnz hown ⊢
            have hkl : k ≤ i - pl := by rw [hk]; exact wholeF_le _ _
            obtain ⟨l, hl⟩ : ∃ l, l = joinF (fun x => rF r frm (pl + x)) k := ⟨_, rfl⟩
            have hl2 : joinF (fun x => pcOf (rR r frm (pl + x))) k = l := hl.symm
            rw [hl2] at hown ⊢
            have hFp : rF r frm pl = some p0 := hF0
            have dk : ((k : Int) == 0) = false := beq_eq_false_iff_ne.2 (by omega)
            have hf1 : ∃ f', f = f' + 1 := ⟨f - 1, by omega⟩
            obtain ⟨f', rfl⟩ := hf1
            have hgo : gathF (rF r frm) i (f' + 1) pl num last out = if stopAt last num p0 = true then (pl, num, out) else gathF (rF r frm) i f' (pl + k) ((fN p0 + 1) % 4294967296) (some p0) (out ++ [l]) := by
              rw [gathF.eq_2, if_pos (by omega), ← hk, if_neg hnz, hFp, ← hl]
              rfl
            have HGo := Lib.hid hgo
            have HK := Lib.hid hk
            have HL := Lib.hid hl
            clear hk hk2 hl hl2 hFp hF0
            obtain ⟨ls, ln, la, lb, lc, hla, hlq⟩ := HG.out.la
            have hb3 := (Below.refl w2.heap.size w2).alloc (Nat.le_refl _) (.cells #[.int .u32 (fS p0), .int .u32 (fN p0), .int .i64 (fP p0), .int .i64 (fC p0), .slice q l.length qc] 81)
            have hb23 := hb2.trans (hb3.mono hb2.size)
            have hla2 := (hb23.block _ (Array.getElem?_eq_some_iff.1 hla).1).trans hla
            obtain ⟨⟨r0, r1, r2, r3, r4⟩, x0, x1, x2, x3, x4⟩ := row5 hla2
            have HLa2 := Lib.hid hla2
            clear hgo hla2 hb3 hb23
            by_cases hst : stopAt last num p0 = true
            · rcases hlast with ⟨rfl, rfl⟩ | ⟨q0, rfl, rfl, hne⟩
              · cases hst
              · obtain ⟨rfl, rfl⟩ := hlq q0 rfl
                have dl : decide ((0 : Int) < (out.length : Int)) = true := decide_eq_true (by have := List.length_pos_iff.2 hne; omega)
                have dl2 : decide (0 < out.length) = true := decide_eq_true (List.length_pos_iff.2 hne)
                have e : Hid (tellN (rF r frm) i = (pl, ((fN q0 + 1) % 4294967296), out)) := HT.out.trans (HGo.out.trans (if_pos hst))
                have hlg := HG.out.lg.below hb2
                have hrc := HG.out.rc.below hb2
                have hwb := HG.out.b.trans (hb2.mono HG.out.b.size)
                have hb3 := (Below.refl w2.heap.size w2).alloc (Nat.le_refl _) (.cells #[.int .u32 (fS p0), .int .u32 (fN p0), .int .i64 (fP p0), .int .i64 (fC p0), .slice q l.length qc] 81)
                have hX : ROpenPost w D frm i (rF r frm) (.returned (.tuple #[.pointer (some ⟨ag, 0, none⟩), .slice p2 out.length cc2, .int .i64 0])) (w2.alloc (.cells #[.int .u32 (fS p0), .int .u32 (fN p0), .int .i64 (fP p0), .int .i64 (fC p0), .slice q l.length qc] 81)) := ⟨ag, p2, cc2, vs2, by rw [e.out], by rw [HAg.out]; exact HB.out.size, by rw [e.out, HSE.out]; exact hlg.below hb3, by rw [e.out]; exact (hrc.below hb3).base HB.out.size, HB.out.trans ((hwb.trans (hb3.mono hwb.size)).mono HB.out.size)⟩
                have HX := Lib.hid hX
                have hor : fN p0 ≠ ((fN q0 + 1) % 4294967296) ∨ fS p0 < fS q0 := by
                  have : (decide (fN p0 ≠ ((fN q0 + 1) % 4294967296)) || decide (fS p0 < fS q0)) = true := hst
                  simpa [Bool.or_eq_true] using this
                clear hlg hrc hwb hb3 hX hst hne
                by_cases h1 : fN p0 = ((fN q0 + 1) % 4294967296)
                · have f1 : (fN p0 != ((fN q0 + 1) % 4294967296)) = false := by rw [h1]; exact bne_self_eq_false _
                  have f2 : decide (fS p0 < fS q0) = true := decide_eq_true (by rcases hor with h | h; exact absurd h1 h; exact h)
                  clear hor h1
                  go_wp2_with fail
                  go_ret3
                  exact HX.out
                · have f1 : (fN p0 != ((fN q0 + 1) % 4294967296)) = true := by rw [bne_iff_ne]; exact h1
                  clear hor h1
                  go_wp2_with fail
                  go_ret3
                  exact HX.out
            · have HT2 : Hid (tellN (rF r frm) i = gathF (rF r frm) i f' (pl + k) ((fN p0 + 1) % 4294967296) (some p0) (out ++ [l])) := HT.out.trans (HGo.out.trans (if_neg hst))
              clear HGo l3 l4 r2 r3 r4 x0 x1 x2 x3 x4 HLa2 hla HSx
              obtain ⟨p3, c3, w3, hru, s3, ⟨ls3, ln3, a3, b3, e3, hl3⟩, lg3, hagl, hG3⟩ := HG.out.take (p0 := p0) HAg.out hb2 hown (Nat.le_trans hol (Nat.le_trans hpl hiM)) (pl + k) ((fN p0 + 1) % 4294967296)
              rw [Int.natCast_add] at hG3
              obtain ⟨⟨m0, m1, m2, m3, m4⟩, _⟩ := row5 s3
              obtain ⟨⟨o0, o1, o2, o3, o4⟩, z0, z1, z2, z3, z4⟩ := row5 hl3
              have g3 := lg3.cell 3
              have g4 := lg3.cell 4
              simp only [lgcells] at g3 g4
              simp at g3 g4
              have gf3 := lg3.frozen 3
              have gf4 := lg3.frozen 4
              have wpk : IntKind.i64.wrap ((pl : Int) + (k : Int)) = (pl : Int) + k := by rw [IntKind.wrap_i64]; omega
              have HRu := Lib.hid hru
              have HG3 := Lib.hid hG3
              have Hl3 := Lib.hid hl3
              have Hs3 := Lib.hid s3
              have Hlg3 := Lib.hid lg3
              clear hru hG3 hl3 s3 lg3 HG HT hb2 hown
              rcases hlast with ⟨rfl, rfl⟩ | ⟨q0, rfl, rfl, hne⟩
              · clear hst hlq r0 r1
                go_wp2_with (at_builtin; refine wpList_append_run rfl _ _ _ rfl _ _ _ _ rfl rfl HRu.out ?_)
                constructor
                · exact ⟨f', pl + k, _, some p0, [] ++ [l], p3, c3, _, rfl, by omega, by omega, by show 1 ≤ _; omega, HT2.out, .inr ⟨p0, rfl, rfl, by simp⟩, HG3.out⟩
                · show i + 1 - 1 < i + 1 - 0
                  omega
              · obtain ⟨rfl, rfl⟩ := hlq q0 rfl
                have dl : decide ((0 : Int) < (out.length : Int)) = true := decide_eq_true (by have := List.length_pos_iff.2 hne; omega)
                have dl2 : decide (0 < out.length) = true := decide_eq_true (List.length_pos_iff.2 hne)
                have hor : fN p0 = ((fN q0 + 1) % 4294967296) ∧ ¬ fS p0 < fS q0 := by
                  have : ¬ (decide (fN p0 ≠ ((fN q0 + 1) % 4294967296)) || decide (fS p0 < fS q0)) = true := hst
                  simpa [Bool.or_eq_true] using this
                have f1 : (fN p0 != ((fN q0 + 1) % 4294967296)) = false := by rw [hor.1]; exact bne_self_eq_false _
                have f2 : decide (fS p0 < fS q0) = false := decide_eq_false hor.2
                have HOl := Lib.hid hol
                clear hst hlq hor hne hol
                go_wp2_with (at_builtin; refine wpList_append_run rfl _ _ _ rfl _ _ _ _ rfl rfl HRu.out ?_)
                have hlen : (out ++ [l]).length = out.length + 1 := by rw [List.length_append]; rfl
                have hol := HOl.out
                constructor
                · exact ⟨f', pl + k, _, some p0, out ++ [l], p3, c3, _, by rw [hlen], by omega, by omega, by rw [hlen]; omega, HT2.out, .inr ⟨p0, rfl, rfl, by simp⟩, HG3.out⟩
                · show i + 1 - (out.length + 1) < i + 1 - out.length
                  omega
      | false =>
        go_wp2_with fail
        obtain ⟨ag, hag⟩ : ∃ a, a = wr.heap.size := ⟨_, rfl⟩
        rw [← hag]
        have hW0 : GL wr ag { d := D, frm := frm, n := i, place := 0, num := (nu0 + 1) % 4294967296, ses := se + 1, broken := false } none none 0 [] [] ((wr.alloc (.cells #[.pointer (some ⟨D, 0, none⟩), .int .i64 (frm : Int), .int .i64 (i : Int), .int .i64 0, .int .u32 ((nu0 + 1) % 4294967296), .int .u32 (se + 1), .bool false] 85)).alloc (.cells #[.int .u32 0, .int .u32 0, .int .i64 0, .int .i64 0, .slice none 0 0] 81)) := ⟨by rw [hag]; exact alloc_row (heap_alloc_new _ _), ⟨0, 0, _, _, _, by
          rw [hag, show wr.heap.size + 1 = (wr.alloc (.cells #[.pointer (some ⟨D, 0, none⟩), .int .i64 (frm : Int), .int .i64 (i : Int), .int .i64 0, .int .u32 ((nu0 + 1) % 4294967296), .int .u32 (se + 1), .bool false] 85)).heap.size by simp [World.alloc, -World.alloc_eq]]; exact heap_alloc_new _ _, fun q hq => by cases hq⟩, ⟨World.ownsRow_nil _ _ _ _, fun x hx => absurd hx (by simp)⟩, ((Below.refl _ _).alloc (Nat.le_refl _) _).alloc (by simp [World.alloc, -World.alloc_eq]) _⟩
        have HW0 := Lib.hid hW0
        have HAg := Lib.hid hag
        clear hW0 hag
        generalize (wr.alloc _).alloc _ = wz at HW0 ⊢
        go_loopw [19] (fun v19 wx => ∃ (f pl : Nat) (num : Int) (last : Option (List Int)) (out : List (List Int)) (p2 : Option Addr) (cc2 : Nat) (vs2 : List Value), v19 = .slice p2 out.length cc2 ∧ pl ≤ i ∧ i ≤ pl + f ∧ out.length ≤ pl ∧ Hid (tellN (rF r frm) i = gathF (rF r frm) i f pl num last out) ∧ ((last = none ∧ out = []) ∨ (∃ q, last = some q ∧ num = (fN q + 1) % 4294967296 ∧ out ≠ [])) ∧ Hid (GL wr ag { d := D, frm := frm, n := i, place := pl, num := num, ses := se + 1, broken := false } last p2 cc2 out vs2 wx)) (fun v19 _ => i + 1 - slen v19)
        case atStart => exact ⟨i, 0, _, none, [], none, 0, [], rfl, Nat.zero_le _, by omega, Nat.le_refl _, by show _ = _; unfold tellN; rw [HNU.out], .inl ⟨rfl, rfl⟩, HW0.out⟩
        case round =>
          clear HW0
          obtain ⟨f, pl, num, last, out, p2, cc2, vs2, rfl, hpl, hf, hol, HT, hlast, HG⟩ := hrel
          have HSx := Lib.hid (HS.out.below HG.out.b)
          have HWh := Lib.hid (rwhole_any HSx.out HBy.out (fun x hx => rR_len HH.out frm x (by omega)) pl (by omega) hpl)
          have l3 := HG.out.lg.cell 3
          have l4 := HG.out.lg.cell 4
          simp only [lgcells] at l3 l4
          simp at l3 l4
          go_wp2_with fail
          with_reducible refine HWh.out.mono ?_
          clear HWh
          rintro e w2 ⟨hb2, hpost⟩
          rcases hpost with ⟨hz, rfl⟩ | ⟨p0, q, qc, hF0, hnz, rfl, hown⟩
          · have e : Hid (tellN (rF r frm) i = (pl, num, out)) := by
              refine HT.out.trans ?_
              cases f with
              | zero => rfl
              | succ f =>
                rw [gathF.eq_2]
                split
                · rw [if_pos (show wholeF (fun x => rF r frm (pl + x)) (i - pl) = 0 from hz)]
                · rfl
            have hlg := HG.out.lg.below hb2
            have hrc := HG.out.rc.below hb2
            have hwb := HG.out.b.trans (hb2.mono HG.out.b.size)
            have hb3 := (Below.refl w2.heap.size w2).alloc (Nat.le_refl _) (.cells #[.int .u32 0, .int .u32 0, .int .i64 0, .int .i64 0, .slice none 0 0] 81)
            have hX : ROpenPost w D frm i (rF r frm) (.returned (.tuple #[.pointer (some ⟨ag, 0, none⟩), .slice p2 out.length cc2, .int .i64 0])) (w2.alloc (.cells #[.int .u32 0, .int .u32 0, .int .i64 0, .int .i64 0, .slice none 0 0] 81)) := ⟨ag, p2, cc2, vs2, by rw [e.out], by rw [HAg.out]; exact HB.out.size, by rw [e.out, HSE.out]; exact hlg.below hb3, by rw [e.out]; exact (hrc.below hb3).base HB.out.size, HB.out.trans ((hwb.trans (hb3.mono hwb.size)).mono HB.out.size)⟩
            have HX := Lib.hid hX
            clear hlg hrc hwb hb3 hX
            unfold pzero
            go_wp2_with fail
            go_ret3
            exact HX.out
          · obtain ⟨k, hk⟩ : ∃ k, k = wholeF (fun x => rF r frm (pl + x)) (i - pl) := ⟨_, rfl⟩
            have hk2 : wholeF (fun x => pcOf (rR r frm (pl + x))) (i - pl) = k := hk.symm
            rw [hk2] at hnz hown ⊢
            have hkl : k ≤ i - pl := by rw [hk]; exact wholeF_le _ _
            obtain ⟨l, hl⟩ : ∃ l, l = joinF (fun x => rF r frm (pl + x)) k := ⟨_, rfl⟩
            have hl2 : joinF (fun x => pcOf (rR r frm (pl + x))) k = l := hl.symm
            rw [hl2] at hown ⊢
            have hFp : rF r frm pl = some p0 := hF0
            have dk : ((k : Int) == 0) = false := beq_eq_false_iff_ne.2 (by omega)
            have hf1 : ∃ f', f = f' + 1 := ⟨f - 1, by omega⟩
            obtain ⟨f', rfl⟩ := hf1
            have hgo : gathF (rF r frm) i (f' + 1) pl num last out = if stopAt last num p0 = true then (pl, num, out) else gathF (rF r frm) i f' (pl + k) ((fN p0 + 1) % 4294967296) (some p0) (out ++ [l]) := by
              rw [gathF.eq_2, if_pos (by omega), ← hk, if_neg hnz, hFp, ← hl]
              rfl
            have HGo := Lib.hid hgo
            have HK := Lib.hid hk
            have HL := Lib.hid hl
            clear hk hk2 hl hl2 hFp hF0
            obtain ⟨ls, ln, la, lb, lc, hla, hlq⟩ := HG.out.la
            have hb3 := (Below.refl w2.heap.size w2).alloc (Nat.le_refl _) (.cells #[.int .u32 (fS p0), .int .u32 (fN p0), .int .i64 (fP p0), .int .i64 (fC p0), .slice q l.length qc] 81)
            have hb23 := hb2.trans (hb3.mono hb2.size)
            have hla2 := (hb23.block _ (Array.getElem?_eq_some_iff.1 hla).1).trans hla
            obtain ⟨⟨r0, r1, r2, r3, r4⟩, x0, x1, x2, x3, x4⟩ := row5 hla2
            have HLa2 := Lib.hid hla2
            clear hgo hla2 hb3 hb23
            by_cases hst : stopAt last num p0 = true
            · rcases hlast with ⟨rfl, rfl⟩ | ⟨q0, rfl, rfl, hne⟩
              · cases hst
              · obtain ⟨rfl, rfl⟩ := hlq q0 rfl
                have dl : decide ((0 : Int) < (out.length : Int)) = true := decide_eq_true (by have := List.length_pos_iff.2 hne; omega)
                have dl2 : decide (0 < out.length) = true := decide_eq_true (List.length_pos_iff.2 hne)
                have e : Hid (tellN (rF r frm) i = (pl, ((fN q0 + 1) % 4294967296), out)) := HT.out.trans (HGo.out.trans (if_pos hst))
                have hlg := HG.out.lg.below hb2
                have hrc := HG.out.rc.below hb2
                have hwb := HG.out.b.trans (hb2.mono HG.out.b.size)
                have hb3 := (Below.refl w2.heap.size w2).alloc (Nat.le_refl _) (.cells #[.int .u32 (fS p0), .int .u32 (fN p0), .int .i64 (fP p0), .int .i64 (fC p0), .slice q l.length qc] 81)
                have hX : ROpenPost w D frm i (rF r frm) (.returned (.tuple #[.pointer (some ⟨ag, 0, none⟩), .slice p2 out.length cc2, .int .i64 0])) (w2.alloc (.cells #[.int .u32 (fS p0), .int .u32 (fN p0), .int .i64 (fP p0), .int .i64 (fC p0), .slice q l.length qc] 81)) := ⟨ag, p2, cc2, vs2, by rw [e.out], by rw [HAg.out]; exact HB.out.size, by rw [e.out, HSE.out]; exact hlg.below hb3, by rw [e.out]; exact (hrc.below hb3).base HB.out.size, HB.out.trans ((hwb.trans (hb3.mono hwb.size)).mono HB.out.size)⟩
                have HX := Lib.hid hX
                have hor : fN p0 ≠ ((fN q0 + 1) % 4294967296) ∨ fS p0 < fS q0 := by
                  have : (decide (fN p0 ≠ ((fN q0 + 1) % 4294967296)) || decide (fS p0 < fS q0)) = true := hst
                  simpa [Bool.or_eq_true] using this
                clear hlg hrc hwb hb3 hX hst hne
                by_cases h1 : fN p0 = ((fN q0 + 1) % 4294967296)
                · have f1 : (fN p0 != ((fN q0 + 1) % 4294967296)) = false := by rw [h1]; exact bne_self_eq_false _
                  have f2 : decide (fS p0 < fS q0) = true := decide_eq_true (by rcases hor with h | h; exact absurd h1 h; exact h)
                  clear hor h1
                  go_wp2_with fail
                  go_ret3
                  exact HX.out
                · have f1 : (fN p0 != ((fN q0 + 1) % 4294967296)) = true := by rw [bne_iff_ne]; exact h1
                  clear hor h1
                  go_wp2_with fail
                  go_ret3
                  exact HX.out
            · have HT2 : Hid (tellN (rF r frm) i = gathF (rF r frm) i f' (pl + k) ((fN p0 + 1) % 4294967296) (some p0) (out ++ [l])) := HT.out.trans (HGo.out.trans (if_neg hst))
              clear HGo l3 l4 r2 r3 r4 x0 x1 x2 x3 x4 HLa2 hla HSx
              obtain ⟨p3, c3, w3, hru, s3, ⟨ls3, ln3, a3, b3, e3, hl3⟩, lg3, hagl, hG3⟩ := HG.out.take (p0 := p0) HAg.out hb2 hown (Nat.le_trans hol (Nat.le_trans hpl hiM)) (pl + k) ((fN p0 + 1) % 4294967296)
              rw [Int.natCast_add] at hG3
              obtain ⟨⟨m0, m1, m2, m3, m4⟩, _⟩ := row5 s3
              obtain ⟨⟨o0, o1, o2, o3, o4⟩, z0, z1, z2, z3, z4⟩ := row5 hl3
              have g3 := lg3.cell 3
              have g4 := lg3.cell 4
              simp only [lgcells] at g3 g4
              simp at g3 g4
              have gf3 := lg3.frozen 3
              have gf4 := lg3.frozen 4
              have wpk : IntKind.i64.wrap ((pl : Int) + (k : Int)) = (pl : Int) + k := by rw [IntKind.wrap_i64]; omega
              have HRu := Lib.hid hru
              have HG3 := Lib.hid hG3
              have Hl3 := Lib.hid hl3
              have Hs3 := Lib.hid s3
              have Hlg3 := Lib.hid lg3
              clear hru hG3 hl3 s3 lg3 HG HT hb2 hown
              rcases hlast with ⟨rfl, rfl⟩ | ⟨q0, rfl, rfl, hne⟩
              · clear hst hlq r0 r1
                go_wp2_with (at_builtin; refine wpList_append_run rfl _ _ _ rfl _ _ _ _ rfl rfl HRu.out ?_)
                constructor
                · exact ⟨f', pl + k, _, some p0, [] ++ [l], p3, c3, _, rfl, by omega, by omega, by show 1 ≤ _; omega, HT2.out, .inr ⟨p0, rfl, rfl, by simp⟩, HG3.out⟩
                · show i + 1 - 1 < i + 1 - 0
                  omega
              · obtain ⟨rfl, rfl⟩ := hlq q0 rfl
                have dl : decide ((0 : Int) < (out.length : Int)) = true := decide_eq_true (by have := List.length_pos_iff.2 hne; omega)
                have dl2 : decide (0 < out.length) = true := decide_eq_true (List.length_pos_iff.2 hne)
                have hor : fN p0 = ((fN q0 + 1) % 4294967296) ∧ ¬ fS p0 < fS q0 := by
                  have : ¬ (decide (fN p0 ≠ ((fN q0 + 1) % 4294967296)) || decide (fS p0 < fS q0)) = true := hst
                  simpa [Bool.or_eq_true] using this
                have f1 : (fN p0 != ((fN q0 + 1) % 4294967296)) = false := by rw [hor.1]; exact bne_self_eq_false _
                have f2 : decide (fS p0 < fS q0) = false := decide_eq_false hor.2
                have HOl := Lib.hid hol
                clear hst hlq hor hne hol
                go_wp2_with (at_builtin; refine wpList_append_run rfl _ _ _ rfl _ _ _ _ rfl rfl HRu.out ?_)
                have hlen : (out ++ [l]).length = out.length + 1 := by rw [List.length_append]; rfl
                have hol := HOl.out
                constructor
                · exact ⟨f', pl + k, _, some p0, out ++ [l], p3, c3, _, by rw [hlen], by omega, by omega, by rw [hlen]; omega, HT2.out, .inr ⟨p0, rfl, rfl, by simp⟩, HG3.out⟩
                · show i + 1 - (out.length + 1) < i + 1 - out.length
                  omega
end Go.Proofs.Yticiaiiedagalaa.dk
