/- Append, Room, Reset. -/
import Derived.Test.YticiaiiedagalaaJK
namespace Go.Proofs.Yticiaiiedagalaa.dk
open Go.PlainAid Go.ChangeShapes Go.WideShapes Go.ChangeAt Go.RowKit

def needN (k : Nat) : Nat := if k = 0 then 1 else (k - 1) / 48 + 1
theorem needN_eq (k : Nat) : need (k : Int) = (needN k : Int) := by
  unfold need needN
  by_cases h : k = 0
  · subst h; rfl
  · rw [if_neg (by omega), if_neg h]; omega
theorem needN_bd (k : Nat) : 1 ≤ needN k ∧ needN k * 48 < k + 48 + (if k = 0 then 1 else 0) ∧ k ≤ needN k * 48 := by
  unfold needN
  split <;> omega
/-- What Append leaves, and tells. -/
def appendOf (g : Lg) (m : Dk) (b : List Int) : Lg × Dk × Int :=
  if g.broken = true then (g, m, 10) else
  if 65535 < needN b.length then (g, m, 4) else
  if g.n < g.place + needN b.length then (g, m, 5) else
  if (layGo g b (needN b.length) (needN b.length) 0 m).2 = 0 then ({ g with place := g.place + needN b.length, num := (g.num + 1) % 4294967296 }, (layGo g b (needN b.length) (needN b.length) 0 m).1, 0)
  else ({ g with broken := true }, layGo g b (needN b.length) (needN b.length) 0 m)
/-- Outside the disk and the log all stands as it stood. -/
structure LkF (B D L N : Nat) (P : Value) (A : Nat) (w : World) (P' : Value) (w' : World) : Prop where
  below : Below B w w'
  fr : ∀ k, k < w.heap.size → ¬ Xd D L N P k → k ≠ A → w'.heap[k]? = w.heap[k]?
  nw : ∀ g, P'.ownBlock = some g → P.ownBlock = some g ∨ w.heap.size ≤ g
theorem LkF.refl {B D L N A : Nat} {P : Value} {w : World} : LkF B D L N P A w P w := ⟨Below.refl _ _, fun _ _ _ _ => rfl, fun _ h => .inl h⟩
theorem LkF.of {B D L N A : Nat} {P P' : Value} {w w' : World} (h : DkF B D L N P w P' w') : LkF B D L N P A w P' w' := ⟨h.bf.below, fun k hk hx _ => h.bf.fr k hk hx, h.nw⟩
theorem LkF.turn {B D L N A : Nat} {P P' : Value} {w w' w'' : World} (h : LkF B D L N P A w P' w') (hb : Below B w' w'') (hf : Fr A w' w'') : LkF B D L N P A w P' w'' := ⟨h.below.trans hb, fun k hk hx hA => (hf k hA).trans (h.fr k hk hx hA), h.nw⟩
def AppPost (B D L N : Nat) (P : Value) (A : Nat) (r : Lg × Dk × Int) (w : World) (e : Ending) (w' : World) : Prop := ∃ P', e = .returned (.int .i64 r.2.2) ∧ DiskAt B D L N P' r.2.1 w' ∧ LogAt A r.1 w' ∧ LkF B D L N P A w P' w'
theorem lay_any {B D L N A : Nat} {P : Value} {m : Dk} {g : Lg} {w : World} (h : DiskAt B D L N P m w) (hg : LogAt A g w) (hgd : g.d = D) (p : Option Addr) (k c : Nat) (b : List Int) (hS : Src D L N P w p k b) (hkc : k ≤ c) (hc : c ≤ 100000000) (hpc : p = none → c = 0) (hpo : ∀ a, p = some a → a.spot = none)
    (hc3 : needN k ≤ 65535) (hfp : g.frm + g.place ≤ 1000000) (hw : m.writes + needN k < 999990) (hp : m.pend.length + needN k ≤ 999990) (hnum : 0 ≤ g.num ∧ g.num ≤ 4294967295) (hses : 0 ≤ g.ses ∧ g.ses ≤ 4294967295) :
    Calls Try.prog 48 #[.pointer (some ⟨A, 0, none⟩), .slice p k c, .int .i64 (needN k : Int)] w (LayPost B D L N P (layGo g b (needN k) (needN k) 0 m) w) := by
  have hnb := needN_bd k
  by_cases hk : k = 0
  · subst hk
    exact lay_zero h hg hgd p c (needN 0) b (List.length_eq_zero_iff.1 hS.1.1) rfl hpc hpo hfp hw hp hnum hses
  · rw [if_neg hk] at hnb
    obtain ⟨gb, off, rfl, _⟩ := hS.1.form (by omega)
    exact lay_some h hg hgd gb off k c (needN k) b hS (by omega) hkc hc (by omega) (by omega) hc3 hfp hw hp hnum hses
theorem Room_any {A : Nat} {g : Lg} {w : World} (hg : LogAt A g w) (hn : g.n ≤ 1000000) (hp : g.place ≤ 1000000) :
    Calls Try.prog 30 #[.pointer (some ⟨A, 0, none⟩)] w fun e w' => e = .returned (.int .i64 ((g.n : Int) - g.place)) ∧ ∃ y, w' = w.drewN y := by
  have c2 := hg.cell 2
  have c3 := hg.cell 3
  simp only [lgcells] at c2 c3
  simp at c2 c3
  go_enter Try.func30, Try.ntmps30
  go_wp2_with fail
  go_quiet (fail)
  go_wp2
  go_ret
  exact ⟨rfl, _, rfl⟩
theorem Room_nil (w : World) :
    Calls Try.prog 30 #[.pointer none] w fun e w' => e = .returned (.int .i64 0) ∧ w = w' := by
  go_enter Try.func30, Try.ntmps30
  go_wp2_with fail
  go_ret
  exact ⟨rfl, rfl⟩
set_option maxHeartbeats 4000000 in
set_option maxRecDepth 100000 in
theorem Append_any {B D L N A : Nat} {P : Value} {m : Dk} {g : Lg} {w : World} (h : DiskAt B D L N P m w) (hg : LogAt A g w) (hgd : g.d = D) (hBA : B ≤ A) (p : Option Addr) (k c : Nat) (b : List Int) (hS : Src D L N P w p k b) (hkc : k ≤ c) (hc : c ≤ 100000000) (hpc : p = none → c = 0) (hpo : ∀ a, p = some a → a.spot = none)
    (hfp : g.frm + g.place ≤ 1000000) (hn : g.n ≤ 100000) (hw : m.writes < 800000) (hp : m.pend.length ≤ 800000) (hnum : 0 ≤ g.num ∧ g.num ≤ 4294967295) (hses : 0 ≤ g.ses ∧ g.ses ≤ 4294967295) :
    Calls Try.prog 27 #[.pointer (some ⟨A, 0, none⟩), .slice p k c] w (AppPost B D L N P A (appendOf g m b) w) := by
  have hbl := hS.1.1
  have HN0 := Need_any w (k : Int) (by omega)
  rw [needN_eq] at HN0
  have HN := Lib.hid HN0
  have c0 := hg.cell 0
  have c6 := hg.cell 6
  simp only [lgcells] at c0 c6
  simp at c0 c6
  have e0 : Hid (appendOf g m b = _) := appendOf.eq_1 g m b
  rw [hbl] at e0
  have hnl : needN k ≤ 100000000 := by have := needN_bd k; split at this <;> omega
  have H := Lib.hid h
  have HG := Lib.hid hg
  have HS := Lib.hid hS
  have HGd := Lib.hid hgd
  clear hbl HN0 h hg hS hgd
  by_cases hbr : g.broken = true
  · rw [hbr] at c6
    have e1 := Lib.hid (e0.out.trans (if_pos hbr))
    clear hbr
    go_enter Try.func27, Try.ntmps27
    go_wp2_with (go_at_call 32; with_reducible refine HN.out.mono ?_; rintro e w' ⟨rfl, rfl⟩)
    go_ret
    rw [e1.out]
    exact ⟨P, rfl, H.out, HG.out, LkF.refl⟩
  · have hbr' : g.broken = false := by simpa using hbr
    rw [hbr'] at c6
    have e1 := Lib.hid (e0.out.trans (if_neg hbr))
    clear e0
    by_cases hbig : 65535 < needN k
    · have e2 := Lib.hid (e1.out.trans (if_pos hbig))
      have d1 : decide ((65535 : Int) < (needN k : Int)) = true := decide_eq_true (by omega)
      generalize needN k = q at HN d1 hnl
      clear hbr hbr' e1 hbig
      go_enter Try.func27, Try.ntmps27
      go_wp2_with (go_at_call 32; with_reducible refine HN.out.mono ?_; rintro e w' ⟨rfl, rfl⟩)
      go_ret
      rw [e2.out]
      exact ⟨P, rfl, H.out, HG.out, LkF.refl⟩
    · have e2 := Lib.hid (e1.out.trans (if_neg hbig))
      have HRo := Lib.hid (Room_any HG.out (by omega) (by omega))
      clear e1
      by_cases hfull : g.n < g.place + needN k
      · have e3 := Lib.hid (e2.out.trans (if_pos hfull))
        have d1 : decide ((65535 : Int) < (needN k : Int)) = false := decide_eq_false (by omega)
        have d2 : decide ((g.n : Int) - (g.place : Int) < (needN k : Int)) = true := decide_eq_true (by omega)
        generalize needN k = q at HN d1 d2 hnl
        clear hbr hbr' e2 hbig hfull
        go_enter Try.func27, Try.ntmps27
        go_wp2_with (first | (go_at_call 32; with_reducible refine HN.out.mono ?_; rintro e w' ⟨rfl, rfl⟩) | (go_at_call 30; with_reducible refine HRo.out.mono ?_; rintro e w' ⟨rfl, y, rfl⟩))
        go_ret
        rw [e3.out]
        have hby : Below w.heap.size w (w.drewN y) := below_drewN (Below.refl _ _) y
        exact ⟨P, rfl, H.out.below hby, HG.out.below hby, LkF.of (DkF.new hby H.out.base)⟩
      · have e3 := Lib.hid (e2.out.trans (if_neg hfull))
        have HLy := Lib.hid (fun y => lay_any (H.out.below (below_drewN (Below.refl w.heap.size w) y)) (HG.out.below (below_drewN (Below.refl w.heap.size w) y)) HGd.out p k c b (HS.out.next (DkF.new (below_drewN (Below.refl _ _) y) H.out.base)) hkc hc hpc hpo (by omega) hfp (by omega) (by omega) hnum hses)
        have d1 : decide ((65535 : Int) < (needN k : Int)) = false := decide_eq_false (by omega)
        have d2 : decide ((g.n : Int) - (g.place : Int) < (needN k : Int)) = false := decide_eq_false (by omega)
        have hq : g.place + needN k ≤ 100000 := by omega
        generalize needN k = q at HN d1 d2 hnl HLy e3 hq
        clear hbr hbr' e2 hbig hfull
        go_enter Try.func27, Try.ntmps27
        go_wp2_with (first | (go_at_call 32; with_reducible refine HN.out.mono ?_; rintro e w' ⟨rfl, rfl⟩) | (go_at_call 30; with_reducible refine HRo.out.mono ?_; rintro e w' ⟨rfl, y, rfl⟩))
        with_reducible refine (HLy.out y).mono ?_
        clear HLy
        rintro e w1 ⟨P1, rfl, h1, hf0⟩
        have hf1 := (DkF.new (below_drewN (Below.refl w.heap.size w) y) H.out.base).trans hf0
        have hl1 := HG.out.d H.out hf1.bf
        clear hf0
        have H1 := Lib.hid h1
        have HF1 := Lib.hid hf1
        have HL1 := Lib.hid hl1
        clear h1 hf1 hl1
        generalize layGo g b q q 0 m = r at e3 H1 ⊢
        obtain ⟨m1, ec⟩ := r
        dsimp only at e3 H1 ⊢
        by_cases hec : ec = 0
        · subst hec
          have e4 := Lib.hid (e3.out.trans (if_pos rfl))
          have c3 := HL1.out.cell 3
          have c4 := HL1.out.cell 4
          simp only [lgcells] at c3 c4
          simp at c3 c4
          have f3 := HL1.out.frozen 3
          have f4 := HL1.out.frozen 4
          have t1 := HL1.out.turn (g' := { g with place := g.place + q }) 3 (.int .i64 ((g.place : Int) + q)) (by rw [← Int.natCast_add]; rfl) hBA (Below.refl B w1)
          have t2 := t1.1.turn (g' := { g with place := g.place + q, num := (g.num + 1) % 4294967296 }) 4 (.int .u32 ((g.num + 1) % 4294967296)) rfl hBA t1.2.1
          have hd2 := (H1.out.l HL1.out t1.2.2).l t1.1 t2.2.2
          have HD2 := Lib.hid hd2
          have HL2 := Lib.hid t2.1
          have HF2 : Hid (LkF B D L N P A w P1 _) := (LkF.of HF1.out).turn t2.2.1 (fun k hk => (t2.2.2 k hk).trans (t1.2.2 k hk))
          clear t1 t2 hd2
          go_wp2_with fail
          go_ret
          rw [e4.out]
          exact ⟨P1, rfl, HD2.out, HL2.out, HF2.out⟩
        · have e4 := Lib.hid (e3.out.trans (if_neg hec))
          have de : (ec != 0) = true := by simpa using hec
          have c6' := HL1.out.cell 6
          simp only [lgcells] at c6'
          simp at c6'
          have f6 := HL1.out.frozen 6
          have t1 := HL1.out.turn (g' := { g with broken := true }) 6 (.bool true) rfl hBA (Below.refl B w1)
          have HD2 := Lib.hid (H1.out.l HL1.out t1.2.2)
          have HL2 := Lib.hid t1.1
          have HF2 : Hid (LkF B D L N P A w P1 _) := (LkF.of HF1.out).turn t1.2.1 t1.2.2
          clear t1
          go_wp2_with fail
          go_ret
          rw [e4.out]
          exact ⟨P1, rfl, HD2.out, HL2.out, HF2.out⟩
end Go.Proofs.Yticiaiiedagalaa.dk
