/- The document's log: its small functions. -/
import Derived.Test.YticiaiiedagalaaPl21
import Derived.Test.YticiaiiedagalaaPl29
import Derived.BigQuiet
namespace Go.Proofs.Yticiaiiedagalaa.dk
open Go.PlainAid Go.ChangeShapes Go.WideShapes Go.ChangeAt Go.RowKit

theorem rNeed_any (w : World) (x : Int) (h1 : x ≤ 9223372036854775807) :
    Calls Try.prog 33 #[.int .i64 x] w fun e w' => e = .returned (.int .i64 (need x)) ∧ w = w' := by
  by_cases h : x ≤ 0
  · have d : decide (x ≤ 0) = true := decide_eq_true h
    have e : Hid (need x = 1) := by show need x = 1; unfold need; rw [if_pos h]
    go_enter Try.func33, Try.ntmps33
    go_wp2
    go_ret
    exact ⟨by rw [e.out]; rfl, rfl⟩
  · have d : decide (x ≤ 0) = false := decide_eq_false h
    have e : Hid (need x = (x - 1) / 48 + 1) := by show need x = _; unfold need; rw [if_neg h]
    have e3 : Hid (Int.tdiv (x - 1) 48 = (x - 1) / 48) := Int.tdiv_eq_ediv_of_nonneg (by omega)
    go_enter Try.func33, Try.ntmps33
    go_wp2
    go_ret
    refine ⟨?_, rfl⟩
    rw [e.out]
    try rfl
/-- The document's log in memory. -/
def RLogAt (A : Nat) (g : Lg) (W : World) : Prop := W.heap[A]? = some (.cells (lgcells g) 85 (0, 0))
theorem RLogAt.lt {A : Nat} {g : Lg} {W : World} (h : RLogAt A g W) : A < W.heap.size := (Array.getElem?_eq_some_iff.1 h).1
theorem RLogAt.cell {A : Nat} {g : Lg} {W : World} (h : RLogAt A g W) (j : Nat) : W.cell? ⟨A, j, none⟩ = (lgcells g)[j]? := cell_of_row _ _ _ _ _ _ h
theorem RLogAt.frozen {A : Nat} {g : Lg} {W : World} (h : RLogAt A g W) (j : Nat) : W.frozen? ⟨A, j, none⟩ = false := by
  simp [World.frozen?, show W.heap[A]? = _ from h]
theorem RLogAt.below {A : Nat} {g : Lg} {W W' : World} (h : RLogAt A g W) (hb : Below W.heap.size W W') : RLogAt A g W' := (hb.block _ h.lt).trans h
theorem RLogAt.turn {A B : Nat} {g g' : Lg} {W W0 : World} (h : RLogAt A g W) (j : Nat) (v : Value) (he : (lgcells g).setIfInBounds j v = lgcells g') (hB : B ≤ A) (hb : Below B W0 W) :
    RLogAt A g' (W.setCell ⟨A, j, none⟩ v) ∧ Below B W0 (W.setCell ⟨A, j, none⟩ v) ∧ Fr A W (W.setCell ⟨A, j, none⟩ v) := by
  rw [setCell_eq_setRow W A j _ _ _ v h, he]
  exact ⟨setRow_heap W A _ _ _ _ h, below_setRow hb hB _, fun k hk => setRow_other W A k _ hk⟩
theorem rReset_any {B A : Nat} {g : Lg} {w : World} (hg : RLogAt A g w) (hBA : B ≤ A) :
    Calls Try.prog 26 #[.pointer (some ⟨A, 0, none⟩)] w fun e w' => e = .returned (.tuple #[]) ∧ RLogAt A { g with place := 0 } w' ∧ Below B w w' ∧ Fr A w w' := by
  have c3 := hg.cell 3
  simp only [lgcells] at c3
  simp at c3
  have f3 := hg.frozen 3
  have HT := Lib.hid (hg.turn (g' := { g with place := 0 }) 3 (.int .i64 0) rfl hBA (Below.refl B w))
  clear hg
  go_enter Try.func26, Try.ntmps26
  go_wp2_with fail
  go_end0
  exact ⟨rfl, HT.out⟩
theorem rRoom_any {A : Nat} {g : Lg} {w : World} (hg : RLogAt A g w) (hn : g.n ≤ 1000000) (hp : g.place ≤ 1000000) :
    Calls Try.prog 31 #[.pointer (some ⟨A, 0, none⟩)] w fun e w' => e = .returned (.int .i64 ((g.n : Int) - g.place)) ∧ ∃ y, w' = w.drewN y := by
  have c2 := hg.cell 2
  have c3 := hg.cell 3
  simp only [lgcells] at c2 c3
  simp at c2 c3
  go_enter Try.func31, Try.ntmps31
  go_wp2_with fail
  go_quiet (fail)
  go_wp2
  go_ret
  exact ⟨rfl, _, rfl⟩
theorem four_or (a b c d : Int) (ha : 0 ≤ a ∧ a ≤ 255) (hb : 0 ≤ b ∧ b ≤ 255) (hc : 0 ≤ c ∧ c ≤ 255) (hd : 0 ≤ d ∧ d ≤ 255) :
    bits .or .u32 (bits .or .u32 (bits .or .u32 (a * 16777216) (b * 65536)) (c * 256)) d = a * 16777216 + b * 65536 + c * 256 + d := by
  rw [bits_join .u32 32 (by decide) (fun m a b => by rw [IntKind.wrap_u32]; omega) 24 (a * 16777216) (b * 65536) (by omega) (by omega) (by omega) (by omega) (by omega) (by omega)]
  rw [bits_join .u32 32 (by decide) (fun m a b => by rw [IntKind.wrap_u32]; omega) 16 (a * 16777216 + b * 65536) (c * 256) (by omega) (by omega) (by omega) (by omega) (by omega) (by omega)]
  rw [bits_join .u32 32 (by decide) (fun m a b => by rw [IntKind.wrap_u32]; omega) 8 (a * 16777216 + b * 65536 + c * 256) d (by omega) (by omega) (by omega) (by omega) (by omega) (by omega)]
theorem hi_four (l : List Int) (hl : l.length = 4) (hb : Bys l) : hi l = l.getD 0 0 * 16777216 + l.getD 1 0 * 65536 + l.getD 2 0 * 256 + l.getD 3 0 := by
  match l, hl with
  | [a, b, c, d], _ =>
    have := hb a (by simp); have := hb b (by simp); have := hb c (by simp); have := hb d (by simp)
    simp only [hi, List.foldl_cons, List.foldl_nil, List.getD_cons_zero, List.getD_cons_succ]
    omega
theorem hi_two (l : List Int) (hl : l.length = 2) (hb : Bys l) : hi l = l.getD 0 0 * 256 + l.getD 1 0 := by
  match l, hl with
  | [a, b], _ =>
    have := hb a (by simp); have := hb b (by simp)
    simp only [hi, List.foldl_cons, List.foldl_nil, List.getD_cons_zero, List.getD_cons_succ]
    omega
set_option maxHeartbeats 1000000 in
theorem rfour_any (w : World) (b off c : Nat) (l : List Int) (h : Rd w (some ⟨b, off, none⟩) 4 l) (hb : Bys l) :
    Calls Try.prog 56 #[.slice (some ⟨b, off, none⟩) 4 c] w fun e w' => e = .returned (.int .u32 (hi l)) ∧ ∃ y, w' = w.drewN y := by
  have hl := h.1
  have e := Lib.hid (hi_four l hl hb)
  have c0 := h.cell 0 (by omega)
  have c1 := h.cell 1 (by omega)
  have c2 := h.cell 2 (by omega)
  have c3 := h.cell 3 (by omega)
  rw [Nat.add_zero] at c0
  have hx : ∀ i, i < 4 → 0 ≤ l.getD i 0 ∧ l.getD i 0 ≤ 255 := fun i hi => by
    rw [List.getD_eq_getElem?_getD, List.getElem?_eq_getElem (by omega)]
    exact hb _ (List.getElem_mem _)
  have b0 := hx 0 (by omega)
  have b1 := hx 1 (by omega)
  have b2 := hx 2 (by omega)
  have b3 := hx 3 (by omega)
  rw [e.out]
  clear e h hb hx hl
  generalize l.getD 0 0 = x0 at c0 b0 ⊢
  generalize l.getD 1 0 = x1 at c1 b1 ⊢
  generalize l.getD 2 0 = x2 at c2 b2 ⊢
  generalize l.getD 3 0 = x3 at c3 b3 ⊢
  have ho := Lib.hid (four_or x0 x1 x2 x3 b0 b1 b2 b3)
  go_enter Try.func56, Try.ntmps56
  go_wp2_with fail
  go_quiet (fail)
  go_wp2
  trace_state
  go_ret
  exact ⟨by rw [← ho.out]; rfl, _, rfl⟩
end Go.Proofs.Yticiaiiedagalaa.dk
/- The document's sector of a piece. -/
namespace Go.Proofs.Yticiaiiedagalaa.dk
open Go.PlainAid Go.ChangeShapes Go.WideShapes Go.ChangeAt Go.RowKit

def hdr (s n : Int) (p c z : Nat) : List Int := [165, 90] ++ by4 s ++ by4 n ++ by2 p ++ by2 c ++ [(z : Int), 0]
theorem hdr_eq (s n : Int) (p c z : Nat) (hs : 0 ≤ s ∧ s ≤ 4294967295) (hn : 0 ≤ n ∧ n ≤ 4294967295) (hp : p ≤ 65535) (hc : c ≤ 65535) : [165, 90, s / 16777216, s / 65536 % 256, s / 256 % 256, s % 256, n / 16777216, n / 65536 % 256, n / 256 % 256, n % 256, (p : Int) / 256, (p : Int) % 256, (c : Int) / 256, (c : Int) % 256, (z : Int), 0] = hdr s n p c z := by
  have e1 : s / 16777216 % 256 = s / 16777216 := by omega
  have e2 : n / 16777216 % 256 = n / 16777216 := by omega
  have e3 : (p : Int) / 256 % 256 = (p : Int) / 256 := by omega
  have e4 : (c : Int) / 256 % 256 = (c : Int) / 256 := by omega
  unfold hdr by4 by2
  rw [e1, e2, e3, e4, Int.ediv_one, Int.ediv_one, Int.ediv_one, Int.ediv_one]
  rfl
set_option maxHeartbeats 4000000 in
set_option maxRecDepth 100000 in
theorem rsector_any {A : Nat} {g : Lg} {w : World} (hg : RLogAt A g w) (pl ct : Nat) (gb off k c : Nat) (l : List Int) (hR : Rd w (some ⟨gb, off, none⟩) k l) (hk : k ≤ 48) (hs : 0 ≤ g.ses ∧ g.ses ≤ 4294967295) (hn : 0 ≤ g.num ∧ g.num ≤ 4294967295) (hp : pl ≤ 65535) (hc : ct ≤ 65535) :
    Calls Try.prog 49 #[.pointer (some ⟨A, 0, none⟩), .int .i64 (pl : Int), .int .i64 (ct : Int), .slice (some ⟨gb, off, none⟩) k c] w fun e w' => ∃ p cc, e = .returned (.slice p (16 + k) cc) ∧ Rd w' p (16 + k) (hdr g.ses g.num pl ct k ++ l) ∧ Below w.heap.size w w' := by
  have c4 := hg.cell 4
  have c5 := hg.cell 5
  simp only [lgcells] at c4 c5
  simp at c4 c5
  have HG := Lib.hid hg
  have HR := Lib.hid hR
  generalize g.ses = s at c5 hs ⊢
  generalize g.num = nu at c4 hn ⊢
  obtain ⟨h2, hh2⟩ : ∃ x : List Int, x = [165, 90, s / 16777216, s / 65536 % 256, s / 256 % 256, s % 256, nu / 16777216, nu / 65536 % 256, nu / 256 % 256, nu % 256, (pl : Int) / 256, (pl : Int) % 256, (ct : Int) / 256, (ct : Int) % 256, (k : Int), 0] := ⟨_, rfl⟩
  have hl2 : h2.length = 16 := by rw [hh2]; rfl
  have hrow : RowB w.heap.size h2 (w.alloc (.cells #[.int .u8 165, .int .u8 90, .int .u8 (s / 16777216), .int .u8 (s / 65536 % 256), .int .u8 (s / 256 % 256), .int .u8 (s % 256), .int .u8 (nu / 16777216), .int .u8 (nu / 65536 % 256), .int .u8 (nu / 256 % 256), .int .u8 (nu % 256), .int .u8 ((pl : Int) / 256), .int .u8 ((pl : Int) % 256), .int .u8 ((ct : Int) / 256), .int .u8 ((ct : Int) % 256), .int .u8 (k : Int), .int .u8 0] 5)) := by rw [hh2]; exact heap_alloc_new _ _
  have hbV : Below w.heap.size w (w.alloc (.cells #[.int .u8 165, .int .u8 90, .int .u8 (s / 16777216), .int .u8 (s / 65536 % 256), .int .u8 (s / 256 % 256), .int .u8 (s % 256), .int .u8 (nu / 16777216), .int .u8 (nu / 65536 % 256), .int .u8 (nu / 256 % 256), .int .u8 (nu % 256), .int .u8 ((pl : Int) / 256), .int .u8 ((pl : Int) % 256), .int .u8 ((ct : Int) / 256), .int .u8 ((ct : Int) % 256), .int .u8 (k : Int), .int .u8 0] 5)) := (Below.refl _ _).alloc (Nat.le_refl _) _
  have hown := row_owned hrow hl2 (Nat.le_refl _) (by omega)
  have hkl := hR.1
  obtain ⟨po, co, w3, hr3, ho3, hb3, _⟩ := append_bytes (c := c) hown (hR.below hbV) (by omega) (by omega) hbV.size
  have e3 : (h2 ++ l).length = 16 + k := by rw [List.length_append, hl2, hkl]
  have hrd := owned_rd ho3
  rw [e3] at hr3 hrd
  rw [hl2] at hr3
  have hfin : Hid (Rd w3 po (16 + k) (hdr s nu pl ct k ++ l)) := by rw [← hdr_eq s nu pl ct k hs hn hp hc, ← hh2]; exact hrd
  have HB := Lib.hid (hbV.trans hb3)
  have HR3 := Lib.hid hr3
  clear hg hR hh2 hl2 hrow hbV hown hr3 ho3 hb3 e3 hrd
  go_enter Try.func49, Try.ntmps49
  go_wp2_with (at_builtin; refine wpList_append_run rfl _ _ _ rfl _ _ _ _ rfl rfl HR3.out ?_)
  go_ret
  exact ⟨po, co, rfl, hfin.out, HB.out⟩
end Go.Proofs.Yticiaiiedagalaa.dk
/- The document's disk, as it answers where it is like the program's. -/
namespace Go.Proofs.Yticiaiiedagalaa.dk
open Go.PlainAid Go.ChangeShapes Go.WideShapes Go.ChangeAt Go.RowKit

/-- Rows of other types stay as they stood. -/
def Tf (T : List TypeId) (w w' : World) : Prop := ∀ (k : Nat) (cur : Array Value) (t : TypeId), w.heap[k]? = some (.cells cur t (0, 0)) → t ∉ T → w'.heap[k]? = w.heap[k]?
theorem Tf.refl (T : List TypeId) (w : World) : Tf T w w := fun _ _ _ _ _ => rfl
theorem Tf.trans {T : List TypeId} {a b c : World} (h : Tf T a b) (k : Tf T b c) : Tf T a c := fun g cur t hg ht => (k g cur t ((h g cur t hg ht).trans hg) ht).trans (h g cur t hg ht)
theorem Tf.new {T : List TypeId} {a b : World} (h : Below a.heap.size a b) : Tf T a b := fun g _ _ hg _ => h.block g (Array.getElem?_eq_some_iff.1 hg).1
theorem Tf.wide {T T' : List TypeId} {a b : World} (h : Tf T a b) (hT : ∀ t ∈ T, t ∈ T') : Tf T' a b := fun g cur t hg ht => h g cur t hg (fun hm => ht (hT t hm))
/-- The types of the document's disk. -/
def TR : List TypeId := [44, 9, 93]
theorem Tf.r {B D B' : Nat} {S P : Value} {r : Rk} {w w' : World} (h : RefAt B D S P r w) (hb : Bf B' (Xr D S P) w w') : Tf TR w w' := fun g cur t hg ht => by
  refine hb.fr g (Array.getElem?_eq_some_iff.1 hg).1 ?_
  rintro (e | e | e)
  · exact cells_ne hg h.hD (by rintro rfl; exact ht (by decide)) e
  · obtain ⟨cur2, hc⟩ := own_type h.hS e
    exact cells_ne hg hc (by rintro rfl; exact ht (by decide)) rfl
  · obtain ⟨cur2, hc⟩ := own_type h.hP e
    exact cells_ne hg hc (by rintro rfl; exact ht (by decide)) rfl
theorem DiskAt.tf {T : List TypeId} {B D L N : Nat} {P : Value} {m : Dk} {w w' : World} (h : DiskAt B D L N P m w) (hb : Tf T w w') (h1 : 65 ∉ T) (h2 : 5 ∉ T) (h3 : 90 ∉ T) : DiskAt B D L N P m w' :=
  { h with
    hD := by rw [hb _ _ _ h.hD h1]; exact h.hD
    hL := by rw [hb _ _ _ h.hL h2]; exact h.hL
    hN := by rw [hb _ _ _ h.hN h2]; exact h.hN
    hP := own_block_keeps h.hP fun g hg => by
      obtain ⟨cur, hc⟩ := owned_type h.hP hg
      exact hb _ _ _ hc h3 }
theorem RLogAt.tf {T : List TypeId} {A : Nat} {g : Lg} {w w' : World} (h : RLogAt A g w) (hb : Tf T w w') (h1 : 85 ∉ T) : RLogAt A g w' := (hb _ _ _ h h1).trans h
theorem LogAt.tf {T : List TypeId} {A : Nat} {g : Lg} {w w' : World} (h : LogAt A g w) (hb : Tf T w w') (h1 : 76 ∉ T) : LogAt A g w' := (hb _ _ _ h h1).trans h
theorem RecAt.tf {T : List TypeId} {B : Nat} {v : Value} {R : List (List Int)} {vs : List Value} {w w' : World} (h : RecAt B v R vs w) (hb : Tf T w w') (h1 : 45 ∉ T) (h2 : 5 ∉ T) : RecAt B v R vs w' :=
  h.keep fun k cur t hk ht => hb k cur t hk (by rcases ht with rfl | rfl; exact h1; exact h2)
def RPost (B D N : Nat) (q : Dk × Int) (w : World) (e : Ending) (w' : World) : Prop := ∃ S' P' r', e = .returned (.int .i64 q.2) ∧ RefAt B D S' P' r' w' ∧ Like N q.1 r' ∧ Below B w w' ∧ Tf TR w w'
theorem rWrite_like {B D N : Nat} {S P : Value} {r : Rk} {m : Dk} {w : World} (h : RefAt B D S P r w) (hl : Like N m r) (p : Option Addr) (k c : Nat) (l : List Int) (hR : Rd w p k l) (hne : 0 < k → ∀ bk off, p = some ⟨bk, off, none⟩ → bk ≠ D) (hw : m.writes < 990) (hp : m.pend.length < 990) (x : Int) :
    Calls Try.prog 20 #[.pointer (some ⟨D, 0, none⟩), .int .i64 x, .slice p k c] w (RPost B D N (dWrite m x l) w) := by
  have em : m.n = N := hl.mn
  have es : r.S.length = N := hl.sn
  have ed : m.dead = r.gone := hl.dead
  have el : m.limit = r.left := hl.lim
  have ec : m.writes = r.count := hl.cnt
  have ep : m.pend = r.P := hl.pend
  have epl : m.pend.length = r.P.length := by rw [ep]
  have hkl := hR.1
  have hc0 := h.c0
  unfold dWrite
  cases hdd : m.dead with
  | true =>
    rw [if_pos rfl]
    refine (rWrite_gone h (by rw [← ed, hdd]) x _).mono ?_
    rintro e w' ⟨rfl, rfl⟩
    exact ⟨S, P, r, rfl, h, hl, Below.refl _ _, Tf.refl _ _⟩
  | false =>
    rw [if_neg (by decide)]
    by_cases hx : x < 0 ∨ (m.n : Int) ≤ x ∨ 64 < l.length
    · rw [if_pos hx]
      refine (rWrite_arg h (by rw [← ed, hdd]) x p k c (by omega)).mono ?_
      rintro e w' ⟨rfl, rfl⟩
      exact ⟨S, P, r, rfl, h, hl, Below.refl _ _, Tf.refl _ _⟩
    · rw [if_neg hx]
      obtain ⟨i, rfl⟩ := Int.eq_ofNat_of_zero_le (show 0 ≤ x by omega)
      have hi : i < N := by omega
      have hk : k ≤ 64 := by omega
      by_cases h0 : m.limit = 0
      · rw [if_pos h0]
        refine (rWrite_stop h (by rw [← ed, hdd]) (by rw [← el, h0]) i p k c (by omega) hk).mono ?_
        rintro e w' ⟨rfl, hr2, hb2, hf2⟩
        exact ⟨_, _, _, rfl, hr2, { hl with dead := rfl }, hb2, Tf.r h (Bf.one hb2 hf2 (.inl rfl))⟩
      · rw [if_neg h0, Int.toNat_natCast]
        have hpl : (pad l).length = 64 := pad_length (by omega)
        rcases (show m.limit < 0 ∨ 0 < m.limit by omega) with h1 | h1
        · have esp : spent m = { m with writes := m.writes + 1 } := by unfold spent; rw [if_pos h1]
          rw [esp]
          refine (rWrite_ok (r1 := { r with count := r.count + 1 }) h p k c l i (by omega) hk (by rw [← ed, hdd]) hR rfl rfl (by omega) (rspend_free h (by omega) (by omega)) hne).mono ?_
          rintro e w' ⟨P2, rfl, hr2, hb2⟩
          exact ⟨_, _, _, rfl, hr2, hl.write i hi (pad l) hpl { m with writes := m.writes + 1 } { r with count := r.count + 1 } rfl rfl rfl rfl rfl el ed (by show m.writes + 1 = r.count + 1; omega), hb2.below, Tf.r h hb2⟩
        · have esp : spent m = { m with limit := m.limit - 1, writes := m.writes + 1 } := by unfold spent; rw [if_neg (by omega)]
          rw [esp]
          refine (rWrite_ok (r1 := { r with left := r.left - 1, count := r.count + 1 }) h p k c l i (by omega) hk (by rw [← ed, hdd]) hR rfl rfl (by omega) (rspend_some h (by omega) (by omega)) hne).mono ?_
          rintro e w' ⟨P2, rfl, hr2, hb2⟩
          exact ⟨_, _, _, rfl, hr2, hl.write i hi (pad l) hpl { m with limit := m.limit - 1, writes := m.writes + 1 } { r with left := r.left - 1, count := r.count + 1 } rfl rfl rfl rfl rfl (by show m.limit - 1 = r.left - 1; omega) ed (by show m.writes + 1 = r.count + 1; omega), hb2.below, Tf.r h hb2⟩
theorem rSync_like {B D N : Nat} {S P : Value} {r : Rk} {m : Dk} {w : World} (h : RefAt B D S P r w) (hl : Like N m r) (hw : m.writes < 990) :
    Calls Try.prog 22 #[.pointer (some ⟨D, 0, none⟩)] w (RPost B D N (dSync m) w) := by
  have ed : m.dead = r.gone := hl.dead
  have el : m.limit = r.left := hl.lim
  have ec : m.writes = r.count := hl.cnt
  have ep : m.pend = r.P := hl.pend
  have hc0 := h.c0
  unfold dSync
  cases hdd : m.dead with
  | true =>
    rw [if_pos rfl]
    refine (rSync_gone h (by rw [← ed, hdd])).mono ?_
    rintro e w' ⟨rfl, rfl⟩
    exact ⟨S, P, r, rfl, h, hl, Below.refl _ _, Tf.refl _ _⟩
  | false =>
    rw [if_neg (by decide)]
    by_cases h0 : m.limit = 0
    · rw [if_pos h0]
      refine (rSync_stop h (by rw [← ed, hdd]) (by rw [← el, h0])).mono ?_
      rintro e w' ⟨rfl, hr2, hb2, hf2⟩
      exact ⟨_, _, _, rfl, hr2, { hl with dead := rfl }, hb2, Tf.r h (Bf.one hb2 hf2 (.inl rfl))⟩
    · rw [if_neg h0]
      rcases (show m.limit < 0 ∨ 0 < m.limit by omega) with h1 | h1
      · have esp : spent m = { m with writes := m.writes + 1 } := by unfold spent; rw [if_pos h1]
        rw [esp]
        refine (rSync_ok h { r with count := r.count + 1 } (by rw [← ed, hdd]) rfl rfl (rspend_free h (by omega) (by omega))).mono ?_
        rintro e w' ⟨rfl, hr2, hb2⟩
        exact ⟨_, _, _, rfl, hr2, hl.sync { m with writes := m.writes + 1 } { r with count := r.count + 1 } rfl rfl rfl rfl el ed (by show m.writes + 1 = r.count + 1; omega), hb2.below, Tf.r h hb2⟩
      · have esp : spent m = { m with limit := m.limit - 1, writes := m.writes + 1 } := by unfold spent; rw [if_neg (by omega)]
        rw [esp]
        refine (rSync_ok h { r with left := r.left - 1, count := r.count + 1 } (by rw [← ed, hdd]) rfl rfl (rspend_some h (by omega) (by omega))).mono ?_
        rintro e w' ⟨rfl, hr2, hb2⟩
        exact ⟨_, _, _, rfl, hr2, hl.sync { m with limit := m.limit - 1, writes := m.writes + 1 } { r with left := r.left - 1, count := r.count + 1 } rfl rfl rfl rfl (by show m.limit - 1 = r.left - 1; omega) ed (by show m.writes + 1 = r.count + 1; omega), hb2.below, Tf.r h hb2⟩
end Go.Proofs.Yticiaiiedagalaa.dk
