/- What is done with both disks, one behind the other: they answer alike. -/
import Derived.Test.YtmnfaoihmcofiaaDZG
namespace Go.Proofs.Ytmnfaoihmcofiaa.dk
open Go.PlainAid Go.ChangeShapes Go.WideShapes Go.ChangeAt Go.RowKit

theorem Write_halt {B D L N : Nat} {P : Value} {m : Dk} {w : World} (h : DiskAt B D L N P m w) (hd : m.dead = false) (h0 : m.limit = 0) (i : Nat) (p : Option Addr) (k c : Nat) (hi : i < m.n) (hk : k ≤ 64) :
    Calls Try.prog 11 #[.pointer (some ⟨D, 0, none⟩), .int .i64 i, .slice p k c] w fun e w' => e = .returned (.int .i64 10) ∧ DiskAt B D L N P { m with dead := true } w' ∧ Bf B (Xd D L N P) w w' := by
  have hD := Dead_any h
  rw [hd] at hD
  have HD := Lib.hid hD
  have HSz := Lib.hid (Size_any h)
  clear hD
  have HS := Lib.hid (spend_dead h h0)
  have d1 : decide ((i : Int) < 0) = false := decide_eq_false (by omega)
  have d2 : decide ((m.n : Int) ≤ i) = false := decide_eq_false (by omega)
  have d3 : decide ((64 : Int) < k) = false := decide_eq_false (by omega)
  clear h0
  go_enter Try.func11, Try.ntmps11
  go_wp2_with (first | (go_at_call 21; with_reducible refine HD.out.mono ?_; rintro e w' ⟨rfl, rfl⟩) | (go_at_call 24; with_reducible refine HSz.out.mono ?_; rintro e w' ⟨rfl, rfl⟩))
  with_reducible refine HS.out.mono ?_
  rintro e w1 ⟨rfl, h1, hb1, hf1⟩
  have HF := Lib.hid (Bf.one (X := Xd D L N P) hb1 hf1 (.inl rfl))
  clear hf1
  go_wp2
  go_ret
  exact ⟨rfl, h1, HF.out⟩
theorem Sync_halt {B D L N : Nat} {P : Value} {m : Dk} {w : World} (h : DiskAt B D L N P m w) (hd : m.dead = false) (h0 : m.limit = 0) :
    Calls Try.prog 13 #[.pointer (some ⟨D, 0, none⟩)] w fun e w' => e = .returned (.int .i64 10) ∧ DiskAt B D L N P { m with dead := true } w' ∧ Bf B (Xd D L N P) w w' := by
  have hD := Dead_any h
  rw [hd] at hD
  have HD := Lib.hid hD
  have HS := Lib.hid (spend_dead h h0)
  clear hD h0
  go_enter Try.func13, Try.ntmps13
  go_wp2_with (go_at_call 21; with_reducible refine HD.out.mono ?_; rintro e w' ⟨rfl, rfl⟩)
  with_reducible refine HS.out.mono ?_
  rintro e w1 ⟨rfl, h1, hb1, hf1⟩
  have HF := Lib.hid (Bf.one (X := Xd D L N P) hb1 hf1 (.inl rfl))
  clear hf1
  go_wp2
  go_ret
  exact ⟨rfl, h1, HF.out⟩

/-- The thing that is done, laid in a block of its own. -/
def OAt (ob : Nat) (oc : Array Value) (W : World) : Prop := W.heap[ob]? = some (.cells oc 35 (0, 0))
theorem OAt.lt {ob : Nat} {oc : Array Value} {W : World} (h : OAt ob oc W) : ob < W.heap.size := (Array.getElem?_eq_some_iff.1 h).1
theorem OAt.cell {ob : Nat} {oc : Array Value} {W : World} (h : OAt ob oc W) (j : Nat) : W.cell? ⟨ob, j, none⟩ = oc[j]? := cell_of_row _ _ _ _ _ _ h
theorem OAt.below {ob : Nat} {oc : Array Value} {W W' : World} (h : OAt ob oc W) (hb : Below W.heap.size W W') : OAt ob oc W' := (hb.block _ h.lt).trans h
theorem OAt.d {B D L N B' ob : Nat} {P : Value} {oc : Array Value} {m : Dk} {w w' : World} (ho : OAt ob oc w) (h : DiskAt B D L N P m w) (hb : Bf B' (Xd D L N P) w w') : OAt ob oc w' := by
  refine (hb.fr ob ho.lt ?_).trans ho
  rintro (e | e | e | e)
  · exact cells_ne h.hD ho (by decide) e.symm
  · exact cells_ne h.hL ho (by decide) e.symm
  · exact cells_ne h.hN ho (by decide) e.symm
  · obtain ⟨cur2, hc⟩ := h.row e
    exact cells_ne hc ho (by decide) rfl
theorem OAt.r {D2 B2 B' ob : Nat} {S2 P2 : Value} {oc : Array Value} {r : Rk} {w w' : World} (ho : OAt ob oc w) (h2 : RefAt B2 D2 S2 P2 r w) (hb : Bf B' (Xr D2 S2 P2) w w') : OAt ob oc w' := by
  refine (hb.fr ob ho.lt ?_).trans ho
  rintro (e | e | e)
  · exact cells_ne h2.hD ho (by decide) e.symm
  · obtain ⟨cur2, hc⟩ := own_type h2.hS e
    exact cells_ne hc ho (by decide) rfl
  · obtain ⟨cur2, hc⟩ := own_type h2.hP e
    exact cells_ne hc ho (by decide) rfl

/-- Both disks in memory, alike, after k things. -/
structure Sx (w : World) (B D L N B2 D2 n k : Nat) (P S2 P2 : Value) (m : Dk) (r : Rk) (W : World) : Prop where
  d : DiskAt B D L N P m W
  rr : RefAt B2 D2 S2 P2 r W
  l : Like n m r
  wk : m.writes ≤ k
  pk : m.pend.length ≤ k
  b : Below w.heap.size w W
def St (w : World) (B D L N B2 D2 n k : Nat) (W : World) : Prop := ∃ P S2 P2 m r, Sx w B D L N B2 D2 n k P S2 P2 m r W
theorem Sx.below {w : World} {B D L N B2 D2 n k : Nat} {P S2 P2 : Value} {m : Dk} {r : Rk} {W W' : World} (h : Sx w B D L N B2 D2 n k P S2 P2 m r W) (hb : Below W.heap.size W W') : Sx w B D L N B2 D2 n k P S2 P2 m r W' :=
  { h with d := h.d.below hb, rr := h.rr.below hb, b := h.b.trans (hb.mono h.b.size) }
theorem St.below {w : World} {B D L N B2 D2 n k : Nat} {W W' : World} (h : St w B D L N B2 D2 n k W) (hb : Below W.heap.size W W') : St w B D L N B2 D2 n k W' := by
  obtain ⟨P, S2, P2, m, r, h⟩ := h
  exact ⟨P, S2, P2, m, r, h.below hb⟩
theorem St.more {w : World} {B D L N B2 D2 n k : Nat} {W : World} (h : St w B D L N B2 D2 n k W) : St w B D L N B2 D2 n (k + 1) W := by
  obtain ⟨P, S2, P2, m, r, h⟩ := h
  exact ⟨P, S2, P2, m, r, { h with wk := by have := h.wk; omega, pk := by have := h.pk; omega }⟩
/-- First the program's disk turns, then the document's. -/
theorem St.step {w : World} {B D L N B2 D2 n k k' : Nat} {P S2 P2 : Value} {m : Dk} {r : Rk} {W W' W'' : World} (h : Sx w B D L N B2 D2 n k P S2 P2 m r W) (h1 : w.heap.size ≤ B) (h2 : w.heap.size ≤ B2)
    {P' : Value} {m' : Dk} (hd : DiskAt B D L N P' m' W') (hb : Bf B (Xd D L N P) W W') {S2' P2' : Value} {r' : Rk} (hr : RefAt B2 D2 S2' P2' r' W'') (hb2 : Bf B2 (Xr D2 S2 P2) W' W'') (hl : Like n m' r') (wk : m'.writes ≤ k') (pk : m'.pend.length ≤ k')
    {ob : Nat} {oc : Array Value} (ho : OAt ob oc W) : OAt ob oc W'' ∧ St w B D L N B2 D2 n k' W'' :=
  ⟨(ho.d h.d hb).r (RefAt.other h.d h.rr hb) hb2, _, _, _, _, _, { d := DiskAt.ofRef hd (RefAt.other h.d h.rr hb) hb2, rr := hr, l := hl, wk := wk, pk := pk, b := (h.b.trans (hb.below.mono h1)).trans (hb2.below.mono h2) }⟩

/-- Two calls, one behind the other, end alike. -/
def Twice (f g : FuncId) (a b : Array Value) (v : Value) (T1 T : World → Prop) (W : World) : Prop := Calls Try.prog f a W fun e W' => (e = .returned v ∧ T1 W') ∧ Calls Try.prog g b W' fun e W'' => e = .returned v ∧ T W''
theorem Twice.go {f g : FuncId} {a b : Array Value} {v : Value} {T1 T : World → Prop} {W : World} (h : Twice f g a b v T1 T W) : Calls Try.prog f a W fun e W' => (e = .returned v ∧ T1 W') ∧ Calls Try.prog g b W' fun e W'' => e = .returned v ∧ T W'' := h
def StO (w : World) (B D L N B2 D2 n k ob : Nat) (oc : Array Value) (W : World) : Prop := OAt ob oc W ∧ St w B D L N B2 D2 n k W

theorem both_write {w : World} {B D L N B2 D2 n k : Nat} {W : World} {ob : Nat} {oc : Array Value} (h : StO w B D L N B2 D2 n k ob oc W) (hk : k < 500) (h1 : w.heap.size ≤ B) (h2 : w.heap.size ≤ B2)
    (a : Option Addr) (an c : Nat) (l : List Int) (hR : Rb w.heap.size W a an l) (x : Int) :
    ∃ ec : Int, Twice 11 12 #[.pointer (some ⟨D, 0, none⟩), .int .i64 x, .slice a an c] #[.pointer (some ⟨D2, 0, none⟩), .int .i64 x, .slice a an c] (.int .i64 ec) (OAt ob oc) (StO w B D L N B2 D2 n (k + 1) ob oc) W := by
  obtain ⟨ho, P, S2, P2, m, r, h⟩ := h
  have hd := h.d
  have hr := h.rr
  have hl := h.l
  have hwk := h.wk
  have hpk := h.pk
  have em : m.n = n := hl.mn
  have es : r.S.length = n := hl.sn
  have ed : m.dead = r.gone := hl.dead
  have el : m.limit = r.left := hl.lim
  have ec : m.writes = r.count := hl.cnt
  have ep : m.pend = r.P := hl.pend
  have epl : m.pend.length = r.P.length := by rw [ep]
  cases hdd : m.dead with
  | true =>
    refine ⟨10, (Write_dead hd hdd x _).mono ?_⟩
    rintro e W' ⟨rfl, rfl⟩
    refine ⟨⟨rfl, ho⟩, (rWrite_gone hr (by rw [← ed, hdd]) x _).mono ?_⟩
    rintro e W'' ⟨rfl, rfl⟩
    exact ⟨rfl, ho, St.more ⟨P, S2, P2, m, r, h⟩⟩
  | false =>
    by_cases hx : 0 ≤ x ∧ x < n ∧ an ≤ 64
    · obtain ⟨hx0, hx1, han⟩ := hx
      obtain ⟨i, rfl⟩ := Int.eq_ofNat_of_zero_le hx0
      have hi : i < n := by omega
      have hlim := hd.lim
      have hw0 := hd.wr0
      have hne' : 0 < an → ∀ bk off, a = some ⟨bk, off, none⟩ → bk ≠ D2 := by
        intro h0 bk off e
        obtain ⟨b', off', e', hlt, _⟩ := hR.2 h0
        rw [e] at e'
        have : bk = b' := by injection e' with e'; injection e'
        have := hr.bD
        omega
      rcases (show m.limit = 0 ∨ m.limit < 0 ∨ 0 < m.limit by omega) with h0 | h0 | h0
      · refine ⟨10, (Write_halt hd hdd h0 i a an c (by omega) han).mono ?_⟩
        rintro e W' ⟨rfl, hd', hb⟩
        have hr' := RefAt.other hd hr hb
        refine ⟨⟨rfl, ho.d hd hb⟩, (rWrite_stop hr' (by rw [← ed, hdd]) (by rw [← el, h0]) i a an c (by omega) han).mono ?_⟩
        rintro e W'' ⟨rfl, hr2, hb2, hf2⟩
        exact ⟨rfl, St.step h h1 h2 hd' hb hr2 (Bf.one hb2 hf2 (.inl rfl)) { hl with dead := rfl } (by show m.writes ≤ k + 1; omega) (by show m.pend.length ≤ k + 1; omega) ho⟩
      · refine ⟨0, (Write_ok (m1 := { m with writes := m.writes + 1 }) hd a an c l i han (by omega) hdd (hR.rd (by have := hd.base; omega)) rfl (by show m.pend.length ≤ 1000000; omega) (spend_free hd h0 (by omega))).mono ?_⟩
        rintro e W' ⟨P', rfl, hd', hb, _⟩
        have hr' := RefAt.other hd hr hb
        have hR' := (hR.below (hb.below.mono h1)).rd (by have := hd'.base; omega)
        refine ⟨⟨rfl, ho.d hd hb⟩, (rWrite_ok (r1 := { r with count := r.count + 1 }) hr' a an c l i (by omega) han (by rw [← ed, hdd]) hR' rfl rfl (by omega) (rspend_free hr' (by omega) (by omega)) hne').mono ?_⟩
        rintro e W'' ⟨P2', rfl, hr2, hb2⟩
        refine ⟨rfl, St.step h h1 h2 hd' hb hr2 hb2 ?_ (by show m.writes + 1 ≤ k + 1; omega) (by show (m.pend ++ [(i, pad l)]).length ≤ k + 1; rw [List.length_append, List.length_singleton]; omega) ho⟩
        exact hl.write i hi (pad l) (pad_length (by rw [hR.1]; exact han)) { m with writes := m.writes + 1 } { r with count := r.count + 1 } rfl rfl rfl rfl rfl el ed (by show m.writes + 1 = r.count + 1; omega)
      · refine ⟨0, (Write_ok (m1 := { m with limit := m.limit - 1, writes := m.writes + 1 }) hd a an c l i han (by omega) hdd (hR.rd (by have := hd.base; omega)) rfl (by show m.pend.length ≤ 1000000; omega) (spend_some hd h0 (by omega))).mono ?_⟩
        rintro e W' ⟨P', rfl, hd', hb, _⟩
        have hr' := RefAt.other hd hr hb
        have hR' := (hR.below (hb.below.mono h1)).rd (by have := hd'.base; omega)
        refine ⟨⟨rfl, ho.d hd hb⟩, (rWrite_ok (r1 := { r with left := r.left - 1, count := r.count + 1 }) hr' a an c l i (by omega) han (by rw [← ed, hdd]) hR' rfl rfl (by omega) (rspend_some hr' (by omega) (by omega)) hne').mono ?_⟩
        rintro e W'' ⟨P2', rfl, hr2, hb2⟩
        refine ⟨rfl, St.step h h1 h2 hd' hb hr2 hb2 ?_ (by show m.writes + 1 ≤ k + 1; omega) (by show (m.pend ++ [(i, pad l)]).length ≤ k + 1; rw [List.length_append, List.length_singleton]; omega) ho⟩
        exact hl.write i hi (pad l) (pad_length (by rw [hR.1]; exact han)) { m with limit := m.limit - 1, writes := m.writes + 1 } { r with left := r.left - 1, count := r.count + 1 } rfl rfl rfl rfl rfl (by show m.limit - 1 = r.left - 1; omega) ed (by show m.writes + 1 = r.count + 1; omega)
    · refine ⟨1, (Write_arg hd hdd x a an c (by omega)).mono ?_⟩
      rintro e W' ⟨rfl, rfl⟩
      refine ⟨⟨rfl, ho⟩, (rWrite_arg hr (by rw [← ed, hdd]) x a an c (by omega)).mono ?_⟩
      rintro e W'' ⟨rfl, rfl⟩
      exact ⟨rfl, ho, St.more ⟨P, S2, P2, m, r, h⟩⟩

theorem both_sync {w : World} {B D L N B2 D2 n k : Nat} {W : World} {ob : Nat} {oc : Array Value} (h : StO w B D L N B2 D2 n k ob oc W) (hk : k < 500) (h1 : w.heap.size ≤ B) (h2 : w.heap.size ≤ B2) :
    ∃ ec : Int, Twice 13 14 #[.pointer (some ⟨D, 0, none⟩)] #[.pointer (some ⟨D2, 0, none⟩)] (.int .i64 ec) (OAt ob oc) (StO w B D L N B2 D2 n (k + 1) ob oc) W := by
  obtain ⟨ho, P, S2, P2, m, r, h⟩ := h
  have hd := h.d
  have hr := h.rr
  have hl := h.l
  have hwk := h.wk
  have hpk := h.pk
  have ed : m.dead = r.gone := hl.dead
  have el : m.limit = r.left := hl.lim
  have ec : m.writes = r.count := hl.cnt
  have ep : m.pend = r.P := hl.pend
  cases hdd : m.dead with
  | true =>
    refine ⟨10, (Sync_dead hd hdd).mono ?_⟩
    rintro e W' ⟨rfl, rfl⟩
    refine ⟨⟨rfl, ho⟩, (rSync_gone hr (by rw [← ed, hdd])).mono ?_⟩
    rintro e W'' ⟨rfl, rfl⟩
    exact ⟨rfl, ho, St.more ⟨P, S2, P2, m, r, h⟩⟩
  | false =>
    have hlim := hd.lim
    have hw0 := hd.wr0
    rcases (show m.limit = 0 ∨ m.limit < 0 ∨ 0 < m.limit by omega) with h0 | h0 | h0
    · refine ⟨10, (Sync_halt hd hdd h0).mono ?_⟩
      rintro e W' ⟨rfl, hd', hb⟩
      have hr' := RefAt.other hd hr hb
      refine ⟨⟨rfl, ho.d hd hb⟩, (rSync_stop hr' (by rw [← ed, hdd]) (by rw [← el, h0])).mono ?_⟩
      rintro e W'' ⟨rfl, hr2, hb2, hf2⟩
      exact ⟨rfl, St.step h h1 h2 hd' hb hr2 (Bf.one hb2 hf2 (.inl rfl)) { hl with dead := rfl } (by show m.writes ≤ k + 1; omega) (by show m.pend.length ≤ k + 1; omega) ho⟩
    · refine ⟨0, (Sync_ok hd { m with writes := m.writes + 1 } hdd (by show m.pend.length ≤ 1000000; omega) (spend_free hd h0 (by omega))).mono ?_⟩
      rintro e W' ⟨rfl, hd', hb⟩
      have hr' := RefAt.other hd hr hb
      refine ⟨⟨rfl, ho.d hd hb⟩, (rSync_ok hr' { r with count := r.count + 1 } (by rw [← ed, hdd]) rfl rfl (rspend_free hr' (by omega) (by omega))).mono ?_⟩
      rintro e W'' ⟨rfl, hr2, hb2⟩
      refine ⟨rfl, St.step h h1 h2 hd' hb hr2 hb2 ?_ (by show m.writes + 1 ≤ k + 1; omega) (Nat.zero_le _) ho⟩
      exact hl.sync { m with writes := m.writes + 1 } { r with count := r.count + 1 } rfl rfl rfl rfl el ed (by show m.writes + 1 = r.count + 1; omega)
    · refine ⟨0, (Sync_ok hd { m with limit := m.limit - 1, writes := m.writes + 1 } hdd (by show m.pend.length ≤ 1000000; omega) (spend_some hd h0 (by omega))).mono ?_⟩
      rintro e W' ⟨rfl, hd', hb⟩
      have hr' := RefAt.other hd hr hb
      refine ⟨⟨rfl, ho.d hd hb⟩, (rSync_ok hr' { r with left := r.left - 1, count := r.count + 1 } (by rw [← ed, hdd]) rfl rfl (rspend_some hr' (by omega) (by omega))).mono ?_⟩
      rintro e W'' ⟨rfl, hr2, hb2⟩
      refine ⟨rfl, St.step h h1 h2 hd' hb hr2 hb2 ?_ (by show m.writes + 1 ≤ k + 1; omega) (Nat.zero_le _) ho⟩
      exact hl.sync { m with limit := m.limit - 1, writes := m.writes + 1 } { r with left := r.left - 1, count := r.count + 1 } rfl rfl rfl rfl (by show m.limit - 1 = r.left - 1; omega) ed (by show m.writes + 1 = r.count + 1; omega)

theorem both_limit {w : World} {B D L N B2 D2 n k : Nat} {W : World} {ob : Nat} {oc : Array Value} (h : StO w B D L N B2 D2 n k ob oc W) (h1 : w.heap.size ≤ B) (h2 : w.heap.size ≤ B2) (x : Int) (hx0 : -9223372036854775808 ≤ x) (hx1 : x ≤ 9223372036854775807) :
    Twice 15 16 #[.pointer (some ⟨D, 0, none⟩), .int .i64 x] #[.pointer (some ⟨D2, 0, none⟩), .int .i64 x] (.tuple #[]) (OAt ob oc) (StO w B D L N B2 D2 n (k + 1) ob oc) W := by
  obtain ⟨ho, P, S2, P2, m, r, h⟩ := h
  have hwk := h.wk
  have hpk := h.pk
  refine (Limit_any h.d x hx0 hx1).mono ?_
  rintro e W' ⟨rfl, hd', hb, hf⟩
  have hbf : Bf B (Xd D L N P) W W' := Bf.one hb hf (.inl rfl)
  refine ⟨⟨rfl, ho.d h.d hbf⟩, (rLimit_any (RefAt.other h.d h.rr hbf) x hx0 hx1).mono ?_⟩
  rintro e W'' ⟨rfl, hr2, hb2, hf2⟩
  exact ⟨rfl, St.step h h1 h2 hd' hbf hr2 (Bf.one hb2 hf2 (.inl rfl)) { h.l with lim := rfl } (by show m.writes ≤ k + 1; omega) (by show m.pend.length ≤ k + 1; omega) ho⟩

theorem both_reopen {w : World} {B D L N B2 D2 n k : Nat} {W : World} {ob : Nat} {oc : Array Value} (h : StO w B D L N B2 D2 n k ob oc W) (hk : k < 500) (h1 : w.heap.size ≤ B) (h2 : w.heap.size ≤ B2) (a : Option Addr) (an c : Nat) (kb : List Bool) (hkb : Kb w.heap.size W a an kb) (han : an ≤ 200) :
    Twice 17 18 #[.pointer (some ⟨D, 0, none⟩), .slice a an c] #[.pointer (some ⟨D2, 0, none⟩), .slice a an c] (.tuple #[]) (OAt ob oc) (StO w B D L N B2 D2 n (k + 1) ob oc) W := by
  obtain ⟨ho, P, S2, P2, m, r, h⟩ := h
  have hwk := h.wk
  have hpk := h.pk
  have kbm : ∀ (X : Nat) (V : World), w.heap.size ≤ X → Kb w.heap.size V a an kb → Kb X V a an kb := fun X V hX hK => ⟨hK.1, fun h0 => by
    obtain ⟨b, off, e, hlt, hc⟩ := hK.2 h0
    exact ⟨b, off, e, by omega, hc⟩⟩
  refine (Reopen_any h.d a an c kb (kbm _ _ h1 hkb) (by omega) (by omega)).mono ?_
  rintro e W' ⟨rfl, hd', hb⟩
  refine ⟨⟨rfl, ho.d h.d hb⟩, (rReopen_any (RefAt.other h.d h.rr hb) a an c kb (kbm _ _ h2 (hkb.below (hb.below.mono h1)))).mono ?_⟩
  rintro e W'' ⟨rfl, hr2, hb2⟩
  exact ⟨rfl, St.step h h1 h2 hd' hb hr2 hb2 (h.l.reopen kb) (by show m.writes ≤ k + 1; omega) (Nat.zero_le _) ho⟩

/-- What is read of both: the same error, and the same text. -/
def ReadTwo (D D2 : Nat) (x : Int) (T1 T : World → Prop) (W : World) : Prop := ∃ ec : Int, Calls Try.prog 19 #[.pointer (some ⟨D, 0, none⟩), .int .i64 x] W fun e W' => ∃ p pn pc, (e = .returned (.tuple #[.slice p pn pc, .int .i64 ec]) ∧ T1 W') ∧
  Calls Try.prog 20 #[.pointer (some ⟨D2, 0, none⟩), .int .i64 x] W' fun e W'' => ∃ q qn qc l l', e = .returned (.tuple #[.slice q qn qc, .int .i64 ec]) ∧ Rd W'' p pn l ∧ Rd W'' q qn l' ∧ strOf l = strOf l' ∧ T W''
theorem rd_row {W : World} {G n : Nat} {l : List Int} {t : TypeId} (h : W.heap[G]? = some (.cells (bcells l).toArray t (0, 0))) (hl : l.length = n) : Rd W (some ⟨G, 0, none⟩) n l := ⟨hl, fun _ => ⟨G, 0, rfl, (Array.getElem?_eq_some_iff.1 h).1, fun i hi => by
  rw [Nat.zero_add, cell_of_row _ _ _ _ _ _ h]
  simp only [bcells, List.getElem?_toArray, List.getElem?_map, List.getD_eq_getElem?_getD]
  rw [List.getElem?_eq_getElem (by omega)]
  rfl⟩⟩
theorem rd_nil (W : World) : Rd W none 0 [] := ⟨rfl, fun h => absurd h (by omega)⟩
theorem both_read {w : World} {B D L N B2 D2 n k : Nat} {W : World} {ob : Nat} {oc : Array Value} (h : StO w B D L N B2 D2 n k ob oc W) (x : Int) : ReadTwo D D2 x (OAt ob oc) (StO w B D L N B2 D2 n k ob oc) W := by
  obtain ⟨ho, P, S2, P2, m, r, h⟩ := h
  have hd := h.d
  have hr := h.rr
  have hl := h.l
  have em : m.n = n := hl.mn
  have es : r.S.length = n := hl.sn
  have ed : m.dead = r.gone := hl.dead
  cases hdd : m.dead with
  | true =>
    refine ⟨10, (Read_dead hd hdd x).mono ?_⟩
    rintro e W' ⟨rfl, rfl⟩
    refine ⟨_, _, _, ⟨rfl, ho⟩, (rRead_dead hr (by rw [← ed, hdd]) x).mono ?_⟩
    rintro e W'' ⟨rfl, rfl⟩
    exact ⟨_, _, _, [], [], rfl, rd_nil _, rd_nil _, rfl, ho, P, S2, P2, m, r, h⟩
  | false =>
    by_cases hx : 0 ≤ x ∧ x < n
    · obtain ⟨hx0, hx1⟩ := hx
      obtain ⟨i, rfl⟩ := Int.eq_ofNat_of_zero_le hx0
      have hi : i < n := by omega
      refine ⟨0, (Read_ok hd hdd i (by omega)).mono ?_⟩
      rintro e W' ⟨G, rfl, hG, hg, hd', hb⟩
      have hh := h.below hb
      refine ⟨_, _, _, ⟨rfl, ho.below hb⟩, (rRead_ok hh.rr (by rw [← ed, hdd]) i (by omega)).mono ?_⟩
      rintro e W'' ⟨G2, c2, rfl, hR2, hb2⟩
      have hGl : G < W'.heap.size := (Array.getElem?_eq_some_iff.1 hg).1
      refine ⟨_, _, _, _, _, rfl, rd_row ((hb2.block _ hGl).trans hg) (by unfold secOf; rw [List.length_take, List.length_drop]; have := hl.nl; omega), hR2, ?_, (ho.below hb).below hb2, P, S2, P2, m, r, hh.below hb2⟩
      rw [strOf_unstr, hl.now i hi]
    · refine ⟨1, (Read_arg hd hdd x (by omega)).mono ?_⟩
      rintro e W' ⟨rfl, rfl⟩
      refine ⟨_, _, _, ⟨rfl, ho⟩, (rRead_arg hr (by rw [← ed, hdd]) x (by omega)).mono ?_⟩
      rintro e W'' ⟨rfl, rfl⟩
      exact ⟨_, _, _, [], [], rfl, rd_nil _, rd_nil _, rfl, ho, P, S2, P2, m, r, h⟩
end Go.Proofs.Ytmnfaoihmcofiaa.dk
