/- The document's whole record at a place. -/
import Derived.Test.YticiaiiedagalaaPl31
namespace Go.Proofs.Yticiaiiedagalaa.dk
open Go.PlainAid Go.ChangeShapes Go.WideShapes Go.ChangeAt Go.RowKit

/-- Sectors that were read: a slice of slices of 64 bytes. -/
structure SecAt (B : Nat) (p : Option Addr) (n cc : Nat) (R : Nat → List Int) (vs : List Value) (W : World) : Prop where
  own : W.ownsRow B 45 1 (.slice p n cc) n vs
  el : ∀ i, i < n → ∃ q c, vs[i]? = some (.slice (some ⟨q, 0, none⟩) 64 c) ∧ 64 ≤ c ∧ q < W.heap.size ∧ (∃ cur fr, W.heap[q]? = some (.cells cur 5 fr)) ∧ Rd W (some ⟨q, 0, none⟩) 64 (R i)
theorem SecAt.below {B : Nat} {p : Option Addr} {n cc : Nat} {R : Nat → List Int} {vs : List Value} {W W' : World} (h : SecAt B p n cc R vs W) (hb : Below W.heap.size W W') : SecAt B p n cc R vs W' := by
  refine ⟨owned_keeps h.own fun g hg => ?_, fun i hi => ?_⟩
  · obtain ⟨cur, hc⟩ := owned_type h.own hg
    exact hb.block g (Array.getElem?_eq_some_iff.1 hc).1
  · obtain ⟨q, c, e1, e2, e3, e4, e5⟩ := h.el i hi
    obtain ⟨cur, fr, e4⟩ := e4
    exact ⟨q, c, e1, e2, Nat.lt_of_lt_of_le e3 hb.size, ⟨cur, fr, (hb.block q e3).trans e4⟩, e5.below hb⟩
theorem SecAt.get {B : Nat} {p : Option Addr} {n cc : Nat} {R : Nat → List Int} {vs : List Value} {W : World} (h : SecAt B p n cc R vs W) (i : Nat) (hi : i < n) : ∃ g q c, p = some ⟨g, 0, none⟩ ∧ W.cell? ⟨g, i, none⟩ = some (.slice (some ⟨q, 0, none⟩) 64 c) ∧ 64 ≤ c ∧ q < W.heap.size ∧ Rd W (some ⟨q, 0, none⟩) 64 (R i) ∧ g < W.heap.size := by
  obtain ⟨q, c, e, e2, e3, _, e5⟩ := h.el i hi
  rcases h.own.2 with ⟨hv, h0⟩ | ⟨g, cap, cur, hv, _⟩
  · omega
  · injection hv with hp _ _
    have := h.own.cells (g := g) (by rw [hp]; rfl) i _ e
    rw [add_off, Nat.zero_add] at this
    exact ⟨g, q, c, hp, this, e2, e3, e5, World.block_lt_of_cell? _ _ this⟩
theorem row5 {V : World} {A : Nat} {t : TypeId} {a0 a1 a2 a3 a4 : Value} (h : V.heap[A]? = some (.cells #[a0, a1, a2, a3, a4] t (0, 0))) : (V.cell? ⟨A, 0, none⟩ = some a0 ∧ V.cell? ⟨A, 1, none⟩ = some a1 ∧ V.cell? ⟨A, 2, none⟩ = some a2 ∧ V.cell? ⟨A, 3, none⟩ = some a3 ∧ V.cell? ⟨A, 4, none⟩ = some a4) ∧ (V.frozen? ⟨A, 0, none⟩ = false ∧ V.frozen? ⟨A, 1, none⟩ = false ∧ V.frozen? ⟨A, 2, none⟩ = false ∧ V.frozen? ⟨A, 3, none⟩ = false ∧ V.frozen? ⟨A, 4, none⟩ = false) := by
  have hc := fun j => cell_of_row V A j _ _ _ h
  refine ⟨⟨hc 0, hc 1, hc 2, hc 3, hc 4⟩, ?_, ?_, ?_, ?_, ?_⟩ <;> exact frozen_of_row _ _ _ _ _ h
theorem alloc_old_ (W : World) (x : Obj) (A : Nat) (h : A < W.heap.size) : (W.alloc x).heap[A]? = W.heap[A]? := by
  show (W.heap.push x)[A]? = _
  rw [Array.getElem?_push_lt h, Array.getElem?_eq_getElem h]
theorem alloc_row {W : World} {A : Nat} {o x : Obj} (h : W.heap[A]? = some o) : (W.alloc x).heap[A]? = some o := (alloc_old_ W x A (Array.getElem?_eq_some_iff.1 h).1).trans h
def pzero : Value := .agg #[.int .u32 0, .int .u32 0, .int .i64 0, .int .i64 0, .slice none 0 0]
def WholePost (w : World) (F : Nat → Option (List Int)) (m : Nat) (e : Ending) (w' : World) : Prop := Below w.heap.size w w' ∧ ((wholeF F m = 0 ∧ e = .returned (.tuple #[pzero, .int .i64 0])) ∨
  ∃ p0 q qc, F 0 = some p0 ∧ wholeF F m ≠ 0 ∧ e = .returned (.tuple #[.agg #[.int .u32 (fS p0), .int .u32 (fN p0), .int .i64 (fP p0), .int .i64 (fC p0), .slice q (joinF F (wholeF F m)).length qc], .int .i64 (wholeF F m : Int)]) ∧ w'.ownsRow w.heap.size 5 1 (.slice q (joinF F (wholeF F m)).length qc) (joinF F (wholeF F m)).length (bcells (joinF F (wholeF F m))))
set_option maxHeartbeats 4000000 in
set_option maxRecDepth 100000 in
theorem rwhole_none {B : Nat} {p : Option Addr} {n cc : Nat} {R : Nat → List Int} {vs : List Value} {w : World} (h : SecAt B p n cc R vs w) (hby : ∀ i, i < n → Bys (R i)) (k : Nat) (hk : k ≤ n)
    (h0 : k < n → isP (R k) = false) : Calls Try.prog 43 #[.slice p n cc, .int .i64 (k : Int)] w (WholePost w (fun i => pcOf (R (k + i))) (n - k)) := by
  by_cases hkn : k < n
  · have d1 : decide ((n : Int) ≤ (k : Int)) = false := decide_eq_false (by omega)
    have hw : Hid (wholeF (fun i => pcOf (R (k + i))) (n - k) = 0) := wholeF_none (by omega) (by show pcOf (R k) = none; unfold pcOf; rw [if_neg (by rw [h0 hkn]; decide)])
    have hA : (w.alloc (.cells #[.int .u32 0, .int .u32 0, .int .i64 0, .int .i64 0, .slice none 0 0] 81)).heap[w.heap.size]? = _ := heap_alloc_new _ _
    have hb0 : Below w.heap.size w (w.alloc (.cells #[.int .u32 0, .int .u32 0, .int .i64 0, .int .i64 0, .slice none 0 0] 81)) := (Below.refl _ _).alloc (Nat.le_refl _) _
    have hs0 : (w.alloc (.cells #[.int .u32 0, .int .u32 0, .int .i64 0, .int .i64 0, .slice none 0 0] 81)).heap.size = w.heap.size + 1 := by simp [World.alloc, -World.alloc_eq]
    obtain ⟨g, q, c, rfl, hc, hc64, hql, hrd, hgl⟩ := (h.below hb0).get k hkn
    have hrv : rv (R k) q 0 c = pzero := by unfold rv; rw [if_neg (by rw [h0 hkn]; decide)]; rfl
    have HRd := Lib.hid (rread_any _ q 0 c (R k) hrd (hby k hkn) hc64 hql)
    rw [hrv, h0 hkn] at HRd
    have HA := Lib.hid hA
    have HB0 := Lib.hid hb0
    clear hrd hA hb0 hrv h
    go_enter Try.func43, Try.ntmps43
    go_wp2_with fail
    with_reducible refine HRd.out.mono ?_
    clear HRd
    rintro e w1 ⟨rfl, hb1⟩
    have hA1 : w1.heap[w.heap.size]? = _ := (hb1.block w.heap.size (by omega)).trans HA.out
    have hB1 := HB0.out.trans (hb1.mono (by omega))
    have hA2 := alloc_row (x := .cells #[.int .u32 0, .int .u32 0, .int .i64 0, .int .i64 0, .slice none 0 0] 81) hA1
    obtain ⟨⟨q0, q1, q2, q3, q4⟩, z0, z1, z2, z3, z4⟩ := row5 hA2
    have hb2 : Below w.heap.size w (w1.alloc (.cells #[.int .u32 0, .int .u32 0, .int .i64 0, .int .i64 0, .slice none 0 0] 81)) := hB1.alloc hB1.size _
    have hS := set5 (v0 := .int .u32 0) (v1 := .int .u32 0) (v2 := .int .i64 0) (v3 := .int .i64 0) (v4 := .slice none 0 0) hA2 (Nat.le_refl _) hb2
    have HS := Lib.hid hS
    unfold pzero
    clear hb1 hA1 hB1 HB0 HA hA2 hb2 hS
    go_wp2_with fail
    refine bodyPost_ret (results_row_tmp rfl _ _ w.heap.size _ _ _ _ rfl HS.out.1 Try.underlying81 rfl (by kernel_rfl)) rfl ⟨HS.out.2, .inl ⟨hw.out, rfl⟩⟩
  · have d1 : decide ((n : Int) ≤ (k : Int)) = true := decide_eq_true (by omega)
    have hw : Hid (wholeF (fun i => pcOf (R (k + i))) (n - k) = 0) := by
      show wholeF _ _ = 0
      rw [show n - k = 0 by omega]
      have := wholeF_le (fun i => pcOf (R (k + i))) 0
      omega
    clear h
    go_enter Try.func43, Try.ntmps43
    go_wp2_with fail
    refine bodyPost_ret (results_row_tmp rfl _ _ w.heap.size _ _ _ _ rfl (heap_alloc_new _ _) Try.underlying81 rfl (by kernel_rfl)) rfl ⟨(Below.refl _ _).alloc (Nat.le_refl _) _, .inl ⟨hw.out, rfl⟩⟩
theorem hi2_bd {l : List Int} (hl : l.length = 2) (hb : Bys l) : hi l ≤ 65535 := by
  rw [hi_two l hl hb]
  match l, hl with
  | [a, b], _ =>
    have := hb a (by simp); have := hb b (by simp)
    simp only [List.getD_cons_zero, List.getD_cons_succ]
    omega
/-- What is held at the loop's head. -/
structure WL (w : World) (a6 : Nat) (p0 : List Int) (cn : Nat) (sl : Value) (F : Nat → Option (List Int)) (j : Nat) (qo : Option Addr) (qc : Nat) (W : World) : Prop where
  r4 : W.heap[w.heap.size]? = some (.cells #[.int .u32 0, .int .u32 0, .int .i64 0, .int .i64 0, .slice none 0 0] 81 (0, 0))
  r6 : W.heap[a6]? = some (.cells #[.int .u32 (fS p0), .int .u32 (fN p0), .int .i64 (fP p0), .int .i64 (cn : Int), sl] 81 (0, 0))
  r8 : W.heap[a6 + 1]? = some (.cells #[.int .u32 (fS p0), .int .u32 (fN p0), .int .i64 (fP p0), .int .i64 (cn : Int), .slice qo (joinF F j).length qc] 81 (0, 0))
  own : W.ownsRow w.heap.size 5 1 (.slice qo (joinF F j).length qc) (joinF F j).length (bcells (joinF F j))
  b : Below w.heap.size w W
theorem WL.more {w : World} {a6 : Nat} {p0 : List Int} {cn : Nat} {sl : Value} {F : Nat → Option (List Int)} {j : Nat} {qo : Option Addr} {qc : Nat} {W W' : World} (h : WL w a6 p0 cn sl F j qo qc W) (hb : Below W.heap.size W W') : WL w a6 p0 cn sl F j qo qc W' :=
  ⟨(hb.block _ (Array.getElem?_eq_some_iff.1 h.r4).1).trans h.r4, (hb.block _ (Array.getElem?_eq_some_iff.1 h.r6).1).trans h.r6, (hb.block _ (Array.getElem?_eq_some_iff.1 h.r8).1).trans h.r8, owned_keeps h.own fun g hg => hb.block g (h.own.lt g hg).2, h.b.trans (hb.mono h.b.size)⟩
/-- A row of another type stays where a row grows. -/
theorem row_grown {W W' : World} {B n : Nat} {v : Value} {xs : List Value} {t t2 : TypeId} {A : Nat} {cs : Array Value} (hg : W.grownBy W' v.ownBlock) (ho : W.ownsRow B t 1 v n xs) (h : W.heap[A]? = some (.cells cs t2 (0, 0))) (ht : t2 ≠ t) : W'.heap[A]? = some (.cells cs t2 (0, 0)) := by
  refine (hg.block A (Array.getElem?_eq_some_iff.1 h).1 fun e => ?_).trans h
  obtain ⟨cur, hc⟩ := owned_type ho e.symm
  exact row_ne h hc ht rfl
set_option maxHeartbeats 8000000 in
set_option maxRecDepth 100000 in
theorem rwhole_piece {B : Nat} {p : Option Addr} {n cc : Nat} {R : Nat → List Int} {vs : List Value} {w : World} (h : SecAt B p n cc R vs w) (hby : ∀ i, i < n → Bys (R i)) (hR : ∀ i, i < n → (R i).length = 64) (k : Nat) (hn : n ≤ 64) (hk : k < n)
    (h0 : isP (R k) = true) : Calls Try.prog 43 #[.slice p n cc, .int .i64 (k : Int)] w (WholePost w (fun i => pcOf (R (k + i))) (n - k)) := by
  have d1 : decide ((n : Int) ≤ (k : Int)) = false := decide_eq_false (by omega)
  obtain ⟨F, hF⟩ : ∃ F : Nat → Option (List Int), F = fun i => pcOf (R (k + i)) := ⟨_, rfl⟩
  have hF0 : Hid (F 0 = some (R k)) := by show F 0 = _; rw [hF]; show pcOf (R k) = _; unfold pcOf; rw [if_pos h0]
  have HF := Lib.hid hF
  rw [← hF]
  clear hF
  have hA : (w.alloc (.cells #[.int .u32 0, .int .u32 0, .int .i64 0, .int .i64 0, .slice none 0 0] 81)).heap[w.heap.size]? = _ := heap_alloc_new _ _
  have hb0 : Below w.heap.size w (w.alloc (.cells #[.int .u32 0, .int .u32 0, .int .i64 0, .int .i64 0, .slice none 0 0] 81)) := (Below.refl _ _).alloc (Nat.le_refl _) _
  have hs0 : (w.alloc (.cells #[.int .u32 0, .int .u32 0, .int .i64 0, .int .i64 0, .slice none 0 0] 81)).heap.size = w.heap.size + 1 := by simp [World.alloc, -World.alloc_eq]
  have HSw := Lib.hid h
  have hS0 := h.below hb0
  obtain ⟨g, q, c, rfl, hc, hc64, hql, hrd, hgl⟩ := hS0.get k hk
  have hrv : rv (R k) q 0 c = .agg #[.int .u32 (fS (R k)), .int .u32 (fN (R k)), .int .i64 (fP (R k)), .int .i64 (fC (R k)), .slice (some ⟨q, 16, none⟩) (fB (R k)).length (c - 16)] := by unfold rv; rw [if_pos h0, Nat.zero_add]
  have HRd := Lib.hid (rread_any _ q 0 c (R k) hrd (hby k hk) hc64 hql)
  rw [hrv, h0] at HRd
  have HA := Lib.hid hA
  have HB0 := Lib.hid hb0
  have HBy := Lib.hid hby
  have HLn := Lib.hid hR
  obtain ⟨p0, hp0⟩ : ∃ p0, p0 = R k := ⟨_, rfl⟩
  have hC : 0 ≤ fC p0 ∧ fC p0 ≤ 65535 := ⟨(hi_bd _).1, by rw [hp0]; exact hi2_bd (by rw [List.length_take, List.length_drop, hR k hk]; rfl) (((hby k hk).drop _).take _)⟩
  rw [← hp0] at hF0 HRd
  have ws : IntKind.i64.wrap ((k : Int) + fC p0) = (k : Int) + fC p0 := by rw [IntKind.wrap_i64]; omega
  generalize (fB p0).length = vB at HRd
  clear hrd hA hb0 hrv h hS0 hby hR hp0
  go_enter Try.func43, Try.ntmps43
  go_wp2_with fail
  with_reducible refine HRd.out.mono ?_
  clear HRd
  rintro e w1 ⟨rfl, hb1⟩
  have hA1 : w1.heap[w.heap.size]? = _ := (hb1.block w.heap.size (by omega)).trans HA.out
  have hB1 := HB0.out.trans (hb1.mono (by omega))
  have HA1 := Lib.hid hA1
  have HB1 := Lib.hid hB1
  clear hb1 hA1 hB1 HB0 HA
  by_cases hbad : fC p0 < 1 ∨ (n : Int) < (k : Int) + fC p0
  · have hw : Hid (wholeF F (n - k) = 0) := by
      show wholeF F (n - k) = 0
      by_cases hz : (fC p0).toNat = 0
      · rw [wholeF_full (F := F) (k := n - k) (by omega) hF0.out (by omega) (fun i hi => by omega), hz]
      · exact wholeF_long (F := F) (by omega) hF0.out (by omega)
    have hA2 := alloc_row (x := (.cells #[.int .u32 (fS p0), .int .u32 (fN p0), .int .i64 (fP p0), .int .i64 (fC p0), .slice (some ⟨q, 16, none⟩) vB (c - 16)] 81)) HA1.out
    obtain ⟨⟨q0, q1, q2, q3, q4⟩, z0, z1, z2, z3, z4⟩ := row5 hA2
    have hb2 : Below w.heap.size w (w1.alloc (.cells #[.int .u32 (fS p0), .int .u32 (fN p0), .int .i64 (fP p0), .int .i64 (fC p0), .slice (some ⟨q, 16, none⟩) vB (c - 16)] 81)) := HB1.out.alloc HB1.out.size _
    have hS := set5 (v0 := .int .u32 0) (v1 := .int .u32 0) (v2 := .int .i64 0) (v3 := .int .i64 0) (v4 := .slice none 0 0) hA2 (Nat.le_refl _) hb2
    have HS := Lib.hid hS
    clear hA2 hb2 hS
    by_cases hz : fC p0 < 1
    · have d2 : decide (fC p0 < 1) = true := decide_eq_true hz
      go_wp2_with fail
      refine bodyPost_ret (results_row_tmp rfl _ _ w.heap.size _ _ _ _ rfl HS.out.1 Try.underlying81 rfl (by kernel_rfl)) rfl ⟨HS.out.2, .inl ⟨hw.out, rfl⟩⟩
    · have d2 : decide (fC p0 < 1) = false := decide_eq_false hz
      have d3 : decide ((n : Int) < (k : Int) + fC p0) = true := decide_eq_true (by omega)
      go_wp2_with fail
      refine bodyPost_ret (results_row_tmp rfl _ _ w.heap.size _ _ _ _ rfl HS.out.1 Try.underlying81 rfl (by kernel_rfl)) rfl ⟨HS.out.2, .inl ⟨hw.out, rfl⟩⟩
  · have d2 : decide (fC p0 < 1) = false := decide_eq_false (by omega)
    have d3 : decide ((n : Int) < (k : Int) + fC p0) = false := decide_eq_false (by omega)
    obtain ⟨cn, hcn⟩ := Int.eq_ofNat_of_zero_le hC.1
    have hcn1 : 1 ≤ cn := by omega
    have hcn2 : k + cn ≤ n := by omega
    have hcnT : (fC p0).toNat = cn := by omega
    rw [hcn] at d2 d3 ws ⊢
    have HCn := Lib.hid hcn
    clear hcn hbad hC
    obtain ⟨a6, ha6⟩ : ∃ a, a = w1.heap.size := ⟨_, rfl⟩
    go_wp2_with fail
    have hW0 : WL w a6 p0 cn (.slice (some ⟨q, 16, none⟩) vB (c - 16)) F 0 none 0 ((w1.alloc (.cells #[.int .u32 (fS p0), .int .u32 (fN p0), .int .i64 (fP p0), .int .i64 (cn : Int), .slice (some ⟨q, 16, none⟩) vB (c - 16)] 81)).alloc (.cells #[.int .u32 (fS p0), .int .u32 (fN p0), .int .i64 (fP p0), .int .i64 (cn : Int), .slice none 0 0] 81)) := ⟨alloc_row (alloc_row HA1.out), by rw [ha6]; exact alloc_row (heap_alloc_new _ _), by
      rw [ha6, show w1.heap.size + 1 = (w1.alloc (.cells #[.int .u32 (fS p0), .int .u32 (fN p0), .int .i64 (fP p0), .int .i64 (cn : Int), .slice (some ⟨q, 16, none⟩) vB (c - 16)] 81)).heap.size by simp [World.alloc, -World.alloc_eq]]; exact heap_alloc_new _ _, World.ownsRow_nil _ _ _ _, (HB1.out.alloc HB1.out.size _).alloc (by have := HB1.out.size; simp [World.alloc, -World.alloc_eq]; omega) _⟩
    have HW0 := Lib.hid hW0
    rw [← ha6]
    have hwa : w.heap.size < a6 := by rw [ha6]; exact (Array.getElem?_eq_some_iff.1 HA1.out).1
    clear hW0 HA1 HB1 ha6
    generalize (w1.alloc _).alloc _ = wz at HW0 ⊢
    go_loopw [9] (fun v9 wr => ∃ (j : Nat) (qo : Option Addr) (qc : Nat), v9 = .int .i64 (j : Int) ∧ j ≤ cn ∧ Hid (∀ i, i < j → okAt p0 cn i (F i) = true) ∧ Hid (WL w a6 p0 cn (.slice (some ⟨q, 16, none⟩) vB (c - 16)) F j qo qc wr)) (fun v9 _ => cn - (intOf v9).toNat)
    case atStart => exact ⟨0, none, 0, rfl, Nat.zero_le _, fun i hi => absurd hi (by omega), HW0.out⟩
    case round =>
      clear HW0
      obtain ⟨j, qo, qc, rfl, hj, HOk, HW⟩ := hrel
      obtain ⟨⟨s0, s1, s2, s3, s4⟩, _⟩ := row5 HW.out.r6
      by_cases hjn : j < cn
      · have dj : decide ((j : Int) < (cn : Int)) = true := decide_eq_true (by omega)
        have hSr := HSw.out.below HW.out.b
        obtain ⟨g', q2, c2, eg, hc2, hc264, hq2l, hrd2, hgl2⟩ := hSr.get (k + j) (by omega)
        obtain rfl : g = g' := by injection eg with e; injection e
        have wkj : IntKind.i64.wrap ((k : Int) + (j : Int)) = ((k + j : Nat) : Int) := by rw [IntKind.wrap_i64]; omega
        have hp1 : ∃ x, x = R (k + j) := ⟨_, rfl⟩
        obtain ⟨p1, hp1⟩ := hp1
        have hFj : F j = pcOf p1 := by rw [HF.out, hp1]
        have hl1 : p1.length = 64 := by rw [hp1]; exact HLn.out _ (by omega)
        have hby1 : Bys p1 := by rw [hp1]; exact HBy.out _ (by omega)
        rw [← hp1] at hrd2
        have HRd := Lib.hid (rread_any wr q2 0 c2 p1 hrd2 hby1 hc264 hq2l)
        have HRd1 := Lib.hid hrd2
        have HBy1 := Lib.hid hby1
        clear hSr eg hp1 hrd2 hby1
        by_cases hp : isP p1 = true
        · have hrv : rv p1 q2 0 c2 = .agg #[.int .u32 (fS p1), .int .u32 (fN p1), .int .i64 (fP p1), .int .i64 (fC p1), .slice (some ⟨q2, 16, none⟩) (fB p1).length (c2 - 16)] := by unfold rv; rw [if_pos hp, Nat.zero_add]
          rw [hrv, hp] at HRd
          have hFs : pcOf p1 = some p1 := by unfold pcOf; rw [if_pos hp]
          rw [hFs] at hFj
          have hz1 : fZ p1 ≤ 48 := by
            unfold isP at hp
            simp only [Bool.and_eq_true, decide_eq_true_eq] at hp
            exact hp.2
          have hz0 : 0 ≤ fZ p1 := by
            unfold fZ
            rw [List.getD_eq_getElem?_getD, List.getElem?_eq_getElem (by rw [hl1]; omega)]
            exact (HBy1.out _ (List.getElem_mem _)).1
          have hbl : (fB p1).length = (fZ p1).toNat := by unfold fB; rw [List.length_take, List.length_drop, hl1]; omega
          have wj1 : IntKind.i64.wrap ((j : Int) + 1) = (j : Int) + 1 := by rw [IntKind.wrap_i64]; omega
          have HBl := Lib.hid hbl
          clear hrv hFs hbl
          go_wp2_with fail
          with_reducible refine HRd.out.mono ?_
          clear HRd
          rintro e w2 ⟨rfl, hb2⟩
          have HW2 := Lib.hid (HW.out.more hb2)
          have HRd2 := Lib.hid (HRd1.out.below hb2)
          clear hb2 HRd1 s0 s1 s2 s3 s4
          by_cases e1 : fS p1 = fS p0
          · have f1 : (fS p1 != fS p0) = false := by simpa using e1
            have E1 := Lib.hid e1
            clear e1
            by_cases e2 : fN p1 = fN p0
            · have f2 : (fN p1 != fN p0) = false := by simpa using e2
              have E2 := Lib.hid e2
              clear e2
              by_cases e3 : fC p1 = (cn : Int)
              · have f3 : (fC p1 != (cn : Int)) = false := by simpa using e3
                have E3 := Lib.hid e3
                clear e3
                by_cases e4 : fP p1 = (j : Int)
                · have f4 : (fP p1 != (j : Int)) = false := by simpa using e4
                  have E4 := Lib.hid e4
                  clear e4
                  by_cases e5 : j + 1 < cn ∧ (fB p1).length ≠ 48
                  · have hbadj : okAt p0 cn j (some p1) = false := by
                      have : ¬ (j + 1 < cn → fZ p1 = 48) := fun hh => by have := hh e5.1; have := HBl.out; omega
                      simp [okAt, this]
                    have f5 : decide ((j : Int) + 1 < (cn : Int)) = true := decide_eq_true (by omega)
                    have f6 : (((fB p1).length : Int) != 48) = true := by rw [bne_iff_ne]; omega
                    have hw : Hid (wholeF F (n - k) = 0) := wholeF_bad (F := F) (by omega) hF0.out j (by rw [hcnT]; exact hjn) (by omega) (by rw [hcnT, hFj]; exact hbadj)
                    have hb3 : Below w.heap.size w (w2.alloc (.cells #[.int .u32 (fS p1), .int .u32 (fN p1), .int .i64 (fP p1), .int .i64 (fC p1), .slice (some ⟨q2, 16, none⟩) (fB p1).length (c2 - 16)] 81)) := HW2.out.b.alloc HW2.out.b.size _
                    have hS := set5 (v0 := .int .u32 0) (v1 := .int .u32 0) (v2 := .int .i64 0) (v3 := .int .i64 0) (v4 := .slice none 0 0) (alloc_row (x := (.cells #[.int .u32 (fS p1), .int .u32 (fN p1), .int .i64 (fP p1), .int .i64 (fC p1), .slice (some ⟨q2, 16, none⟩) (fB p1).length (c2 - 16)] 81)) HW2.out.r4) (Nat.le_refl _) hb3
                    have HS := Lib.hid hS
                    obtain ⟨⟨q0, q1, q2', q3, q4⟩, z0, z1, z2, z3, z4⟩ := row5 (alloc_row (x := (.cells #[.int .u32 (fS p1), .int .u32 (fN p1), .int .i64 (fP p1), .int .i64 (fC p1), .slice (some ⟨q2, 16, none⟩) (fB p1).length (c2 - 16)] 81)) HW2.out.r4)
                    obtain ⟨⟨t0, t1, t2, t3, t4⟩, _⟩ := row5 (alloc_row (x := (.cells #[.int .u32 (fS p1), .int .u32 (fN p1), .int .i64 (fP p1), .int .i64 (fC p1), .slice (some ⟨q2, 16, none⟩) (fB p1).length (c2 - 16)] 81)) HW2.out.r6)
                    clear hb3 hS HW2 HW HOk
                    go_wp2_with fail
                    refine bodyPost_ret (results_row_tmp rfl _ _ w.heap.size _ _ _ _ rfl HS.out.1 Try.underlying81 rfl (by kernel_rfl)) rfl ⟨HS.out.2, .inl ⟨hw.out, rfl⟩⟩
                  · have hq48 : j + 1 < cn → fZ p1 = 48 := fun hh => by
                      have : (fB p1).length = 48 := Classical.byContradiction fun hx => e5 ⟨hh, hx⟩
                      have := HBl.out
                      omega
                    have hokj : okAt p0 cn j (some p1) = true := by
                      show (decide (fP p1 = j) && decide (j + 1 < cn → fZ p1 = 48) && decide (fS p1 = fS p0) && decide (fN p1 = fN p0) && decide (fC p1 = fC p0)) = true
                      rw [decide_eq_true E4.out, decide_eq_true hq48, decide_eq_true E1.out, decide_eq_true E2.out, decide_eq_true (E3.out.trans HCn.out.symm)]
                      rfl
                    have hVb : Below w2.heap.size w2 (w2.alloc (.cells #[.int .u32 (fS p1), .int .u32 (fN p1), .int .i64 (fP p1), .int .i64 (fC p1), .slice (some ⟨q2, 16, none⟩) (fB p1).length (c2 - 16)] 81)) := (Below.refl _ _).alloc (Nat.le_refl _) _
                    have hWV := HW2.out.more hVb
                    have hrd3 := (HRd2.out.below hVb).cut 16 (fB p1).length (by have := HBl.out; omega)
                    have hfB : (p1.drop 16).take (fB p1).length = fB p1 := by unfold fB; simp
                    rw [hfB, Nat.zero_add] at hrd3
                    have hjl := joinF_len F (fun i l hl => by
                      rw [HF.out] at hl
                      have hl2 : pcOf (R (k + i)) = some l := hl
                      unfold pcOf at hl2
                      split at hl2
                      · rename_i h1; cases hl2; exact h1
                      · cases hl2) j
                    obtain ⟨po, co, w3, hr3, ho3, hb3, hg3⟩ := append_bytes (c := c2 - 16) hWV.own hrd3 (by omega) (by have := HBl.out; omega) hWV.b.size
                    have ej : joinF F (j + 1) = joinF F j ++ fB p1 := joinF_succ F j p1 hFj
                    rw [← ej] at hr3 ho3
                    have x4 := row_grown hg3 hWV.own hWV.r4 (by decide)
                    have x6 := row_grown hg3 hWV.own hWV.r6 (by decide)
                    have x8 := row_grown hg3 hWV.own hWV.r8 (by decide)
                    have y8 := setStep (j := 4) (v := .slice po (joinF F (j + 1)).length co) (by omega : w.heap.size ≤ a6 + 1) ⟨x8, hWV.b.trans hb3⟩
                    have hwl : w.heap.size < a6 + 1 := by omega
                    have HN := Lib.hid (show WL w a6 p0 cn (.slice (some ⟨q, 16, none⟩) vB (c - 16)) F (j + 1) po co (w3.setCell ⟨a6 + 1, 4, none⟩ (.slice po (joinF F (j + 1)).length co)) from ⟨(heap_setCell_other _ _ _ _ (by show w.heap.size ≠ a6 + 1; omega)).trans x4, (heap_setCell_other _ _ _ _ (by show a6 ≠ a6 + 1; omega)).trans x6, y8.1, owned_keeps ho3 fun g hg => heap_setCell_other _ _ _ _ (by
                      obtain ⟨cur, hc⟩ := owned_type ho3 hg
                      exact row_ne hc x8 (by decide)), y8.2⟩)
                    have HOk2 : Hid (∀ i, i < j + 1 → okAt p0 cn i (F i) = true) := fun i hi => by
                      by_cases hij : i = j
                      · subst hij; rw [hFj]; exact hokj
                      · exact HOk.out i (by omega)
                    obtain ⟨⟨t0, t1, t2, t3, t4⟩, _⟩ := row5 hWV.r6
                    obtain ⟨⟨b0, b1, b2, b3, b4⟩, _⟩ := row5 hWV.r8
                    obtain ⟨⟨c0, c1, c2', c3, c4⟩, y0, y1, y2, y3, y4⟩ := row5 x8
                    have HR3 := Lib.hid hr3
                    have HE48 : Hid (j + 1 < cn → (((fB p1).length : Int) != 48) = false) := fun hh => by
                      have := hq48 hh
                      have := HBl.out
                      have h48 : (fB p1).length = 48 := by omega
                      rw [h48]; rfl
                    clear hVb hWV hrd3 hfB hjl hr3 ho3 hb3 hg3 ej x4 x6 x8 y8 hokj hq48 e5 HW HW2 HOk HRd2
                    generalize (joinF F (j + 1)).length = L1 at HN HR3 ⊢
                    by_cases hlast : j + 1 < cn
                    · have f5 : decide ((j : Int) + 1 < (cn : Int)) = true := decide_eq_true (by omega)
                      have f6 := HE48.out hlast
                      go_wp2_with (at_builtin; refine wpList_append_run rfl _ _ _ rfl _ _ _ _ rfl rfl HR3.out ?_)
                      constructor
                      · exact ⟨j + 1, po, co, by go_num, by omega, HOk2.out, HN.out⟩
                      · show cn - ((j : Int) + 1).toNat < cn - (j : Int).toNat
                        omega
                    · have f5 : decide ((j : Int) + 1 < (cn : Int)) = false := decide_eq_false (by omega)
                      go_wp2_with (at_builtin; refine wpList_append_run rfl _ _ _ rfl _ _ _ _ rfl rfl HR3.out ?_)
                      constructor
                      · exact ⟨j + 1, po, co, by go_num, by omega, HOk2.out, HN.out⟩
                      · show cn - ((j : Int) + 1).toNat < cn - (j : Int).toNat
                        omega
                · have f4 : (fP p1 != (j : Int)) = true := by simpa using e4
                  have hbadj : okAt p0 cn j (some p1) = false := by simp [okAt, e4]
                  have hw : Hid (wholeF F (n - k) = 0) := wholeF_bad (F := F) (by omega) hF0.out j (by rw [hcnT]; exact hjn) (by omega) (by rw [hcnT, hFj]; exact hbadj)
                  have hb3 : Below w.heap.size w (w2.alloc (.cells #[.int .u32 (fS p1), .int .u32 (fN p1), .int .i64 (fP p1), .int .i64 (fC p1), .slice (some ⟨q2, 16, none⟩) (fB p1).length (c2 - 16)] 81)) := HW2.out.b.alloc HW2.out.b.size _
                  have hS := set5 (v0 := .int .u32 0) (v1 := .int .u32 0) (v2 := .int .i64 0) (v3 := .int .i64 0) (v4 := .slice none 0 0) (alloc_row (x := (.cells #[.int .u32 (fS p1), .int .u32 (fN p1), .int .i64 (fP p1), .int .i64 (fC p1), .slice (some ⟨q2, 16, none⟩) (fB p1).length (c2 - 16)] 81)) HW2.out.r4) (Nat.le_refl _) hb3
                  have HS := Lib.hid hS
                  obtain ⟨⟨q0, q1, q2', q3, q4⟩, z0, z1, z2, z3, z4⟩ := row5 (alloc_row (x := (.cells #[.int .u32 (fS p1), .int .u32 (fN p1), .int .i64 (fP p1), .int .i64 (fC p1), .slice (some ⟨q2, 16, none⟩) (fB p1).length (c2 - 16)] 81)) HW2.out.r4)
                  obtain ⟨⟨t0, t1, t2, t3, t4⟩, _⟩ := row5 (alloc_row (x := (.cells #[.int .u32 (fS p1), .int .u32 (fN p1), .int .i64 (fP p1), .int .i64 (fC p1), .slice (some ⟨q2, 16, none⟩) (fB p1).length (c2 - 16)] 81)) HW2.out.r6)
                  clear hb3 hS HW2 HW HOk
                  go_wp2_with fail
                  refine bodyPost_ret (results_row_tmp rfl _ _ w.heap.size _ _ _ _ rfl HS.out.1 Try.underlying81 rfl (by kernel_rfl)) rfl ⟨HS.out.2, .inl ⟨hw.out, rfl⟩⟩
              · have f3 : (fC p1 != (cn : Int)) = true := by simpa using e3
                have hbadj : okAt p0 cn j (some p1) = false := by
                  have : ¬ fC p1 = fC p0 := by rw [HCn.out]; exact e3
                  simp [okAt, this]
                have hw : Hid (wholeF F (n - k) = 0) := wholeF_bad (F := F) (by omega) hF0.out j (by rw [hcnT]; exact hjn) (by omega) (by rw [hcnT, hFj]; exact hbadj)
                have hb3 : Below w.heap.size w (w2.alloc (.cells #[.int .u32 (fS p1), .int .u32 (fN p1), .int .i64 (fP p1), .int .i64 (fC p1), .slice (some ⟨q2, 16, none⟩) (fB p1).length (c2 - 16)] 81)) := HW2.out.b.alloc HW2.out.b.size _
                have hS := set5 (v0 := .int .u32 0) (v1 := .int .u32 0) (v2 := .int .i64 0) (v3 := .int .i64 0) (v4 := .slice none 0 0) (alloc_row (x := (.cells #[.int .u32 (fS p1), .int .u32 (fN p1), .int .i64 (fP p1), .int .i64 (fC p1), .slice (some ⟨q2, 16, none⟩) (fB p1).length (c2 - 16)] 81)) HW2.out.r4) (Nat.le_refl _) hb3
                have HS := Lib.hid hS
                obtain ⟨⟨q0, q1, q2', q3, q4⟩, z0, z1, z2, z3, z4⟩ := row5 (alloc_row (x := (.cells #[.int .u32 (fS p1), .int .u32 (fN p1), .int .i64 (fP p1), .int .i64 (fC p1), .slice (some ⟨q2, 16, none⟩) (fB p1).length (c2 - 16)] 81)) HW2.out.r4)
                obtain ⟨⟨t0, t1, t2, t3, t4⟩, _⟩ := row5 (alloc_row (x := (.cells #[.int .u32 (fS p1), .int .u32 (fN p1), .int .i64 (fP p1), .int .i64 (fC p1), .slice (some ⟨q2, 16, none⟩) (fB p1).length (c2 - 16)] 81)) HW2.out.r6)
                clear hb3 hS HW2 HW HOk
                go_wp2_with fail
                refine bodyPost_ret (results_row_tmp rfl _ _ w.heap.size _ _ _ _ rfl HS.out.1 Try.underlying81 rfl (by kernel_rfl)) rfl ⟨HS.out.2, .inl ⟨hw.out, rfl⟩⟩
            · have f2 : (fN p1 != fN p0) = true := by simpa using e2
              have hbadj : okAt p0 cn j (some p1) = false := by simp [okAt, e2]
              have hw : Hid (wholeF F (n - k) = 0) := wholeF_bad (F := F) (by omega) hF0.out j (by rw [hcnT]; exact hjn) (by omega) (by rw [hcnT, hFj]; exact hbadj)
              have hb3 : Below w.heap.size w (w2.alloc (.cells #[.int .u32 (fS p1), .int .u32 (fN p1), .int .i64 (fP p1), .int .i64 (fC p1), .slice (some ⟨q2, 16, none⟩) (fB p1).length (c2 - 16)] 81)) := HW2.out.b.alloc HW2.out.b.size _
              have hS := set5 (v0 := .int .u32 0) (v1 := .int .u32 0) (v2 := .int .i64 0) (v3 := .int .i64 0) (v4 := .slice none 0 0) (alloc_row (x := (.cells #[.int .u32 (fS p1), .int .u32 (fN p1), .int .i64 (fP p1), .int .i64 (fC p1), .slice (some ⟨q2, 16, none⟩) (fB p1).length (c2 - 16)] 81)) HW2.out.r4) (Nat.le_refl _) hb3
              have HS := Lib.hid hS
              obtain ⟨⟨q0, q1, q2', q3, q4⟩, z0, z1, z2, z3, z4⟩ := row5 (alloc_row (x := (.cells #[.int .u32 (fS p1), .int .u32 (fN p1), .int .i64 (fP p1), .int .i64 (fC p1), .slice (some ⟨q2, 16, none⟩) (fB p1).length (c2 - 16)] 81)) HW2.out.r4)
              obtain ⟨⟨t0, t1, t2, t3, t4⟩, _⟩ := row5 (alloc_row (x := (.cells #[.int .u32 (fS p1), .int .u32 (fN p1), .int .i64 (fP p1), .int .i64 (fC p1), .slice (some ⟨q2, 16, none⟩) (fB p1).length (c2 - 16)] 81)) HW2.out.r6)
              clear hb3 hS HW2 HW HOk
              go_wp2_with fail
              refine bodyPost_ret (results_row_tmp rfl _ _ w.heap.size _ _ _ _ rfl HS.out.1 Try.underlying81 rfl (by kernel_rfl)) rfl ⟨HS.out.2, .inl ⟨hw.out, rfl⟩⟩
          · have f1 : (fS p1 != fS p0) = true := by simpa using e1
            have hbadj : okAt p0 cn j (some p1) = false := by simp [okAt, e1]
            have hw : Hid (wholeF F (n - k) = 0) := wholeF_bad (F := F) (by omega) hF0.out j (by rw [hcnT]; exact hjn) (by omega) (by rw [hcnT, hFj]; exact hbadj)
            have hb3 : Below w.heap.size w (w2.alloc (.cells #[.int .u32 (fS p1), .int .u32 (fN p1), .int .i64 (fP p1), .int .i64 (fC p1), .slice (some ⟨q2, 16, none⟩) (fB p1).length (c2 - 16)] 81)) := HW2.out.b.alloc HW2.out.b.size _
            have hS := set5 (v0 := .int .u32 0) (v1 := .int .u32 0) (v2 := .int .i64 0) (v3 := .int .i64 0) (v4 := .slice none 0 0) (alloc_row (x := (.cells #[.int .u32 (fS p1), .int .u32 (fN p1), .int .i64 (fP p1), .int .i64 (fC p1), .slice (some ⟨q2, 16, none⟩) (fB p1).length (c2 - 16)] 81)) HW2.out.r4) (Nat.le_refl _) hb3
            have HS := Lib.hid hS
            obtain ⟨⟨q0, q1, q2', q3, q4⟩, z0, z1, z2, z3, z4⟩ := row5 (alloc_row (x := (.cells #[.int .u32 (fS p1), .int .u32 (fN p1), .int .i64 (fP p1), .int .i64 (fC p1), .slice (some ⟨q2, 16, none⟩) (fB p1).length (c2 - 16)] 81)) HW2.out.r4)
            obtain ⟨⟨t0, t1, t2, t3, t4⟩, _⟩ := row5 (alloc_row (x := (.cells #[.int .u32 (fS p1), .int .u32 (fN p1), .int .i64 (fP p1), .int .i64 (fC p1), .slice (some ⟨q2, 16, none⟩) (fB p1).length (c2 - 16)] 81)) HW2.out.r6)
            clear hb3 hS HW2 HW HOk
            go_wp2_with fail
            refine bodyPost_ret (results_row_tmp rfl _ _ w.heap.size _ _ _ _ rfl HS.out.1 Try.underlying81 rfl (by kernel_rfl)) rfl ⟨HS.out.2, .inl ⟨hw.out, rfl⟩⟩
        · have hpf : isP p1 = false := by simpa using hp
          have hrv : rv p1 q2 0 c2 = .agg #[.int .u32 0, .int .u32 0, .int .i64 0, .int .i64 0, .slice none 0 0] := by unfold rv; rw [if_neg hp]
          rw [hrv, hpf] at HRd
          have hFs : pcOf p1 = none := by unfold pcOf; rw [if_neg hp]
          rw [hFs] at hFj
          have hbadj : okAt p0 cn j none = false := rfl
          go_wp2_with fail
          with_reducible refine HRd.out.mono ?_
          clear HRd
          rintro e w2 ⟨rfl, hb2⟩
          have HW2 := Lib.hid (HW.out.more hb2)
          clear hb2 s0 s1 s2 s3 s4
          have hw : Hid (wholeF F (n - k) = 0) := wholeF_bad (F := F) (by omega) hF0.out j (by rw [hcnT]; exact hjn) (by omega) (by rw [hcnT, hFj]; exact hbadj)
          have hb3 : Below w.heap.size w (w2.alloc (.cells #[.int .u32 0, .int .u32 0, .int .i64 0, .int .i64 0, .slice none 0 0] 81)) := HW2.out.b.alloc HW2.out.b.size _
          have hS := set5 (v0 := .int .u32 0) (v1 := .int .u32 0) (v2 := .int .i64 0) (v3 := .int .i64 0) (v4 := .slice none 0 0) (alloc_row (x := (.cells #[.int .u32 0, .int .u32 0, .int .i64 0, .int .i64 0, .slice none 0 0] 81)) HW2.out.r4) (Nat.le_refl _) hb3
          have HS := Lib.hid hS
          obtain ⟨⟨q0, q1, q2', q3, q4⟩, z0, z1, z2, z3, z4⟩ := row5 (alloc_row (x := (.cells #[.int .u32 0, .int .u32 0, .int .i64 0, .int .i64 0, .slice none 0 0] 81)) HW2.out.r4)
          obtain ⟨⟨t0, t1, t2, t3, t4⟩, _⟩ := row5 (alloc_row (x := (.cells #[.int .u32 0, .int .u32 0, .int .i64 0, .int .i64 0, .slice none 0 0] 81)) HW2.out.r6)
          clear hb3 hS HW2 HW HOk
          go_wp2_with fail
          refine bodyPost_ret (results_row_tmp rfl _ _ w.heap.size _ _ _ _ rfl HS.out.1 Try.underlying81 rfl (by kernel_rfl)) rfl ⟨HS.out.2, .inl ⟨hw.out, rfl⟩⟩
      · have dj : decide ((j : Int) < (cn : Int)) = false := decide_eq_false (by omega)
        obtain rfl : j = cn := by omega
        have HWd := HW.out.more (Below.refl wr.heap.size wr).drew
        obtain ⟨⟨b0, b1, b2, b3, b4⟩, _⟩ := row5 HWd.r8
        obtain ⟨⟨_, _, _, d3', _⟩, _⟩ := row5 HWd.r6
        obtain ⟨⟨c0, c1, c2, c3, c4⟩, y0, y1, y2, y3, y4⟩ := row5 HWd.r4
        have hw : Hid (wholeF F (n - k) = j) := by
          show wholeF F (n - k) = j
          rw [wholeF_full (F := F) (by omega) hF0.out (by rw [hcnT]; omega) (fun i hi => by rw [hcnT] at hi ⊢; exact HOk.out i hi), hcnT]
        have HS := Lib.hid (set5 (v0 := .int .u32 (fS p0)) (v1 := .int .u32 (fN p0)) (v2 := .int .i64 (fP p0)) (v3 := .int .i64 (j : Int)) (v4 := .slice qo (joinF F j).length qc) HWd.r4 (Nat.le_refl _) HWd.b)
        have hOth : ∀ (x : Nat), x ≠ w.heap.size → (((((wr.drew.setCell ⟨w.heap.size, 0, none⟩ (.int .u32 (fS p0))).setCell ⟨w.heap.size, 1, none⟩ (.int .u32 (fN p0))).setCell ⟨w.heap.size, 2, none⟩ (.int .i64 (fP p0))).setCell ⟨w.heap.size, 3, none⟩ (.int .i64 (j : Int))).setCell ⟨w.heap.size, 4, none⟩ (.slice qo (joinF F j).length qc)).heap[x]? = wr.drew.heap[x]? := fun x hne => by
          rw [heap_setCell_other _ _ _ _ (by show x ≠ w.heap.size; exact hne), heap_setCell_other _ _ _ _ (by show x ≠ w.heap.size; exact hne), heap_setCell_other _ _ _ _ (by show x ≠ w.heap.size; exact hne), heap_setCell_other _ _ _ _ (by show x ≠ w.heap.size; exact hne), heap_setCell_other _ _ _ _ (by show x ≠ w.heap.size; exact hne)]
        have hown5 := Lib.hid (owned_keeps HWd.own fun g hg => by
          obtain ⟨cur, hc⟩ := owned_type HWd.own hg
          exact hOth g (row_ne hc HWd.r4 (by decide)))
        have HOth := Lib.hid hOth
        have hT : (fun W : World => (W.cell? ⟨a6 + 1, 0, none⟩ = some (.int .u32 (fS p0)) ∧ W.cell? ⟨a6 + 1, 1, none⟩ = some (.int .u32 (fN p0)) ∧ W.cell? ⟨a6 + 1, 2, none⟩ = some (.int .i64 (fP p0)) ∧ W.cell? ⟨a6 + 1, 3, none⟩ = some (.int .i64 (j : Int)) ∧ W.cell? ⟨a6 + 1, 4, none⟩ = some (.slice qo (joinF F j).length qc)) ∧ W.cell? ⟨a6, 3, none⟩ = some (.int .i64 (j : Int))) wr.drew := ⟨⟨b0, b1, b2, b3, b4⟩, d3'⟩
        clear HWd HW b0 b1 b2 b3 b4 d3' hOth
        go_wp2_with fail
        refine wp_region_held_drew (S := (fun W : World => (W.cell? ⟨a6 + 1, 0, none⟩ = some (.int .u32 (fS p0)) ∧ W.cell? ⟨a6 + 1, 1, none⟩ = some (.int .u32 (fN p0)) ∧ W.cell? ⟨a6 + 1, 2, none⟩ = some (.int .i64 (fP p0)) ∧ W.cell? ⟨a6 + 1, 3, none⟩ = some (.int .i64 (j : Int)) ∧ W.cell? ⟨a6 + 1, 4, none⟩ = some (.slice qo (joinF F j).length qc)) ∧ W.cell? ⟨a6, 3, none⟩ = some (.int .i64 (j : Int)))) (by kernel_rfl) hT (fun hHeld => ?_)
        clear hHeld
        generalize wr.drew = wd at HS hown5 hT HOth c0 c1 c2 c3 c4 y0 y1 y2 y3 y4 ⊢
        refine wpAnyH_take (i := 0) (oi := { dst := some 109, op := Op.load 81 (Operand.tmp 8), type := 81, pos := "ref.go:58", after := #[], guard := none }) (v := ?_) rfl (by kernel_rfl) (by kernel_rfl) (by kernel_rfl) (fun _ _ _ h => h) (Or.inl ⟨by rfl, ?_⟩) (by assumption) ?_
        rotate_left
        · intro w hSw
          try dsimp only at hSw
          go_simp
          try with_reducible rfl
        try simp only [Act.put, List.setIfInBounds_toArray, List.set_cons_zero, List.set_cons_succ]
        refine wpAnyH_take (i := 1) (oi := { dst := some 110, op := Op.fieldAddr 81 (Operand.tmp 6) 3, type := 0, pos := "ref.go:58", after := #[{ on := 3, ground := Ground.gcOnly Departure.lateStores }], guard := none }) (v := ?_) rfl (by kernel_rfl) (by kernel_rfl) (by kernel_rfl) (fun _ _ _ h => h) (Or.inl ⟨by rfl, ?_⟩) (by assumption) ?_
        rotate_left
        · intro w hSw
          try dsimp only at hSw
          go_simp
          try with_reducible rfl
        try simp only [Act.put, List.setIfInBounds_toArray, List.set_cons_zero, List.set_cons_succ]
        refine wpAnyH_take (i := 2) (oi := { dst := some 111, op := Op.load 3 (Operand.tmp 110), type := 3, pos := "ref.go:58", after := #[{ on := 1, ground := Ground.data }, { on := 3, ground := Ground.gcOnly Departure.lateStores }], guard := none }) (v := ?_) rfl (by kernel_rfl) (by kernel_rfl) (by kernel_rfl) (fun _ _ _ h => h) (Or.inl ⟨by rfl, ?_⟩) (by assumption) ?_
        rotate_left
        · intro w hSw
          try dsimp only at hSw
          go_simp
          try with_reducible rfl
        try simp only [Act.put, List.setIfInBounds_toArray, List.set_cons_zero, List.set_cons_succ]
        refine wpAnyH_ready (rs := [3]) (by kernel_rfl) (by simp) ?_
        refine AllReadyH.cons (o := { dst := none, op := Op.store 81 (Operand.tmp 4) (Operand.tmp 109), type := 0, pos := "ref.go:58", after := #[{ on := 0, ground := Ground.data }, { on := 0, ground := Ground.phase }, { on := 1, ground := Ground.textOnly Departure.lateStores }, { on := 2, ground := Ground.textOnly Departure.lateStores }], guard := none }) rfl (fun K hK => ?_) AllReadyH.nil
        go_simp
        refine hK.out _ _ ⟨⟨(World.cell?_of_block (a := ⟨a6 + 1, 0, none⟩) (HOth.out (a6 + 1) (by omega))).trans hT.1.1, (World.cell?_of_block (a := ⟨a6 + 1, 1, none⟩) (HOth.out (a6 + 1) (by omega))).trans hT.1.2.1, (World.cell?_of_block (a := ⟨a6 + 1, 2, none⟩) (HOth.out (a6 + 1) (by omega))).trans hT.1.2.2.1, (World.cell?_of_block (a := ⟨a6 + 1, 3, none⟩) (HOth.out (a6 + 1) (by omega))).trans hT.1.2.2.2.1, (World.cell?_of_block (a := ⟨a6 + 1, 4, none⟩) (HOth.out (a6 + 1) (by omega))).trans hT.1.2.2.2.2⟩, (World.cell?_of_block (a := ⟨a6, 3, none⟩) (HOth.out a6 (by omega))).trans hT.2⟩ (fun _ => ?_)
        clear hK K
        try simp only [Act.put, List.setIfInBounds_toArray, List.set_cons_zero, List.set_cons_succ]
        refine wpAnyH_take (i := 4) (oi := { dst := some 5, op := Op.assign (Operand.tmp 111), type := 3, pos := "ref.go:58", after := #[{ on := 2, ground := Ground.data }, { on := 3, ground := Ground.chain }, { on := 0, ground := Ground.phase }, { on := 1, ground := Ground.phase }, { on := 2, ground := Ground.phase }, { on := 3, ground := Ground.phase }], guard := none }) (v := ?_) rfl (by kernel_rfl) (by kernel_rfl) (by kernel_rfl) (fun _ _ _ h => h) (Or.inl ⟨by rfl, ?_⟩) (by assumption) ?_
        rotate_left
        · intro w hSw
          try dsimp only at hSw
          go_simp
          try with_reducible rfl
        try simp only [Act.put, List.setIfInBounds_toArray, List.set_cons_zero, List.set_cons_succ]
        refine wpAnyH_done (by kernel_rfl) ?_ _
        go_wp2_with fail
        refine bodyPost_ret (results_row_tmp rfl _ _ w.heap.size _ _ _ _ rfl HS.out.1 Try.underlying81 rfl (by kernel_rfl)) rfl ⟨HS.out.2, .inr ⟨p0, qo, qc, hF0.out, by rw [hw.out]; omega, ?_, by rw [hw.out]; exact hown5.out⟩⟩
        rw [hw.out, HCn.out]
        rfl
theorem rwhole_any {B : Nat} {p : Option Addr} {n cc : Nat} {R : Nat → List Int} {vs : List Value} {w : World} (h : SecAt B p n cc R vs w) (hby : ∀ i, i < n → Bys (R i)) (hR : ∀ i, i < n → (R i).length = 64) (k : Nat) (hn : n ≤ 64) (hk : k ≤ n) :
    Calls Try.prog 43 #[.slice p n cc, .int .i64 (k : Int)] w (WholePost w (fun i => pcOf (R (k + i))) (n - k)) := by
  by_cases h0 : k < n ∧ isP (R k) = true
  · exact rwhole_piece h hby hR k hn h0.1 h0.2
  · exact rwhole_none h hby k hk (fun hk2 => by
      cases hp : isP (R k) with
      | false => rfl
      | true => exact absurd ⟨hk2, hp⟩ h0)
end Go.Proofs.Yticiaiiedagalaa.dk
