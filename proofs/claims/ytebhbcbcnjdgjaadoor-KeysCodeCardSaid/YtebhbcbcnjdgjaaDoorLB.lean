/- The parts of bytes, handed on one by one. -/
import Derived.Test.YtebhbcbcnjdgjaaDoorLA
namespace Go.Proofs.YtebhbcbcnjdgjaaDoor.dk
open Go.PlainAid Go.ChangeShapes Go.WideShapes Go.ChangeAt Go.RowKit Go.Shelf

attribute [local go_sem] Oper.semAt_some
def encs (x : Pt × Bool) : Array Value := #[.agg (parr x.1), .bool x.2]
/-- How long the slice in the box is. -/
def lenAt (b : Nat) (w : World) : Nat := match w.cell? ⟨b, 0, none⟩ with | some (.slice _ n _) => n | _ => 0
theorem lenAt_boxed {b n c : Nat} {w : World} {t : TypeId} {p : Option Addr} (h : Boxed w b t (.slice p n c)) : lenAt b w = n := by unfold lenAt; rw [h.cell]
theorem Rd.keeps {w W : World} {p : Option Addr} {n : Nat} {l : List Int} (h : Rd w p n l) (hs : w.heap.size ≤ W.heap.size) (hk : ∀ k, k < w.heap.size → W.heap[k]? = w.heap[k]?) : Rd W p n l := by
  refine ⟨h.1, fun h0 => ?_⟩
  obtain ⟨g, off, rfl, hg, hc⟩ := h.2 h0
  refine ⟨g, off, rfl, Nat.lt_of_lt_of_le hg hs, fun i hi => ?_⟩
  rw [← hc i hi]
  simp only [World.cell?, hk g hg]
/-- What the iterator holds between two rounds. -/
structure PI (w0 : World) (b : Nat) (bs : List Int) (J : List (Pt × Bool) → World → Prop) (pre : List Pt) (rest : List Int) (p : Option Addr) (n c : Nat) (wr : World) : Prop where
  rd : Rd w0 p n rest
  nc : n ≤ c
  le : n ≤ 100000
  dc : Dc bs pre rest
  bys : Bys rest
  j : J (oks pre) wr
  size : w0.heap.size ≤ wr.heap.size
  keep : ∀ k, k < w0.heap.size → wr.heap[k]? = w0.heap[k]?
theorem grown_of_below {W W' : World} (h : Below W.heap.size W W') (b : Nat) : W.grownBy W' (some b) := ⟨h.os, h.tape, h.output, h.size, fun k hk _ => h.block k hk⟩
theorem PI.next {w0 wr wA W3 : World} {b n c k : Nat} {bs rest : List Int} {J : List (Pt × Bool) → World → Prop} {pre : List Pt} {q : Pt} {p p' : Option Addr} (h : PI w0 b bs J pre rest p n c wr) (hdc : Dc bs (pre ++ [q]) (rest.drop k)) (hj : J (oks (pre ++ [q])) W3)
    (hJ : AbdBox b 23 J) {u : Value} (h3b : Boxed W3 b 23 u) (hA : wr.heap.size ≤ wA.heap.size ∧ ∀ j, j < w0.heap.size → wA.heap[j]? = w0.heap[j]?) (h3 : RKeep w0.heap.size b wA W3) (hb0 : w0.heap.size ≤ b) (hk : k ≤ n) (rd : Rd w0 p' (n - k) (rest.drop k)) (v : Value) :
    PI w0 b bs J (pre ++ [q]) (rest.drop k) p' (n - k) (c - k) (W3.setCell ⟨b, 0, none⟩ v) := by
  have h1 := h.nc
  have h2 := h.le
  have h4 := h.size
  have hg := grownBy_setCell' W3 b v
  refine ⟨rd, by omega, by omega, hdc, h.bys.drop k, hJ _ _ _ _ hj hg (h3b.set v), Nat.le_trans (Nat.le_trans h4 hA.1) (Nat.le_trans h3.size hg.size), fun j hj => ?_⟩
  rw [Below.heap_setCell _ _ _ j (by show j ≠ b; omega), h3.block j (.inl hj), hA.2 j hj]
set_option maxHeartbeats 2000000 in
set_option maxRecDepth 100000 in
theorem parts1_in (n l b : Nat) (w0 : World) (bs : List Int) (J Jx : List (Pt × Bool) → World → Prop) (W : World) (p : Option Addr) (m c : Nat) (hb0 : w0.heap.size ≤ b)
    (hJ : AbdBox b 23 J) (hJx : AbdBox b 23 Jx)
    (hY : ∀ pre x A, J pre A → YieldAt Fence.wide (n - 1) Tryd.prog l (encs x) A fun e B => (e = .returned (.bool true) ∧ J (pre ++ [x]) B ∧ RKeep w0.heap.size b A B) ∨ (e = .returned (.bool false) ∧ Jx (pre ++ [x]) B))
    (hbx : Boxed W b 23 (.slice p m c)) (h0 : PI w0 b bs J [] bs p m c W) :
    CallsIn Fence.wide n Tryd.prog 38 #[.func (.yield l) #[] #[], .pointer (some ⟨b, 0, none⟩)] W fun e W' => (∃ v, e = .returned v) ∧ ((∃ xs, SAll bs xs ∧ J xs W') ∨ (∃ pre, SPart bs pre ∧ Jx pre W')) := by
  have H0 := Lib.hid h0
  have HJ := Lib.hid hJ
  have HJx := Lib.hid hJx
  have HY := Lib.hid hY
  have HB := Lib.hid hbx
  clear h0 hJ hJx hY hbx
  refine callsIn_of_wp Tryd.func38 rfl trivial ?_ rfl
  simp only [Tryd.ntmps38, List.size_toArray, List.length_cons, List.length_nil, Nat.reduceAdd, Nat.reduceSub, Array.replicate_succ, Array.replicate_zero, List.push_toArray, List.append_toArray, List.nil_append, List.cons_append]
  gi_wp2
  gi_loopw [4] (fun _ wr => ∃ (pre : List Pt) (rest : List Int) (p' : Option Addr) (n' c' : Nat), Boxed wr b 23 (.slice p' n' c') ∧ Hid (PI w0 b bs J pre rest p' n' c' wr)) (fun _ wr => lenAt b wr)
  case atStart => exact ⟨[], bs, p, m, c, HB.out, H0⟩
  case round =>
    obtain ⟨pre, rest, p1, n1, c1, hbw, HI⟩ := hrel
    clear H0 HB
    have hcell := hbw.cell
    have hfr := hbw.frozen
    by_cases hn0 : 0 < n1
    · obtain ⟨g, off, rfl, hg⟩ := HI.out.rd.form hn0
      have hi0 : (0 : Int) < (n1 : Int) := by omega
      have d0 : decide ((0 : Int) < (n1 : Int)) = true := decide_eq_true hi0
      have HF := Lib.hid (first_any wr g off n1 c1 rest (HI.out.rd.keeps HI.out.size HI.out.keep) HI.out.bys hn0 HI.out.nc HI.out.le)
      gi_wp2
      refine ⟨trivial, fun h => by simp [Fence.wide] at h, ?_⟩
      refine (callsIn_wide.2 HF.out).mono ?_
      clear HF
      rintro e w2 ⟨hb2, rfl⟩
      have hbw2 : Boxed w2 b 23 (.slice (some ⟨g, off, none⟩) n1 c1) := (hb2.block b hbw.lt).trans hbw
      have HB2 := Lib.hid hb2
      have hne : rest ≠ [] := fun e => by have := HI.out.rd.1; rw [e] at this; simp at this; omega
      have HLw := Lib.hid (lenAt_boxed hbw)
      clear hb2 hbw hcell hfr
      cases hf : fpart rest with
      | none =>
        dsimp only
        unfold pzero
        have hgr := (grown_of_below HB2.out b)
        have hA := World.grownBy_alloc w2 (.cells #[.int .i64 0, .bool false, .bool false, .string ⟨#[]⟩, .int .i64 0, .string ⟨#[]⟩, .int .i64 0] 43) (some b)
        obtain ⟨fn, tmps, assign, body, hy, hR⟩ := HY.out (oks pre) (default, false) _ (HJ.out _ _ _ _ (HJ.out _ _ _ _ HI.out.j hgr hbw2) hA (hbw2.alloc _))
        have hy' : (Instr.yield l #[.agg #[.int .i64 0, .bool false, .bool false, .string ⟨#[]⟩, .int .i64 0, .string ⟨#[]⟩, .int .i64 0], .bool false]).run Tryd.prog (w2.alloc (.cells #[.int .i64 0, .bool false, .bool false, .string ⟨#[]⟩, .int .i64 0, .string ⟨#[]⟩, .int .i64 0] 43)) = _ := hy
        have HR := Lib.hid hR
        have HN := Lib.hid (And.intro hne hf)
        clear hgr hA hy hR hne hf
        gi_wp2
        refine ⟨fun h => by simp [Fence.wide] at h, ?_⟩
        refine HR.out.mono ?_
        rintro e W3 (⟨rfl, hJ3, hk3⟩ | ⟨rfl, hJx3⟩)
        · gi_wp2
          refine bodyPost_ret (results_none rfl _ _ _) rfl ?_
          exact ⟨⟨_, rfl⟩, .inl ⟨_, .inr ⟨pre, rest, HI.out.dc, HN.out.1, HN.out.2, rfl⟩, hJ3⟩⟩
        · gi_wp2
          refine bodyPost_ret (results_none rfl _ _ _) rfl ?_
          exact ⟨⟨_, rfl⟩, .inr ⟨_, ⟨pre, rest, HI.out.dc, HN.out.1, by unfold nxt; rw [HN.out.2]⟩, hJx3⟩⟩
      | some qk =>
        obtain ⟨q, k⟩ := qk
        have hk := fpart_le hne hf
        rw [HI.out.rd.1] at hk
        have hgr := (grown_of_below HB2.out b)
        have hA := World.grownBy_alloc w2 (.cells (parr q) 43) (some b)
        have HJA := Lib.hid (HJ.out _ _ _ _ (HJ.out _ _ _ _ HI.out.j hgr hbw2) hA (hbw2.alloc _))
        obtain ⟨fn, tmps, assign, body, hy, hR⟩ := HY.out (oks pre) (q, true) _ HJA.out
        have hbA : Boxed (w2.alloc (.cells (parr q) 43)) b 23 (.slice (some ⟨g, off, none⟩) n1 c1) := hbw2.alloc _
        have hsA : wr.heap.size ≤ (w2.alloc (.cells (parr q) 43)).heap.size := by rw [World.size_alloc]; have := HB2.out.size; omega
        have hkA : ∀ j, j < w0.heap.size → (w2.alloc (.cells (parr q) 43)).heap[j]? = w0.heap[j]? := fun j hj => by
          have hs := HI.out.size
          have hs2 := HB2.out.size
          rw [Below.heap_alloc _ _ _ (by omega), HB2.out.block j (by omega), HI.out.keep j hj]
        have d1 : decide ((0 : Int) < (k : Int)) = true := decide_eq_true (by omega)
        have d1n : decide (0 < k) = true := decide_eq_true (by omega)
        have hk0 : ((k : Int) == 0) = false := beq_eq_false_iff_ne.2 (by omega)
        have hk0n : (k == 0) = false := beq_eq_false_iff_ne.2 (by omega)
        obtain ⟨wA, hwA⟩ : ∃ wA, wA = w2.alloc (.cells (parr q) 43) := ⟨_, rfl⟩
        rw [← hwA] at hbA hsA hkA
        have HK := Lib.hid (And.intro hsA hkA)
        have HN := Lib.hid (And.intro hne hf)
        have HR := Lib.hid hR
        have HWA := Lib.hid hwA
        have HSn := Lib.hid (oks_snoc pre q)
        have HDc := Lib.hid (Dc.step HI.out.dc hne hf)
        obtain ⟨k9, x, neg, dg, ex, s, i⟩ := q
        dsimp only [parr] at HR HWA HJA ⊢
        have hy' : (Instr.yield l #[.agg #[.int .i64 k9, .bool x, .bool neg, .string dg, .int .i64 ex, .string s, .int .i64 i], .bool true]).run Tryd.prog (w2.alloc (.cells #[.int .i64 k9, .bool x, .bool neg, .string dg, .int .i64 ex, .string s, .int .i64 i] 43)) = _ := hy
        clear hgr hA hy hR hne hf hsA hkA hwA HJA
        gi_wp2
        refine ⟨fun h => by simp [Fence.wide] at h, ?_⟩
        refine HR.out.mono ?_
        clear HR
        rintro e W3 (⟨rfl, hJ3, hk3⟩ | ⟨rfl, hJx3⟩)
        · rw [← HWA.out] at hk3
          clear HWA
          have hb3 : Boxed W3 b 23 (.slice (some ⟨g, off, none⟩) n1 c1) := (hk3.block b (.inr rfl)).trans hbA
          have hcell3 := hb3.cell
          have hfr3 := hb3.frozen
          have hnc := HI.out.nc
          have hkn : (k : Int) ≤ (n1 : Int) := by omega
          have hkc : (k : Int) ≤ (c1 : Int) := by omega
          have hms := lenAt_boxed hb3
          rw [← HSn.out] at hJ3
          have HJ3 := Lib.hid hJ3
          have HK3 := Lib.hid hk3
          clear hy' hJ3 hk3 hms
          by_cases hkc1 : k = c1
          · obtain rfl : k = n1 := by omega
            subst hkc1
            gi_wp2
            have hpi := HI.out.next (p' := some ⟨g, off, none⟩) HDc.out HJ3.out HJ.out hb3 HK.out HK3.out hb0 (Nat.le_refl _) ⟨by rw [List.length_drop, HI.out.rd.1], fun h => absurd h (by omega)⟩ (.slice (some ⟨g, off, none⟩) 0 0)
            rw [Nat.sub_self] at hpi
            refine ⟨⟨_, _, _, 0, 0, hb3.set _, Lib.hid hpi⟩, ?_⟩
            rw [lenAt_boxed (hb3.set _), HLw.out]
            omega
          · have hkc2 : ¬ (c1 = k) := fun e => hkc1 e.symm
            gi_wp2
            have hcut := HI.out.rd.cut k (n1 - k) (by omega)
            rw [List.take_of_length_le (by rw [List.length_drop, HI.out.rd.1]; omega)] at hcut
            refine ⟨⟨_, _, _, _, _, hb3.set _, Lib.hid (HI.out.next HDc.out HJ3.out HJ.out hb3 HK.out HK3.out hb0 (by omega) hcut _)⟩, ?_⟩
            rw [lenAt_boxed (hb3.set _), HLw.out]; omega
        · gi_wp2
          refine bodyPost_ret (results_none rfl _ _ _) rfl ?_
          exact ⟨⟨_, rfl⟩, .inr ⟨_, ⟨pre, rest, HI.out.dc, HN.out.1, by unfold nxt; rw [HN.out.2]⟩, hJx3⟩⟩
    · have d0 : decide ((0 : Int) < (n1 : Int)) = false := decide_eq_false (by omega)
      obtain rfl : n1 = 0 := by omega
      gi_wp2
      go_end0
      have hr : rest = [] := List.length_eq_zero_iff.1 HI.out.rd.1
      exact ⟨⟨_, rfl⟩, .inl ⟨oks pre, .inl ⟨pre, hr ▸ HI.out.dc, rfl⟩, HI.out.j⟩⟩
end Go.Proofs.YtebhbcbcnjdgjaaDoor.dk
