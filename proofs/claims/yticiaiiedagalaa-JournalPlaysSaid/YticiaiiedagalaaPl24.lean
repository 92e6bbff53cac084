/- The document's Write. -/
import Derived.Test.YticiaiiedagalaaPl23
namespace Go.Proofs.Yticiaiiedagalaa.dk
open Go.PlainAid Go.ChangeShapes Go.WideShapes Go.ChangeAt Go.RowKit

set_option maxRecDepth 100000 in
theorem rWrite_gone {B D : Nat} {S P : Value} {r : Rk} {w : World} (h : RefAt B D S P r w) (hd : r.gone = true) (i : Int) (v : Value) :
    Calls Try.prog 20 #[.pointer (some ⟨D, 0, none⟩), .int .i64 i, v] w fun e w' => e = .returned (.int .i64 10) ∧ w = w' := by
  have k3 := h.cell 3
  simp only [rcells] at k3
  simp at k3
  rw [hd] at k3
  go_enter Try.func20, Try.ntmps20
  go_wp2
  go_ret
  exact ⟨rfl, rfl⟩
set_option maxRecDepth 100000 in
theorem rWrite_arg {B D : Nat} {S P : Value} {r : Rk} {w : World} (h : RefAt B D S P r w) (hd : r.gone = false) (i : Int) (p : Option Addr) (k c : Nat) (hi : i < 0 ∨ (r.S.length : Int) ≤ i ∨ 64 < k) :
    Calls Try.prog 20 #[.pointer (some ⟨D, 0, none⟩), .int .i64 i, .slice p k c] w fun e w' => e = .returned (.int .i64 1) ∧ w = w' := by
  obtain ⟨sp, sc, rfl⟩ := own_form h.hS
  have k0 := h.cell 0
  have k3 := h.cell 3
  simp only [rcells] at k0 k3
  simp at k0 k3
  rw [hd] at k3
  generalize r.S.length = n at *
  rcases (show i < 0 ∨ (0 ≤ i ∧ (n : Int) ≤ i) ∨ (0 ≤ i ∧ i < n ∧ 64 < k) by omega) with hi | ⟨h0, hi⟩ | ⟨h0, h1, hi⟩
  · have d1 : decide (i < 0) = true := decide_eq_true hi
    go_enter Try.func20, Try.ntmps20
    go_wp2
    go_ret
    exact ⟨rfl, rfl⟩
  · have d1 : decide (i < 0) = false := decide_eq_false (by omega)
    have d2 : decide ((n : Int) ≤ i) = true := decide_eq_true hi
    go_enter Try.func20, Try.ntmps20
    go_wp2
    go_ret
    exact ⟨rfl, rfl⟩
  · have d1 : decide (i < 0) = false := decide_eq_false (by omega)
    have d2 : decide ((n : Int) ≤ i) = false := decide_eq_false (by omega)
    have d3 : decide ((64 : Int) < k) = true := decide_eq_true (by omega)
    go_enter Try.func20, Try.ntmps20
    go_wp2
    go_ret
    exact ⟨rfl, rfl⟩
set_option maxRecDepth 100000 in
theorem rWrite_stop {B D : Nat} {S P : Value} {r : Rk} {w : World} (h : RefAt B D S P r w) (hd : r.gone = false) (h0 : r.left = 0) (i : Nat) (p : Option Addr) (k c : Nat) (hi : i < r.S.length) (hk : k ≤ 64) :
    Calls Try.prog 20 #[.pointer (some ⟨D, 0, none⟩), .int .i64 i, .slice p k c] w fun e w' => e = .returned (.int .i64 10) ∧ RefAt B D S P { r with gone := true } w' ∧ Below B w w' ∧ Fr D w w' := by
  obtain ⟨sp, sc, rfl⟩ := own_form h.hS
  have k0 := h.cell 0
  have k3 := h.cell 3
  have HS := Lib.hid (rspend_dead h h0)
  simp only [rcells] at k0 k3
  simp at k0 k3
  rw [hd] at k3
  have d1 : decide ((i : Int) < 0) = false := decide_eq_false (by omega)
  have d2 : decide ((r.S.length : Int) ≤ i) = false := decide_eq_false (by omega)
  have d3 : decide ((64 : Int) < k) = false := decide_eq_false (by omega)
  clear h
  go_enter Try.func20, Try.ntmps20
  go_wp2_with (go_at_call 47; with_reducible refine HS.out.mono ?_; rintro e w' ⟨rfl, hw⟩)
  go_ret
  exact ⟨rfl, hw⟩
theorem ba_ext {a b : ByteArray} (h : a.data.toList = b.data.toList) : a = b := by
  have h2 : a.data = b.data := Array.toList_inj.1 h
  cases a; cases b
  exact congrArg ByteArray.mk h2
theorem cut_pad {b : List Int} (h : b.length ≤ 64) : (strOf b ++ strOf (List.replicate 64 0)).extract 0 64 = strOf (pad b) := by
  apply ba_ext
  rw [ByteArray.data_extract, ByteArray.data_append, strOf_data, Array.toList_extract, Array.toList_append, strOf_data, strOf_data]
  unfold pad
  rw [← List.map_append, List.extract_eq_take_drop, List.drop_zero, Nat.sub_zero, ← List.map_take]
  congr 1
  rw [List.take_append, List.take_of_length_le h, List.take_replicate, Nat.min_eq_left (by omega)]
end Go.Proofs.Yticiaiiedagalaa.dk
/- The document's disk: one more write is pending. -/
namespace Go.Proofs.Yticiaiiedagalaa.dk
open Go.PlainAid Go.ChangeShapes Go.WideShapes Go.ChangeAt Go.RowKit

theorem infoRW : (Try.prog.info? 93).map (fun i => (i.zero, i.size, i.bytes)) = some (some (.agg #[.int .i64 0, .string ⟨#[]⟩]), 2, 24) := by kernel_rfl
/-- append of one write of the document's, as one step of a region that draws. -/
theorem step_append_rw {ops : Array Oper} {o : Oper} {a : Act} {w : World} {K : Act → World → Prop} {Q : Exit → Act → World → Prop} {E : Prop} (hgd : o.guard = none) (s x : Operand)
    (ho : o.op = .call { callee := .builtin .append, args := #[s, x], argTypes := #[42, 42] })
    (base : Nat) (sv : Value) (n : Nat) (xs : List Value) (hs : a.eval s = sv) (hown : w.ownsRow base 93 2 sv n xs)
    (ad : Addr) (c : Nat) (hx : a.eval x = .slice (some ad) 1 c) (wc : List Value) (hl : wc.length = 2) (hnews : ∀ j u, wc[j]? = some u → w.cell? (ad.add j) = some u) (h1 : ∀ u ∈ wc, u.oneCell' = true)
    (hlen : n ≤ 1000000) (hbase : base ≤ w.heap.size)
    (h : ∀ v' w', w'.ownsRow base 93 2 v' (n + 1) (xs ++ wc) → w.grownBy w' sv.ownBlock → K (a.put o.dst v') w') :
    if Region.wanted o (yielded ops a.tmps) = true then Oper.wp Try.prog o a w K Q else E := by
  have hw : Region.wanted o (yielded ops a.tmps) = true := by simp [Region.wanted, hgd]
  rw [if_pos hw]
  obtain ⟨i0, hi, hz0, hz1, hz2⟩ := info_parts infoRW
  obtain ⟨v', w', hr, h2, h3, h4⟩ := run_append_own (P := Try.prog) w base 42 o.type 93 i0 _ 2 24 Try.underlying42 hi hz0 hz1 hz2 (by simp [Value.cells]) (by decide) sv n xs hown ad 1 c wc (by rw [hl]) hnews h1 (by unfold maxLen; omega) (by omega) hbase
  unfold Oper.wp execOp
  simp only [ho, resolve, invoke, builtin, Sem.run_bind, Sem.run_pure, Result.andThen_ok, List.map_toArray, List.map_cons, List.map_nil, hs, hx, hr]
  exact h v' w' h2 h3
theorem qcells_snoc (l : List (Nat × List Int)) (x : Nat × List Int) : qcells (l ++ [x]) = qcells l ++ [.int .i64 (x.1 : Int), .string (strOf x.2)] := by simp [qcells]
theorem RefAt.grow {B D : Nat} {S P v' : Value} {r : Rk} {W w6 : World} (h : RefAt B D S P r W) (i : Nat) (b : List Int) (hi : i < r.S.length) (hb : b.length = 64) (ep : r.P.length < 1000)
    (hown : w6.ownsRow B 93 2 v' (r.P.length + 1) (qcells r.P ++ [.int .i64 (i : Int), .string (strOf b)])) (hg : W.grownBy w6 P.ownBlock) :
    w6.cell? ⟨D, 1, none⟩ = some P ∧ w6.frozen? ⟨D, 1, none⟩ = false ∧
    RefAt B D S v' { r with P := r.P ++ [(i, b)] } (w6.setCell ⟨D, 1, none⟩ v') ∧ Bf B (Xr D S P) W (w6.setCell ⟨D, 1, none⟩ v') := by
  obtain ⟨g1, g2, g3, g4, g5⟩ := hg
  have hne := h.ne
  have hD6 : w6.heap[D]? = some (.cells (rcells S P r) 44 (0, 0)) := by
    rw [g5 D h.lt (fun e => hne.2.1 e.symm)]; exact h.hD
  have hS6 : w6.ownsRow B 9 1 S r.S.length (scells r.S) := own_block_keeps h.hS fun g hgg => g5 g (h.hS.lt g hgg).2 (fun e => hne.2.2 g hgg e.symm)
  have hvD : v'.ownBlock ≠ some D := fun e => by
    obtain ⟨cur, hc⟩ := own_type hown e
    exact cells_ne hc hD6 (by decide) rfl
  have hB6 : Below B W w6 := ⟨g1, g2, g3, g4, fun k hk => g5 k (Nat.lt_of_lt_of_le hk (Nat.le_of_lt (Nat.lt_of_le_of_lt h.bD h.lt))) (fun e => by have := (h.hP.lt k e.symm).1; omega)⟩
  refine ⟨?_, frozen_of_row _ _ _ _ _ hD6, ?_⟩
  · rw [cell_of_row _ _ _ _ _ _ hD6]
    rfl
  · rw [setCell_eq_setRow w6 D 1 _ _ _ v' hD6]
    have ho : ∀ k, k ≠ D → (w6.setRow D ((rcells S P r).setIfInBounds 1 v')).heap[k]? = w6.heap[k]? := fun k hk => setRow_other w6 D k _ hk
    refine ⟨{ h with
      hD := setRow_heap w6 D _ _ _ _ hD6
      hS := own_block_keeps hS6 fun g hgg => ho g (fun e => hne.1 (by rw [hgg, e]))
      hP := by
        rw [qcells_snoc]
        show World.ownsRow _ _ _ _ _ (r.P ++ [(i, b)]).length _
        rw [List.length_append, List.length_singleton]
        exact own_block_keeps hown fun g hgg => ho g (fun e => hvD (by rw [hgg, e]))
      pl := by show (r.P ++ [(i, b)]).length ≤ 1000; rw [List.length_append, List.length_singleton]; omega
      pw := fun x hx => by
        rcases List.mem_append.1 hx with h1 | h1
        · exact h.pw x h1
        · rw [List.mem_singleton.1 h1]; exact ⟨hi, hb⟩ }, below_setRow hB6 h.bD _, fun k hk hx => ?_⟩
    rw [ho k (fun e => hx (.inl e))]
    exact g5 k hk (fun e => hx (.inr (.inr e.symm)))
end Go.Proofs.Yticiaiiedagalaa.dk
