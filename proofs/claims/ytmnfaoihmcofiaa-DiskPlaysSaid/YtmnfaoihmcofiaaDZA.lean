/- The document's disk: one more write is pending. -/
import Derived.Test.YtmnfaoihmcofiaaDZ
namespace Go.Proofs.Ytmnfaoihmcofiaa.dk
open Go.PlainAid Go.ChangeShapes Go.WideShapes Go.ChangeAt Go.RowKit

theorem infoRW : (Try.prog.info? 60).map (fun i => (i.zero, i.size, i.bytes)) = some (some (.agg #[.int .i64 0, .string ⟨#[]⟩]), 2, 24) := by kernel_rfl
/-- append of one write of the document's, as one step of a region that draws. -/
theorem step_append_rw {ops : Array Oper} {o : Oper} {a : Act} {w : World} {K : Act → World → Prop} {Q : Exit → Act → World → Prop} {E : Prop} (hgd : o.guard = none) (s x : Operand)
    (ho : o.op = .call { callee := .builtin .append, args := #[s, x], argTypes := #[43, 43] })
    (base : Nat) (sv : Value) (n : Nat) (xs : List Value) (hs : a.eval s = sv) (hown : w.ownsRow base 60 2 sv n xs)
    (ad : Addr) (c : Nat) (hx : a.eval x = .slice (some ad) 1 c) (wc : List Value) (hl : wc.length = 2) (hnews : ∀ j u, wc[j]? = some u → w.cell? (ad.add j) = some u) (h1 : ∀ u ∈ wc, u.oneCell' = true)
    (hlen : n ≤ 1000000) (hbase : base ≤ w.heap.size)
    (h : ∀ v' w', w'.ownsRow base 60 2 v' (n + 1) (xs ++ wc) → w.grownBy w' sv.ownBlock → K (a.put o.dst v') w') :
    if Region.wanted o (yielded ops a.tmps) = true then Oper.wp Try.prog o a w K Q else E := by
  have hw : Region.wanted o (yielded ops a.tmps) = true := by simp [Region.wanted, hgd]
  rw [if_pos hw]
  obtain ⟨i0, hi, hz0, hz1, hz2⟩ := info_parts infoRW
  obtain ⟨v', w', hr, h2, h3, h4⟩ := run_append_own (P := Try.prog) w base 43 o.type 60 i0 _ 2 24 Try.underlying43 hi hz0 hz1 hz2 (by simp [Value.cells]) (by decide) sv n xs hown ad 1 c wc (by rw [hl]) hnews h1 (by unfold maxLen; omega) (by omega) hbase
  unfold Oper.wp execOp
  simp only [ho, resolve, invoke, builtin, Sem.run_bind, Sem.run_pure, Result.andThen_ok, List.map_toArray, List.map_cons, List.map_nil, hs, hx, hr]
  exact h v' w' h2 h3
theorem qcells_snoc (l : List (Nat × List Int)) (x : Nat × List Int) : qcells (l ++ [x]) = qcells l ++ [.int .i64 (x.1 : Int), .string (strOf x.2)] := by simp [qcells]
theorem RefAt.grow {B D : Nat} {S P v' : Value} {r : Rk} {W w6 : World} (h : RefAt B D S P r W) (i : Nat) (b : List Int) (hi : i < r.S.length) (hb : b.length = 64) (ep : r.P.length < 1000)
    (hown : w6.ownsRow B 60 2 v' (r.P.length + 1) (qcells r.P ++ [.int .i64 (i : Int), .string (strOf b)])) (hg : W.grownBy w6 P.ownBlock) :
    w6.cell? ⟨D, 1, none⟩ = some P ∧ w6.frozen? ⟨D, 1, none⟩ = false ∧
    RefAt B D S v' { r with P := r.P ++ [(i, b)] } (w6.setCell ⟨D, 1, none⟩ v') ∧ Bf B (Xr D S P) W (w6.setCell ⟨D, 1, none⟩ v') := by
  obtain ⟨g1, g2, g3, g4, g5⟩ := hg
  have hne := h.ne
  have hD6 : w6.heap[D]? = some (.cells (rcells S P r) 45 (0, 0)) := by
    rw [g5 D h.lt (fun e => hne.2.1 e.symm)]; exact h.hD
  have hS6 : w6.ownsRow B 9 1 S r.S.length (scells r.S) := own_block_keeps h.hS fun g hgg => g5 g (h.hS.lt g hgg).2 (fun e => hne.2.2 g hgg e.symm)
  have hvD : v'.ownBlock ≠ some D := fun e => by
    obtain ⟨cur, hc⟩ := own_type hown e
    exact cells_ne hc hD6 (by decide) rfl
  have hB6 : Below B W w6 := ⟨g1, g2, g3, g4, fun k hk => g5 k (Nat.lt_of_lt_of_le hk (Nat.le_of_lt (Nat.lt_of_le_of_lt h.bD h.lt))) (fun e => by have := (h.hP.lt k e.symm).1; omega)⟩
  refine ⟨?_, frozen_of_row _ _ _ _ _ hD6, ?_⟩
  · rw [cell_of_row _ _ _ _ _ _ hD6]
    rfl
  · rw [setCell_eq_setRow w6 D 1 _ _ _ v' hD6]
    have ho : ∀ k, k ≠ D → (w6.setRow D ((rcells S P r).setIfInBounds 1 v')).heap[k]? = w6.heap[k]? := fun k hk => setRow_other w6 D k _ hk
    refine ⟨{ h with
      hD := setRow_heap w6 D _ _ _ _ hD6
      hS := own_block_keeps hS6 fun g hgg => ho g (fun e => hne.1 (by rw [hgg, e]))
      hP := by
        rw [qcells_snoc]
        show World.ownsRow _ _ _ _ _ (r.P ++ [(i, b)]).length _
        rw [List.length_append, List.length_singleton]
        exact own_block_keeps hown fun g hgg => ho g (fun e => hvD (by rw [hgg, e]))
      pl := by show (r.P ++ [(i, b)]).length ≤ 1000; rw [List.length_append, List.length_singleton]; omega
      pw := fun x hx => by
        rcases List.mem_append.1 hx with h1 | h1
        · exact h.pw x h1
        · rw [List.mem_singleton.1 h1]; exact ⟨hi, hb⟩ }, below_setRow hB6 h.bD _, fun k hk hx => ?_⟩
    rw [ho k (fun e => hx (.inl e))]
    exact g5 k hk (fun e => hx (.inr (.inr e.symm)))
end Go.Proofs.Ytmnfaoihmcofiaa.dk
