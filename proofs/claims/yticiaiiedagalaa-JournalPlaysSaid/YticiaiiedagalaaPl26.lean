/- The document's New. -/
import Derived.Test.YticiaiiedagalaaPl25
namespace Go.Proofs.Yticiaiiedagalaa.dk
open Go.PlainAid Go.ChangeShapes Go.WideShapes Go.ChangeAt Go.RowKit

set_option maxRecDepth 100000 in
theorem rNew_bad (n : Int) (w : World) (h : n < 1 ∨ 65536 < n) :
    Calls Try.prog 12 #[.int .i64 n] w fun e w' => e = .returned (.tuple #[.pointer none, .int .i64 1]) ∧ w = w' := by
  rcases (show n < 1 ∨ (1 ≤ n ∧ 65536 < n) by omega) with h | ⟨h0, h⟩
  · have d1 : decide (n < 1) = true := decide_eq_true h
    go_enter Try.func12, Try.ntmps12
    go_wp2
    go_ret2
    exact ⟨rfl, rfl⟩
  · have d1 : decide (n < 1) = false := decide_eq_false (by omega)
    have d2 : decide (65536 < n) = true := decide_eq_true h
    go_enter Try.func12, Try.ntmps12
    go_wp2
    go_ret2
    exact ⟨rfl, rfl⟩
theorem infoStr : (Try.prog.info? 9).map (fun i => (i.zero, i.size, i.bytes)) = some (some (.string ⟨#[]⟩), 1, 16) := by kernel_rfl
/-- append of one string, as one step of a region that draws. -/
theorem step_append_str {ops : Array Oper} {o : Oper} {a : Act} {w : World} {K : Act → World → Prop} {Q : Exit → Act → World → Prop} {E : Prop} (hgd : o.guard = none) (s x : Operand)
    (ho : o.op = .call { callee := .builtin .append, args := #[s, x], argTypes := #[41, 41] })
    (base : Nat) (sv : Value) (n : Nat) (xs : List Value) (hs : a.eval s = sv) (hown : w.ownsRow base 9 1 sv n xs)
    (ad : Addr) (c : Nat) (hx : a.eval x = .slice (some ad) 1 c) (wc : List Value) (hl : wc.length = 1) (hnews : ∀ j u, wc[j]? = some u → w.cell? (ad.add j) = some u) (h1 : ∀ u ∈ wc, u.oneCell' = true)
    (hlen : n ≤ 1000000) (hbase : base ≤ w.heap.size)
    (h : ∀ v' w', w'.ownsRow base 9 1 v' (n + 1) (xs ++ wc) → w.grownBy w' sv.ownBlock → K (a.put o.dst v') w') :
    if Region.wanted o (yielded ops a.tmps) = true then Oper.wp Try.prog o a w K Q else E := by
  have hw : Region.wanted o (yielded ops a.tmps) = true := by simp [Region.wanted, hgd]
  rw [if_pos hw]
  obtain ⟨i0, hi, hz0, hz1, hz2⟩ := info_parts infoStr
  obtain ⟨v', w', hr, h2, h3, h4⟩ := run_append_own (P := Try.prog) w base 41 o.type 9 i0 _ 1 16 Try.underlying41 hi hz0 hz1 hz2 (by simp [Value.cells]) (by decide) sv n xs hown ad 1 c wc (by rw [hl]) hnews h1 (by unfold maxLen; omega) (by omega) hbase
  unfold Oper.wp execOp
  simp only [ho, resolve, invoke, builtin, Sem.run_bind, Sem.run_pure, Result.andThen_ok, List.map_toArray, List.map_cons, List.map_nil, hs, hx, hr]
  exact h v' w' h2 h3
def rfresh (j : Nat) : Rk := { S := List.replicate j (List.replicate 64 0), P := [], left := -1, gone := false, count := 0 }
theorem scells_snoc (l : List (List Int)) (s : List Int) : scells (l ++ [s]) = scells l ++ [.string (strOf s)] := by simp [scells]
theorem rfresh_at (W : World) : RefAt W.heap.size W.heap.size (.slice none 0 0) (.slice none 0 0) (rfresh 0) (W.alloc (.cells (rcells (.slice none 0 0) (.slice none 0 0) (rfresh 0)) 44)) where
  bD := Nat.le_refl _
  hD := heap_alloc_new W _
  hS := World.ownsRow_nil _ _ _ _
  hP := World.ownsRow_nil _ _ _ _
  n2 := Nat.zero_le _
  pl := Nat.zero_le _
  sw := fun s hs => by cases hs
  pw := fun x hx => by cases hx
  lim := by show (-1 : Int) ≤ -1; omega
  lim1 := by show (-1 : Int) ≤ 9223372036854775807; omega
  c0 := by show (0 : Int) ≤ 0; omega
  c1 := by show (0 : Int) ≤ 1000000; omega
/-- One sector more. -/
theorem RefAt.more {B D : Nat} {S v' : Value} {j : Nat} {W w6 : World} (h : RefAt B D S (.slice none 0 0) (rfresh j) W) (hj : j < 32)
    (hown : w6.ownsRow B 9 1 v' (j + 1) (scells (rfresh j).S ++ [.string (strOf (List.replicate 64 0))])) (hg : W.grownBy w6 S.ownBlock) :
    w6.cell? ⟨D, 0, none⟩ = some S ∧ w6.frozen? ⟨D, 0, none⟩ = false ∧
    RefAt B D v' (.slice none 0 0) (rfresh (j + 1)) (w6.setCell ⟨D, 0, none⟩ v') ∧ Below B W (w6.setCell ⟨D, 0, none⟩ v') := by
  obtain ⟨g1, g2, g3, g4, g5⟩ := hg
  have hne := h.ne
  have hD6 : w6.heap[D]? = some (.cells (rcells S (.slice none 0 0) (rfresh j)) 44 (0, 0)) := by
    rw [g5 D h.lt (fun e => hne.1 e.symm)]; exact h.hD
  have hvD : v'.ownBlock ≠ some D := fun e => by
    obtain ⟨cur, hc⟩ := own_type hown e
    exact cells_ne hc hD6 (by decide) rfl
  have hB6 : Below B W w6 := ⟨g1, g2, g3, g4, fun k hk => g5 k (Nat.lt_of_lt_of_le hk (Nat.le_of_lt (Nat.lt_of_le_of_lt h.bD h.lt))) (fun e => by have := (h.hS.lt k e.symm).1; omega)⟩
  have hrep : (rfresh (j + 1)).S = (rfresh j).S ++ [List.replicate 64 0] := List.replicate_succ'
  refine ⟨?_, frozen_of_row _ _ _ _ _ hD6, ?_⟩
  · rw [cell_of_row _ _ _ _ _ _ hD6]
    rfl
  · rw [setCell_eq_setRow w6 D 0 _ _ _ v' hD6]
    have ho : ∀ k, k ≠ D → (w6.setRow D ((rcells S (.slice none 0 0) (rfresh j)).setIfInBounds 0 v')).heap[k]? = w6.heap[k]? := fun k hk => setRow_other w6 D k _ hk
    refine ⟨{
      bD := h.bD
      hD := setRow_heap w6 D _ _ _ _ hD6
      hS := by
        rw [hrep, scells_snoc, List.length_append, List.length_singleton]
        have hl : (rfresh j).S.length = j := List.length_replicate
        rw [hl]
        exact own_block_keeps hown fun g hgg => ho g (fun e => hvD (by rw [hgg, e]))
      hP := World.ownsRow_nil _ _ _ _
      n2 := by show (List.replicate (j + 1) _).length ≤ 32; rw [List.length_replicate]; omega
      pl := Nat.zero_le _
      sw := fun s hs => by rw [List.eq_of_mem_replicate hs]; exact List.length_replicate
      pw := fun x hx => by cases hx
      lim := by show (-1 : Int) ≤ -1; omega
      lim1 := by show (-1 : Int) ≤ 9223372036854775807; omega
      c0 := by show (0 : Int) ≤ 0; omega
      c1 := by show (0 : Int) ≤ 1000000; omega }, below_setRow hB6 h.bD _⟩
end Go.Proofs.Yticiaiiedagalaa.dk
