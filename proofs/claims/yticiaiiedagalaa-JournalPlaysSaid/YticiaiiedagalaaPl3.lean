/- What Write needs: sectors, a write's cells, copies into a row of the disk. -/
import Derived.Test.YticiaiiedagalaaPl2
import Derived.Laws.CopyRow
import Derived.Laws.Tables
namespace Go.Proofs.Yticiaiiedagalaa.dk
open Go.PlainAid Go.ChangeShapes Go.WideShapes Go.ChangeAt Go.RowKit

theorem sector_any (N n k : Nat) (w : World) (hk : k < n) (hn : n ≤ 65536) :
    Calls Try.prog 45 #[.slice (some ⟨N, 0, none⟩) (n * 64) (n * 64), .int .i64 (k : Int)] w fun e w' => e = .returned (.slice (some ⟨N, k * 64, none⟩) 64 64) ∧ w = w' := by
  obtain ⟨x, hx⟩ : ∃ x, x = n * 64 := ⟨_, rfl⟩
  obtain ⟨y, hy⟩ : ∃ y, y = k * 64 := ⟨_, rfl⟩
  have hxy : y + 64 ≤ x := by omega
  have hy1 : IntKind.i64.wrap ((k : Int) * 64) = (y : Int) := by rw [IntKind.wrap_i64]; omega
  have hy2 : IntKind.i64.wrap (((k : Int) + 1) * 64) = ((y + 64 : Nat) : Int) := by rw [IntKind.wrap_i64]; omega
  have hy3 : (k : Int) * 64 = (y : Int) := by omega
  have hy4 : ((k : Int) + 1) * 64 = ((y + 64 : Nat) : Int) := by omega
  rw [← hx, ← hy]
  have hx1 : x ≤ 4194304 := by omega
  clear hx hy
  go_enter Try.func45, Try.ntmps45
  go_wp2
  have e : y + 64 - y = 64 := by omega
  simp only [e]
  go_ret
  exact ⟨rfl, rfl⟩

theorem infoWrite : (Try.prog.info? 90).map (fun i => (i.zero, i.size, i.bytes)) = some (some (.agg (wcells (0, List.replicate 64 0)).toArray), 65, 72) := by kernel_rfl
theorem built_write (x : Int) : Try.prog.built 90 [(0, .int .i64 x)] = some (.int .i64 x :: bcells (List.replicate 64 0)).toArray := by kernel_rfl
theorem zero_write (W : World) : (zeroValue 90).run Try.prog W = .ok (.agg (wcells (0, List.replicate 64 0)).toArray) W := by
  obtain ⟨i0, hi, hz0, hz1, hz2⟩ := info_parts infoWrite
  simp [zeroValue, typeInfo, hi, hz0]
theorem size_write : (Try.prog.info? 90).map (·.size) = some 65 := by kernel_rfl
theorem bcells_at (l : List Int) (j : Nat) (h : j < l.length) : (bcells l)[j]? = some (.int .u8 (l.getD j 0)) := by
  unfold bcells
  rw [List.getElem?_map, List.getD_eq_getElem?_getD, List.getElem?_eq_getElem h]
  rfl
theorem bcells_one (l : List Int) : ∀ u ∈ bcells l, u.oneCell' = true := by
  intro u hu
  obtain ⟨x, _, rfl⟩ := List.mem_map.1 hu
  rfl
theorem wcells_one (x : Nat × List Int) : ∀ u ∈ wcells x, u.oneCell' = true := by
  intro u hu
  rcases List.mem_cons.1 hu with rfl | hu
  · rfl
  · exact bcells_one _ u hu
/-- A slice that reads as the bytes l. -/
def Rd (W : World) (p : Option Addr) (n : Nat) (l : List Int) : Prop := l.length = n ∧ (0 < n → ∃ b off, p = some ⟨b, off, none⟩ ∧ b < W.heap.size ∧ ∀ i, i < n → W.cell? ⟨b, off + i, none⟩ = some (.int .u8 (l.getD i 0)))
theorem add_off (b off j : Nat) : (⟨b, off, none⟩ : Addr).add j = ⟨b, off + j, none⟩ := by unfold Addr.add; split <;> simp_all
theorem Rd.news {W : World} {p : Option Addr} {n : Nat} {l : List Int} (h : Rd W p n l) (h0 : 0 < (bcells l).length) : ∃ ad, p = some ad ∧ ∀ j v, (bcells l)[j]? = some v → W.cell? (ad.add j) = some v := by
  rw [bcells_length, h.1] at h0
  obtain ⟨b, off, rfl, _, hc⟩ := h.2 h0
  refine ⟨_, rfl, fun j v hj => ?_⟩
  have hjl : j < l.length := by
    obtain ⟨k, _⟩ := List.getElem?_eq_some_iff.1 hj
    rwa [bcells_length] at k
  rw [bcells_at l j hjl] at hj
  cases hj
  rw [add_off]
  exact hc j (by rw [← h.1]; exact hjl)
theorem Rd.below {W W' : World} {p : Option Addr} {n : Nat} {l : List Int} (h : Rd W p n l) (hb : Below W.heap.size W W') : Rd W' p n l := by
  refine ⟨h.1, fun h0 => ?_⟩
  obtain ⟨b, off, hp, hlt, hc⟩ := h.2 h0
  exact ⟨b, off, hp, Nat.lt_of_lt_of_le hlt hb.size, fun i hi => (hb.cell (p := ⟨b, off + i, none⟩) hlt).trans (hc i hi)⟩

/-- What is written, filled up with 0. -/
def pad (b : List Int) : List Int := b ++ List.replicate (64 - b.length) 0
theorem pad_length {b : List Int} (h : b.length ≤ 64) : (pad b).length = 64 := by unfold pad; rw [List.length_append, List.length_replicate]; omega
theorem splice_pad (x : Int) (b : List Int) : splice (Value.int .i64 x :: bcells (List.replicate 64 0)) 1 (bcells b) = .int .i64 x :: bcells (pad b) := by
  unfold splice pad
  rw [bcells_append, bcells_length]
  show [Value.int .i64 x] ++ (bcells b ++ _) = _
  rw [Nat.add_comm 1]
  show .int .i64 x :: (bcells b ++ (bcells (List.replicate 64 0)).drop b.length) = _
  congr 2
  unfold bcells
  rw [← List.map_drop, List.drop_replicate]
/-- The row of bytes with some turned. -/
def lay (l : List Int) (off : Nat) (b : List Int) : List Int := l.take off ++ b ++ l.drop (off + b.length)
theorem lay_length {l : List Int} {off : Nat} {b : List Int} (h : off + b.length ≤ l.length) : (lay l off b).length = l.length := by unfold lay; simp; omega
theorem lay_cells (l : List Int) (off : Nat) (b : List Int) : (((bcells l).toArray.toList.take off ++ (bcells b ++ (bcells l).toArray.toList.drop (off + (bcells b).length))).toArray) = (bcells (lay l off b)).toArray := by
  congr 1
  unfold lay
  rw [bcells_append, bcells_append, bcells_length, List.append_assoc]
  unfold bcells
  simp [List.map_take, List.map_drop]

theorem DiskAt.lay_now {B D L N : Nat} {P : Value} {m : Dk} {W : World} (h : DiskAt B D L N P m W) (off : Nat) (b : List Int) (hf : off + b.length ≤ m.n * 64) :
    DiskAt B D L N P { m with now := lay m.now off b } (W.setRow N (bcells (lay m.now off b)).toArray) ∧ Below B W (W.setRow N (bcells (lay m.now off b)).toArray) ∧ Fr N W (W.setRow N (bcells (lay m.now off b)).toArray) := by
  have ho : ∀ k, k ≠ N → (W.setRow N (bcells (lay m.now off b)).toArray).heap[k]? = W.heap[k]? := fun k hk => setRow_other W N k _ hk
  exact ⟨{ h with
    hD := by rw [ho D h.dn]; exact h.hD
    hL := by rw [ho L h.ln]; exact h.hL
    hN := setRow_heap W N _ _ _ _ h.hN
    hP := own_block_keeps h.hP fun g hg => ho g (fun e => h.pn (by rw [hg, e]))
    nl := by rw [lay_length (by rw [h.nl]; exact hf)]; exact h.nl }, below_setRow (Below.refl _ _) h.bN _, ho⟩
theorem DiskAt.lay_laid {B D L N : Nat} {P : Value} {m : Dk} {W : World} (h : DiskAt B D L N P m W) (off : Nat) (b : List Int) (hf : off + b.length ≤ m.n * 64) :
    DiskAt B D L N P { m with laid := lay m.laid off b } (W.setRow L (bcells (lay m.laid off b)).toArray) ∧ Below B W (W.setRow L (bcells (lay m.laid off b)).toArray) ∧ Fr L W (W.setRow L (bcells (lay m.laid off b)).toArray) := by
  have ho : ∀ k, k ≠ L → (W.setRow L (bcells (lay m.laid off b)).toArray).heap[k]? = W.heap[k]? := fun k hk => setRow_other W L k _ hk
  exact ⟨{ h with
    hD := by rw [ho D h.dl]; exact h.hD
    hN := by rw [ho N h.ln.symm]; exact h.hN
    hL := setRow_heap W L _ _ _ _ h.hL
    hP := own_block_keeps h.hP fun g hg => ho g (fun e => h.pl (by rw [hg, e]))
    ll := by rw [lay_length (by rw [h.ll]; exact hf)]; exact h.ll }, below_setRow (Below.refl _ _) h.bL _, ho⟩
theorem pcells_snoc (l : List (Nat × List Int)) (x : Nat × List Int) : pcells (l ++ [x]) = pcells l ++ wcells x := by simp [pcells]
/-- One write more is pending. -/
theorem DiskAt.grow {B D L N : Nat} {P : Value} {m : Dk} {W w6 : World} (h : DiskAt B D L N P m W) {g cap : Nat} {x : Nat × List Int}
    (hown : w6.ownsRow B 90 65 (.slice (some ⟨g, 0, none⟩) (m.pend.length + 1) cap) (m.pend.length + 1) (pcells m.pend ++ wcells x)) (hg : W.grownBy w6 P.ownBlock) (hx : x.1 < m.n ∧ x.2.length = 64) :
    w6.cell? ⟨D, 2, none⟩ = some P ∧ w6.frozen? ⟨D, 2, none⟩ = false ∧
    DiskAt B D L N (.slice (some ⟨g, 0, none⟩) (m.pend.length + 1) cap) { m with pend := m.pend ++ [x] } (w6.setCell ⟨D, 2, none⟩ (.slice (some ⟨g, 0, none⟩) (m.pend.length + 1) cap)) ∧
    Bf B (Xd D L N P) W (w6.setCell ⟨D, 2, none⟩ (.slice (some ⟨g, 0, none⟩) (m.pend.length + 1) cap)) := by
  have hl := h.lt
  have eD := hg.block D hl.1 (fun e => h.pd e.symm)
  have eL := hg.block L hl.2.1 (fun e => h.pl e.symm)
  have eN := hg.block N hl.2.2 (fun e => h.pn e.symm)
  rw [h.hD] at eD
  rw [h.hL] at eL
  rw [h.hN] at eN
  obtain ⟨cur, hgc⟩ : ∃ cur, w6.heap[g]? = some (.cells cur 90 (0, 0)) := by
    rcases hown.2 with ⟨hv, _⟩ | ⟨g', cap', cur, hv, _, hh, _⟩
    · cases hv
    · injection hv with ha _ _
      injection ha with ha
      injection ha with hb _
      subst hb
      exact ⟨cur, hh⟩
  have gD : g ≠ D := by
    rintro rfl
    rw [eD] at hgc
    injection hgc with hgc
    injection hgc with _ ht _
    exact absurd ht (by decide)
  have gL : g ≠ L := by
    rintro rfl
    rw [eL] at hgc
    injection hgc with hgc
    injection hgc with _ ht _
    exact absurd ht (by decide)
  have gN : g ≠ N := by
    rintro rfl
    rw [eN] at hgc
    injection hgc with hgc
    injection hgc with _ ht _
    exact absurd ht (by decide)
  refine ⟨by rw [cell_of_row _ _ _ _ _ _ eD]; rfl, by simp [World.frozen?, eD], ?_⟩
  rw [setCell_eq_setRow w6 D 2 _ _ _ _ eD]
  have ho : ∀ k, k ≠ D → (w6.setRow D ((dcells L N P m).setIfInBounds 2 (.slice (some ⟨g, 0, none⟩) (m.pend.length + 1) cap))).heap[k]? = w6.heap[k]? := fun k hk => setRow_other w6 D k _ hk
  have hb6 : Below B W w6 := (Below.refl _ _).grown hg (Nat.le_of_lt (Nat.lt_of_le_of_lt h.bD hl.1)) (fun k hk => (h.hP.lt k hk).1)
  refine ⟨?_, ⟨below_setRow hb6 h.bD _, fun k hk hx => (ho k (fun e => hx (.inl e))).trans (hg.block k hk (fun e => hx (.inr (.inr (.inr e.symm)))))⟩⟩
  exact {
    bD := h.bD, bL := h.bL, bN := h.bN, dl := h.dl, dn := h.dn, ln := h.ln
    pd := fun e => gD (by injection e)
    pl := fun e => gL (by injection e)
    pn := fun e => gN (by injection e)
    hD := setRow_heap w6 D _ _ _ _ eD
    hL := by rw [ho L h.dl.symm]; exact eL
    hN := by rw [ho N h.dn.symm]; exact eN
    hP := by
      rw [pcells_snoc, List.length_append]
      exact own_block_keeps hown fun k hk => ho k (fun e => gD (by injection hk with hk; rw [← e]; exact hk))
    ll := h.ll, nl := h.nl, n1 := h.n1, n2 := h.n2
    pw := fun y hy => by
      rcases List.mem_append.1 hy with hy | hy
      · exact h.pw y hy
      · rw [List.mem_singleton.1 hy]; exact hx
    lim := h.lim, wr0 := h.wr0, wr1 := h.wr1, lim1 := h.lim1 }
/-- A write's cells, read. -/
theorem load_write {W : World} {G : Nat} {x : Nat × List Int} (hg : W.heap[G]? = some (.cells (wcells x).toArray 90 (0, 0))) (hx : x.2.length = 64) : (loadCells ⟨G, 0, none⟩ 65).run Try.prog W = .ok (wcells x).toArray W := by
  have := run_loadCells_list (P := Try.prog) W ⟨G, 0, none⟩ (wcells x) (fun j u hj => by
    rw [add_off, Nat.zero_add, cell_of_row _ _ _ _ _ _ hg]
    simpa using hj)
  rw [show (wcells x).length = 65 by unfold wcells; rw [List.length_cons, bcells_length, hx]] at this
  exact this

theorem fold_whole : ∀ (l : List Value) (k : Nat) (cells : Array Value) (j : Nat), ((l.zipIdx k).foldl (fun cs (x : Value × Nat) => cs.setIfInBounds (0 + x.2) x.1) cells)[j]? = if k ≤ j ∧ j < k + l.length ∧ j < cells.size then l[j - k]? else cells[j]?
  | [], k, cells, j => by simp; omega
  | c :: l, k, cells, j => by
    rw [List.zipIdx_cons, List.foldl_cons, fold_whole l (k + 1) _ j]
    simp only [Array.size_setIfInBounds, Nat.zero_add, List.length_cons]
    by_cases h1 : k + 1 ≤ j ∧ j < k + 1 + l.length ∧ j < cells.size
    · rw [if_pos h1, if_pos (by omega), show j - k = (j - (k + 1)) + 1 by omega]
      rfl
    · rw [if_neg h1]
      by_cases h2 : j = k
      · subst h2
        by_cases h3 : j < cells.size
        · rw [if_pos (by omega), Nat.sub_self]
          simp [h3]
        · rw [if_neg (by omega)]
          simp [h3]
      · rw [if_neg (by omega), Array.getElem?_setIfInBounds, if_neg (fun e => h2 e.symm)]
theorem fill_whole (cells : Array Value) (wc : List Value) (h : cells.size = wc.length) : wc.toArray.zipIdx.foldl (fun cs (x : Value × Nat) => cs.setIfInBounds (0 + x.2) x.1) cells = wc.toArray := by
  apply Array.ext_getElem?
  intro j
  rw [← Array.foldl_toList]
  have := fold_whole wc 0 cells j
  rw [show wc.toArray.zipIdx.toList = wc.zipIdx 0 by simp]
  rw [this]
  by_cases hj : j < cells.size
  · rw [if_pos (by omega), Nat.sub_zero, List.getElem?_toArray]
  · rw [if_neg (by omega), Array.getElem?_eq_none (by omega), List.getElem?_toArray, List.getElem?_eq_none (by omega)]
theorem run_one_write (W : World) (wc : List Value) (hl : wc.length = 65) : (Instr.buildSlice 63 1 #[(0, .agg wc.toArray)]).run Try.prog W = .ok (.slice (some ⟨W.heap.size, 0, none⟩) 1 1) (W.alloc (.cells wc.toArray 90)) := by
  obtain ⟨i0, hi, hz0, hz1, hz2⟩ := info_parts infoWrite
  have hf : ∀ cells : Array Value, cells.size = i0.size → Instr.fill (fun i => some (i * i0.size, i0.size)) cells [(0, .agg wc.toArray)] = some wc.toArray := fun cells hc => by
    unfold Instr.fill
    have e1 : (Value.agg wc.toArray).cells = wc.toArray := rfl
    simp only [e1, Nat.zero_mul]
    rw [if_neg (by simp [hl, hc, hz1])]
    unfold Instr.fill
    rw [fill_whole cells wc (by omega)]
  have n1 : ¬ 16777216 < i0.size := by omega
  have n2 : i0.size ≠ 0 := by omega
  simp [Instr.buildSlice, run_underlying Try.underlying63, sizeOf, typeInfo, hi, n1, n2, zeroValue, hz0, hf, newRow]

/-- A write in a new variable. -/
theorem store_new (W : World) (za : Array Value) (wc : List Value) (h1 : za.size = 65) (h2 : wc.length = 65) (h3 : ∀ u ∈ wc, u.oneCell' = true) :
    ∃ W3, (storeCells ⟨W.heap.size, 0, none⟩ wc).run Try.prog (W.alloc (.cells za 90)) = .ok () W3 ∧ W3.heap[W.heap.size]? = some (.cells wc.toArray 90 (0, 0)) ∧ Below W.heap.size W W3 ∧ W3.heap.size = W.heap.size + 1 := by
  have := run_storeCells_at (P := Try.prog) W.heap.size 0 90 wc 0 za _ (heap_alloc_new W _) (by omega) h3
  rw [show (za.toList.take (0 + 0) ++ wc ++ za.toList.drop (0 + 0 + wc.length)).toArray = wc.toArray by
    rw [List.drop_eq_nil_of_le (by simp; omega)]; simp] at this
  exact ⟨_, this, setRow_heap _ _ _ _ _ _ (heap_alloc_new W _), below_setRow ((Below.refl _ _).alloc (Nat.le_refl _) _) (Nat.le_refl _) _, by simp [World.setRow, World.alloc, -World.alloc_eq]⟩
theorem zero_some : ∃ za : Array Value, za.size = 65 ∧ ∀ W : World, (zeroValue 90).run Try.prog W = .ok (.agg za) W := ⟨_, by simp [wcells, bcells], zero_write⟩

/-- A slice of one write, as one step of a region that draws. -/
theorem step_one_write {ops : Array Oper} {o : Oper} {a : Act} {w : World} {K : Act → World → Prop} {Q : Exit → Act → World → Prop} {E : Prop} (hgd : o.guard = none) (x : Operand)
    (ho : o.op = .buildSlice 63 1 #[(0, x)]) (wc : List Value) (hx : a.eval x = .agg wc.toArray) (hl : wc.length = 65)
    (h : K (a.put o.dst (.slice (some ⟨w.heap.size, 0, none⟩) 1 1)) (w.alloc (.cells wc.toArray 90))) :
    if Region.wanted o (yielded ops a.tmps) = true then Oper.wp Try.prog o a w K Q else E := by
  have hw : Region.wanted o (yielded ops a.tmps) = true := by simp [Region.wanted, hgd]
  rw [if_pos hw]
  have hr := run_one_write w wc hl
  unfold Oper.wp execOp
  rw [ho]
  simp only [List.map_toArray, List.map_cons, List.map_nil, hx, Sem.run_bind, hr, Result.andThen_ok]
  exact h
/-- append of one write: where its row lies then. -/
theorem run_append_write (w : World) (ty : TypeId) (base : Nat) (sv : Value) (n : Nat) (xs : List Value) (hown : w.ownsRow base 90 65 sv n xs)
    (ad : Addr) (c : Nat) (wc : List Value) (hl : wc.length = 65) (hnews : ∀ j u, wc[j]? = some u → w.cell? (ad.add j) = some u) (h1 : ∀ u ∈ wc, u.oneCell' = true) (hlen : n ≤ 1000000) (hbase : base ≤ w.heap.size) :
    ∃ g cap w', (Builtin.append_ #[63, 63] ty #[sv, .slice (some ad) 1 c]).run Try.prog w = .ok (.slice (some ⟨g, 0, none⟩) (n + 1) cap) w' ∧
      w'.ownsRow base 90 65 (.slice (some ⟨g, 0, none⟩) (n + 1) cap) (n + 1) (xs ++ wc) ∧ w.grownBy w' sv.ownBlock ∧ (sv.ownBlock = some g ∨ w.heap.size ≤ g) := by
  obtain ⟨i0, hi, hz0, hz1, hz2⟩ := info_parts infoWrite
  obtain ⟨v', w', hr, h2, h3, h4⟩ := run_append_own (P := Try.prog) w base 63 ty 90 i0 _ 65 72 Try.underlying63 hi hz0 hz1 hz2 (by simp [Value.cells, wcells, bcells]) (by decide) sv n xs hown ad 1 c wc (by rw [hl]) hnews h1 (by unfold maxLen; omega) (by omega) hbase
  obtain ⟨g, cap, rfl⟩ : ∃ g cap, v' = .slice (some ⟨g, 0, none⟩) (n + 1) cap := by
    rcases h2.2 with ⟨hv, h0⟩ | ⟨g, cap, cur, hv, _⟩
    · omega
    · exact ⟨g, cap, hv⟩
  refine ⟨g, cap, w', hr, h2, h3, ?_⟩
  rcases hown.2 with ⟨rfl, rfl⟩ | ⟨g0, cap0, cur, rfl, hbg, hg, hnc, hcm, hcs, htake⟩
  · right
    have hx : xs = [] := List.eq_nil_of_length_eq_zero (by simpa using hown.1)
    have hr2 := run_append_nil (P := Try.prog) w 63 ty 90 i0 _ Try.underlying63 hi hz0 ad 1 c wc (by rw [hl, hz1]) hnews (by omega) (by omega) (by rw [hz2]; omega)
    simp only [Nat.zero_add] at hr
    rw [hr2] at hr
    injection hr with hv _
    injection hv with ha _ _
    injection ha with ha
    injection ha with hb _
    omega
  · by_cases hroom : n + 1 ≤ cap0
    · left
      have hfit : n * i0.size + wc.length ≤ cur.size := by rw [hl, hcs, hz1]; omega
      have hr2 := run_append_room (P := Try.prog) w 63 ty 90 i0 Try.underlying63 hi g0 n cap0 cur hg ad 1 c wc (by rw [hl, hz1]) hnews h1 hroom hfit
      rw [hr2] at hr
      injection hr with hv _
      injection hv with ha _ _
      injection ha with ha
      injection ha with hb _
      show some g0 = some g
      rw [hb]
    · right
      have holds : ∀ j u, xs[j]? = some u → w.cell? ((⟨g0, 0, none⟩ : Addr).add j) = some u := hown.cells (g := g0) rfl
      have hr2 := run_append_grow (P := Try.prog) w 63 ty 90 i0 _ Try.underlying63 hi hz0 ⟨g0, 0, none⟩ n cap0 xs (by rw [hown.1, hz1]) holds ad 1 c wc (by rw [hl, hz1]) hnews (by omega) (by omega) (growslice_fits (by omega) (by rw [hz2]; omega))
      rw [hr2] at hr
      injection hr with hv _
      injection hv with ha _ _
      injection ha with ha
      injection ha with hb _
      omega
/-- append of one write, as one step of a region that draws. -/
theorem step_append_write {ops : Array Oper} {o : Oper} {a : Act} {w : World} {K : Act → World → Prop} {Q : Exit → Act → World → Prop} {E : Prop} (hgd : o.guard = none) (s x : Operand)
    (ho : o.op = .call { callee := .builtin .append, args := #[s, x], argTypes := #[63, 63] })
    (base : Nat) (sv : Value) (n : Nat) (xs : List Value) (hs : a.eval s = sv) (hown : w.ownsRow base 90 65 sv n xs)
    (ad : Addr) (c : Nat) (hx : a.eval x = .slice (some ad) 1 c) (wc : List Value) (hl : wc.length = 65) (hnews : ∀ j u, wc[j]? = some u → w.cell? (ad.add j) = some u) (h1 : ∀ u ∈ wc, u.oneCell' = true)
    (hlen : n ≤ 1000000) (hbase : base ≤ w.heap.size)
    (h : ∀ g cap w', w'.ownsRow base 90 65 (.slice (some ⟨g, 0, none⟩) (n + 1) cap) (n + 1) (xs ++ wc) → w.grownBy w' sv.ownBlock → (sv.ownBlock = some g ∨ w.heap.size ≤ g) → K (a.put o.dst (.slice (some ⟨g, 0, none⟩) (n + 1) cap)) w') :
    if Region.wanted o (yielded ops a.tmps) = true then Oper.wp Try.prog o a w K Q else E := by
  have hw : Region.wanted o (yielded ops a.tmps) = true := by simp [Region.wanted, hgd]
  rw [if_pos hw]
  obtain ⟨g, cap, w', hr, h2, h3, h4⟩ := run_append_write w o.type base sv n xs hown ad c wc hl hnews h1 hlen hbase
  unfold Oper.wp execOp
  simp only [ho, resolve, invoke, builtin, Sem.run_bind, Sem.run_pure, Result.andThen_ok, List.map_toArray, List.map_cons, List.map_nil, hs, hx, hr]
  exact h g cap w' h2 h3 h4

/-- What is written is copied to the new write. -/
theorem copy_new {W W0 : World} {G k c : Nat} {x : Int} {p : Option Addr} {b : List Int} (hg : W.heap[G]? = some (.cells (Value.int .i64 x :: bcells (List.replicate 64 0)).toArray 90 (0, 0))) (hR : Rd W p k b) (hk : k ≤ 64) (hb : Below G W0 W) :
    ∃ W3, (Builtin.copy_ #[45, 45] 3 #[.slice (some ⟨G, 1, none⟩) 64 64, .slice p k c]).run Try.prog W = .ok (.int .i64 (k : Int)) W3 ∧
      W3.heap[G]? = some (.cells (Value.int .i64 x :: bcells (pad b)).toArray 90 (0, 0)) ∧ Below G W0 W3 := by
  have hsz : (Try.prog.info? 5).map (·.size) = some 1 := by kernel_rfl
  rcases Nat.eq_zero_or_pos k with rfl | h0
  · refine ⟨W, run_copy_none _ _ _ _ 5 _ _ _ _ _ _ Try.underlying45 hsz (by simp), ?_, hb⟩
    have : b = [] := List.length_eq_zero_iff.1 hR.1
    subst this
    exact hg
  · obtain ⟨ad, rfl, hsrc⟩ := hR.news (by rw [bcells_length, hR.1]; exact h0)
    have hbl := hR.1
    have hcp := run_copy_row (P := Try.prog) W 45 45 3 5 G 1 64 64 ad k c _ 90 (bcells b) Try.underlying45 hsz hg (by rw [bcells_length, hbl]; exact (Nat.min_eq_left hk).symm) hsrc (by rw [bcells_length, hbl]; simp [bcells_length]; omega) (bcells_one b)
    have e : ((Value.int .i64 x :: bcells (List.replicate 64 0)).toArray.toList.take 1 ++ bcells b ++ (Value.int .i64 x :: bcells (List.replicate 64 0)).toArray.toList.drop (1 + (bcells b).length)).toArray = (Value.int .i64 x :: bcells (pad b)).toArray := by
      have := splice_pad x b
      unfold splice at this
      rw [List.append_assoc]
      exact congrArg List.toArray this
    rw [e, bcells_length, hbl] at hcp
    exact ⟨_, hcp, setRow_heap W G _ _ _ _ hg, below_setRow hb (Nat.le_refl _) _⟩

/-- copy as one step of a region that draws. -/
theorem step_copy_row {ops : Array Oper} {o : Oper} {a : Act} {w : World} {K : Act → World → Prop} {Q : Exit → Act → World → Prop} {E : Prop} (hgd : o.guard = none) (d s : Operand)
    (ho : o.op = .call { callee := .builtin .copy, args := #[d, s], argTypes := #[45, 45] })
    (g off dLen dCap : Nat) (ad : Addr) (sLen sCap : Nat) (hd : a.eval d = .slice (some ⟨g, off, none⟩) dLen dCap) (hs : a.eval s = .slice (some ad) sLen sCap)
    (l b : List Int) (hg : w.heap[g]? = some (.cells (bcells l).toArray 5 (0, 0))) (hn : b.length = Nat.min sLen dLen)
    (hsrc : ∀ j v, (bcells b)[j]? = some v → w.cell? (ad.add j) = some v) (hfit : off + b.length ≤ l.length)
    (h : K (a.put o.dst (goInt b.length)) (w.setRow g (bcells (lay l off b)).toArray)) :
    if Region.wanted o (yielded ops a.tmps) = true then Oper.wp Try.prog o a w K Q else E := by
  have hw : Region.wanted o (yielded ops a.tmps) = true := by simp [Region.wanted, hgd]
  rw [if_pos hw]
  have hsz : (Try.prog.info? 5).map (·.size) = some 1 := by kernel_rfl
  have hrun := run_copy_row (P := Try.prog) w 45 45 o.type 5 g off dLen dCap ad sLen sCap (bcells l).toArray 5 (bcells b) Try.underlying45 hsz hg (by rw [bcells_length]; exact hn) hsrc (by rw [bcells_length]; simp [bcells_length]; exact hfit) (bcells_one b)
  rw [List.append_assoc, lay_cells, bcells_length] at hrun
  unfold Oper.wp
  simp [execOp, ho, resolve, invoke, builtin, hd, hs, hrun, Result.andThen]
  exact h
end Go.Proofs.Yticiaiiedagalaa.dk
