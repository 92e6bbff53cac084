/- The document's read of a sector. -/
import Derived.Test.YticiaiiedagalaaPl30
import Derived.Laws.ResultCell
import Derived.Laws.Rows
namespace Go.Proofs.Yticiaiiedagalaa.dk
open Go.PlainAid Go.ChangeShapes Go.WideShapes Go.ChangeAt Go.RowKit

theorem below_drewN_heap (W : World) (y : Nat) : (W.drewN y).heap = W.heap := rfl
/-- What it answers. -/
def rv (l : List Int) (g off c : Nat) : Value := if isP l = true then .agg #[.int .u32 (fS l), .int .u32 (fN l), .int .i64 (fP l), .int .i64 (fC l), .slice (some ⟨g, off + 16, none⟩) (fB l).length (c - 16)] else .agg #[.int .u32 0, .int .u32 0, .int .i64 0, .int .i64 0, .slice none 0 0]
theorem results_row_tmp {P : Program} {fn : Func} {p u : Tmp} {ty : TypeId} (h : fn.results = #[.cell p ty, .tmp u]) (tmps : Array Value) (w : World) (g : Nat) (t : TypeId) (cs : Array Value) (fr : Nat × Nat) (d : TypeDesc)
    (hp : tmps.getD p undef = .pointer (some ⟨g, 0, none⟩)) (hg : w.heap[g]? = some (.cells cs t fr))
    (hu : P.underlying ty = some d) (hd : (match d with | .struct _ | .array _ _ => true | _ => false) = true) (hi : (P.info? ty).map (·.size) = some cs.size) :
    (results fn tmps).run P w = .ok (.tuple #[.agg cs, tmps.getD u undef]) w := by
  rw [results_cell_tmp h, hp]
  simp [asAddr, run_loadVar_row w g t ty cs fr d hg hu hd hi, Result.andThen]
theorem setStep {W W0 : World} {A B j : Nat} {t : TypeId} {cs : Array Value} {v : Value} (hB : B ≤ A) (h : W.heap[A]? = some (.cells cs t (0, 0)) ∧ Below B W0 W) : (W.setCell ⟨A, j, none⟩ v).heap[A]? = some (.cells (cs.setIfInBounds j v) t (0, 0)) ∧ Below B W0 (W.setCell ⟨A, j, none⟩ v) := by
  rw [setCell_eq_setRow W A j _ _ _ v h.1]
  exact ⟨setRow_heap W A _ _ _ _ h.1, below_setRow h.2 hB _⟩
theorem set5 {W W0 : World} {A B : Nat} {t : TypeId} {a0 a1 a2 a3 a4 v0 v1 v2 v3 v4 : Value} (h : W.heap[A]? = some (.cells #[a0, a1, a2, a3, a4] t (0, 0))) (hB : B ≤ A) (hb : Below B W0 W) :
    (((((W.setCell ⟨A, 0, none⟩ v0).setCell ⟨A, 1, none⟩ v1).setCell ⟨A, 2, none⟩ v2).setCell ⟨A, 3, none⟩ v3).setCell ⟨A, 4, none⟩ v4).heap[A]? = some (.cells #[v0, v1, v2, v3, v4] t (0, 0)) ∧ Below B W0 (((((W.setCell ⟨A, 0, none⟩ v0).setCell ⟨A, 1, none⟩ v1).setCell ⟨A, 2, none⟩ v2).setCell ⟨A, 3, none⟩ v3).setCell ⟨A, 4, none⟩ v4) :=
  setStep (j := 4) (v := v4) hB (setStep (j := 3) (v := v3) hB (setStep (j := 2) (v := v2) hB (setStep (j := 1) (v := v1) hB (setStep (j := 0) (v := v0) hB ⟨h, hb⟩))))
set_option maxHeartbeats 4000000 in
set_option maxRecDepth 100000 in
theorem rread_any (w : World) (g off c : Nat) (l : List Int) (h : Rd w (some ⟨g, off, none⟩) 64 l) (hb : Bys l) (hc : 64 ≤ c) (hg : g < w.heap.size) :
    Calls Try.prog 42 #[.slice (some ⟨g, off, none⟩) 64 c] w fun e w' => e = .returned (.tuple #[rv l g off c, .bool (isP l)]) ∧ Below w.heap.size w w' := by
  have hl := h.1
  have c0 := h.cell 0 (by omega)
  have c1 := h.cell 1 (by omega)
  have c14 := h.cell 14 (by omega)
  rw [Nat.add_zero] at c0
  have e : Hid (isP l = ((decide (l.getD 0 0 = 165) && decide (l.getD 1 0 = 90)) && decide (l.getD 14 0 ≤ 48))) := by
    show isP l = _
    unfold isP; rw [hl]; simp
  have hx : ∀ i, i < 64 → 0 ≤ l.getD i 0 ∧ l.getD i 0 ≤ 255 := fun i hi => by
    rw [List.getD_eq_getElem?_getD, List.getElem?_eq_getElem (by omega)]
    exact hb _ (List.getElem_mem _)
  by_cases hp : isP l = true
  · have erv : Hid (rv l g off c = .agg #[.int .u32 (fS l), .int .u32 (fN l), .int .i64 (fP l), .int .i64 (fC l), .slice (some ⟨g, off + 16, none⟩) (fB l).length (c - 16)]) := by
      show rv l g off c = _
      unfold rv; rw [if_pos hp]
    have hp2 := hp
    rw [e.out] at hp2
    simp only [Bool.and_eq_true, decide_eq_true_eq] at hp2
    obtain ⟨⟨e0, e1⟩, e2⟩ := hp2
    rw [e0] at c0
    rw [e1] at c1
    have hz0 := (hx 14 (by omega)).1
    have HF1 := Lib.hid (fun (W : World) (hbw : Below w.heap.size w W) => rfour_any W g (off + 2) (c - 2) ((l.drop 2).take 4) ((h.cut 2 4 (by omega)).below hbw) ((hb.drop 2).take 4))
    have HF2 := Lib.hid (fun (W : World) (hbw : Below w.heap.size w W) => rfour_any W g (off + 6) (c - 6) ((l.drop 6).take 4) ((h.cut 6 4 (by omega)).below hbw) ((hb.drop 6).take 4))
    have eP : Hid (fP l = l.getD 10 0 * 256 + l.getD 11 0) := by
      show hi ((l.drop 10).take 2) = _
      rw [hi_two _ (by rw [List.length_take, List.length_drop, hl]; rfl) ((hb.drop _).take _)]
      simp only [List.getD_eq_getElem?_getD, List.getElem?_take, List.getElem?_drop]
      rfl
    have eC : Hid (fC l = l.getD 12 0 * 256 + l.getD 13 0) := by
      show hi ((l.drop 12).take 2) = _
      rw [hi_two _ (by rw [List.length_take, List.length_drop, hl]; rfl) ((hb.drop _).take _)]
      simp only [List.getD_eq_getElem?_getD, List.getElem?_take, List.getElem?_drop]
      rfl
    have k10 := h.cell 10 (by omega)
    have k11 := h.cell 11 (by omega)
    have k12 := h.cell 12 (by omega)
    have k13 := h.cell 13 (by omega)
    have x10 := hx 10 (by omega)
    have x11 := hx 11 (by omega)
    have x12 := hx 12 (by omega)
    have x13 := hx 13 (by omega)
    have eB : Hid ((fB l).length = (l.getD 14 0).toNat) := by
      show (fB l).length = _
      unfold fB fZ
      rw [List.length_take, List.length_drop, hl]; omega
    rw [hp, erv.out, eP.out, eC.out, eB.out]
    obtain ⟨z, hz⟩ := Int.eq_ofNat_of_zero_le hz0
    rw [hz] at c14 e2 ⊢
    have hzb : z ≤ 48 := by omega
    rw [show ((z : Int)).toNat = z from rfl]
    show Calls _ _ _ _ fun e w' => e = .returned (.tuple #[.agg #[.int .u32 (hi ((l.drop 2).take 4)), .int .u32 (hi ((l.drop 6).take 4)), _, _, _], _]) ∧ _
    generalize l.getD 10 0 = y10 at k10 x10 ⊢
    generalize l.getD 11 0 = y11 at k11 x11 ⊢
    generalize l.getD 12 0 = y12 at k12 x12 ⊢
    generalize l.getD 13 0 = y13 at k13 x13 ⊢
    generalize hi ((l.drop 2).take 4) = s4 at HF1 ⊢
    generalize hi ((l.drop 6).take 4) = n4 at HF2 ⊢
    have dz : decide ((48 : Int) < (z : Int)) = false := decide_eq_false (by omega)
    have ws : IntKind.i64.wrap ((16 : Int) + z) = ((16 + z : Nat) : Int) := by rw [IntKind.wrap_i64]; omega
    have wp1 : IntKind.i64.wrap (y10 * 256 + y11) = y10 * 256 + y11 := by rw [IntKind.wrap_i64]; omega
    have wp2 : IntKind.i64.wrap (y12 * 256 + y13) = y12 * 256 + y13 := by rw [IntKind.wrap_i64]; omega
    have wp3 : IntKind.i64.wrap (y10 * 256) = y10 * 256 := by rw [IntKind.wrap_i64]; omega
    have wp4 : IntKind.i64.wrap (y12 * 256) = y12 * 256 := by rw [IntKind.wrap_i64]; omega
    clear e hx hp erv eP eC eB e0 e1 e2 hz hz0 hb hl h
    go_enter Try.func42, Try.ntmps42
    go_wp2_with fail
    have q1 : (6 : Int) ≤ (c : Int) := by omega
    have q2 : ¬ c = 2 := by omega
    have q3 : (10 : Int) ≤ (c : Int) := by omega
    have q4 : ¬ c = 6 := by omega
    have q5 : ((16 + z : Nat) : Int) ≤ (c : Int) := by omega
    have q5b : (16 : Int) + (z : Int) ≤ (c : Int) := by omega
    have q6 : ¬ c = 16 := by omega
    have q7 : (16 : Int) ≤ ((16 + z : Nat) : Int) := by omega
    have q8 : (16 : Int) ≤ 16 + (z : Int) := by omega
    have hTz : ∀ W : World, (Below w.heap.size w W ∧ W.heap[w.heap.size]? = some (.cells #[.int .u32 0, .int .u32 0, .int .i64 0, .int .i64 0, .slice none 0 0] 81 (0, 0))) → ∀ y, Below w.heap.size w (W.drewN y) ∧ (W.drewN y).heap[w.heap.size]? = some (.cells #[.int .u32 0, .int .u32 0, .int .i64 0, .int .i64 0, .slice none 0 0] 81 (0, 0)) := fun W h y => ⟨below_drewN h.1 y, by rw [(below_drewN_heap W y)]; exact h.2⟩
    have hG1 := fun (W : World) (h : Below w.heap.size w W ∧ W.heap[w.heap.size]? = some (.cells #[.int .u32 0, .int .u32 0, .int .i64 0, .int .i64 0, .slice none 0 0] 81 (0, 0))) => (HF1.out W h.1).mono (fun e w' (he : e = .returned (.int .u32 s4) ∧ ∃ y, w' = W.drewN y) => show e = .returned (.int .u32 s4) ∧ (Below w.heap.size w w' ∧ w'.heap[w.heap.size]? = some (.cells #[.int .u32 0, .int .u32 0, .int .i64 0, .int .i64 0, .slice none 0 0] 81 (0, 0))) by obtain ⟨h1, y, rfl⟩ := he; exact ⟨h1, hTz W h y⟩)
    have hG2 := fun (W : World) (h : Below w.heap.size w W ∧ W.heap[w.heap.size]? = some (.cells #[.int .u32 0, .int .u32 0, .int .i64 0, .int .i64 0, .slice none 0 0] 81 (0, 0))) => (HF2.out W h.1).mono (fun e w' (he : e = .returned (.int .u32 n4) ∧ ∃ y, w' = W.drewN y) => show e = .returned (.int .u32 n4) ∧ (Below w.heap.size w w' ∧ w'.heap[w.heap.size]? = some (.cells #[.int .u32 0, .int .u32 0, .int .i64 0, .int .i64 0, .slice none 0 0] 81 (0, 0))) by obtain ⟨h1, y, rfl⟩ := he; exact ⟨h1, hTz W h y⟩)
    have HG1 := Lib.hid hG1
    have HG2 := Lib.hid hG2
    generalize hw1 : w.alloc _ = w1
    have hA1 : Below w.heap.size w w1.drew ∧ w1.drew.heap[w.heap.size]? = some (.cells #[.int .u32 0, .int .u32 0, .int .i64 0, .int .i64 0, .slice none 0 0] 81 (0, 0)) := by rw [← hw1]; exact ⟨((Below.refl _ _).alloc (Nat.le_refl _) _).drew, heap_alloc_new _ _⟩
    have hTT : ∀ V : World, Below w.heap.size w V → (fun W : World => (W.cell? ⟨g, off + 10, none⟩ = some (.int .u8 y10) ∧ W.cell? ⟨g, off + 11, none⟩ = some (.int .u8 y11)) ∧ W.cell? ⟨g, off + 12, none⟩ = some (.int .u8 y12) ∧ W.cell? ⟨g, off + 13, none⟩ = some (.int .u8 y13)) V := fun V hV => ⟨⟨(hV.cell (p := ⟨g, off + 10, none⟩) hg).trans k10, (hV.cell (p := ⟨g, off + 11, none⟩) hg).trans k11⟩, (hV.cell (p := ⟨g, off + 12, none⟩) hg).trans k12, (hV.cell (p := ⟨g, off + 13, none⟩) hg).trans k13⟩
    have HTT := Lib.hid hTT
    have hT : (fun W : World => (W.cell? ⟨g, off + 10, none⟩ = some (.int .u8 y10) ∧ W.cell? ⟨g, off + 11, none⟩ = some (.int .u8 y11)) ∧ W.cell? ⟨g, off + 12, none⟩ = some (.int .u8 y12) ∧ W.cell? ⟨g, off + 13, none⟩ = some (.int .u8 y13)) w1.drew := hTT _ hA1.1
    have HA1 := Lib.hid hA1
    clear hTT hTz hG1 hG2 HF1 HF2 hw1 hA1 k10 k11 k12 k13
    refine wp_region_held_drew (S := (fun W : World => (W.cell? ⟨g, off + 10, none⟩ = some (.int .u8 y10) ∧ W.cell? ⟨g, off + 11, none⟩ = some (.int .u8 y11)) ∧ W.cell? ⟨g, off + 12, none⟩ = some (.int .u8 y12) ∧ W.cell? ⟨g, off + 13, none⟩ = some (.int .u8 y13))) (by kernel_rfl) hT (fun hHeld => ?_)
    clear hHeld
    refine wpAnyH_take (i := 0) (oi := { dst := some 31, op := Op.move (Operand.tmp 0), type := 45, pos := "ref.go:37", after := #[], guard := none }) (v := ?_) rfl (by kernel_rfl) (by kernel_rfl) (by kernel_rfl) (fun _ _ _ h => h) (Or.inl ⟨by rfl, ?_⟩) (by assumption) ?_
    rotate_left
    · intro w hSw
      try dsimp only at hSw
      go_simp
      try with_reducible rfl
    try simp only [Act.put, List.setIfInBounds_toArray, List.set_cons_zero, List.set_cons_succ]
    refine wpAnyH_take (i := 1) (oi := { dst := some 32, op := Op.slice 45 (Operand.tmp 31) (some (Operand.const (Value.int IntKind.i64 2))) (some (Operand.const (Value.int IntKind.i64 6))) none, type := 45, pos := "ref.go:37", after := #[{ on := 0, ground := Ground.data }], guard := none }) (v := ?_) rfl (by kernel_rfl) (by kernel_rfl) (by kernel_rfl) (fun _ _ _ h => h) (Or.inl ⟨by rfl, ?_⟩) (by assumption) ?_
    rotate_left
    · intro w hSw
      try dsimp only at hSw
      go_simp
      try with_reducible rfl
    try simp only [Act.put, List.setIfInBounds_toArray, List.set_cons_zero, List.set_cons_succ]
    refine wpAnyH_take (i := 3) (oi := { dst := some 34, op := Op.move (Operand.tmp 0), type := 45, pos := "ref.go:37", after := #[], guard := none }) (v := ?_) rfl (by kernel_rfl) (by kernel_rfl) (by kernel_rfl) (fun _ _ _ h => h) (Or.inl ⟨by rfl, ?_⟩) (by assumption) ?_
    rotate_left
    · intro w hSw
      try dsimp only at hSw
      go_simp
      try with_reducible rfl
    try simp only [Act.put, List.setIfInBounds_toArray, List.set_cons_zero, List.set_cons_succ]
    refine wpAnyH_take (i := 4) (oi := { dst := some 35, op := Op.slice 45 (Operand.tmp 34) (some (Operand.const (Value.int IntKind.i64 6))) (some (Operand.const (Value.int IntKind.i64 10))) none, type := 45, pos := "ref.go:37", after := #[{ on := 3, ground := Ground.data }], guard := none }) (v := ?_) rfl (by kernel_rfl) (by kernel_rfl) (by kernel_rfl) (fun _ _ _ h => h) (Or.inl ⟨by rfl, ?_⟩) (by assumption) ?_
    rotate_left
    · intro w hSw
      try dsimp only at hSw
      go_simp
      try with_reducible rfl
    try simp only [Act.put, List.setIfInBounds_toArray, List.set_cons_zero, List.set_cons_succ]
    refine wpAnyH_take (i := 6) (oi := { dst := some 37, op := Op.move (Operand.tmp 0), type := 45, pos := "ref.go:37", after := #[], guard := none }) (v := ?_) rfl (by kernel_rfl) (by kernel_rfl) (by kernel_rfl) (fun _ _ _ h => h) (Or.inl ⟨by rfl, ?_⟩) (by assumption) ?_
    rotate_left
    · intro w hSw
      try dsimp only at hSw
      go_simp
      try with_reducible rfl
    try simp only [Act.put, List.setIfInBounds_toArray, List.set_cons_zero, List.set_cons_succ]
    refine wpAnyH_take (i := 7) (oi := { dst := some 38, op := Op.indexAddr 45 (Operand.tmp 37) (Operand.const (Value.int IntKind.i64 10)), type := 0, pos := "ref.go:37", after := #[{ on := 6, ground := Ground.data }], guard := none }) (v := ?_) rfl (by kernel_rfl) (by kernel_rfl) (by kernel_rfl) (fun _ _ _ h => h) (Or.inl ⟨by rfl, ?_⟩) (by assumption) ?_
    rotate_left
    · intro w hSw
      try dsimp only at hSw
      go_simp
      try with_reducible rfl
    try simp only [Act.put, List.setIfInBounds_toArray, List.set_cons_zero, List.set_cons_succ]
    refine wpAnyH_take (i := 8) (oi := { dst := some 39, op := Op.load 5 (Operand.tmp 38), type := 5, pos := "ref.go:37", after := #[{ on := 7, ground := Ground.data }], guard := none }) (v := ?_) rfl (by kernel_rfl) (by kernel_rfl) (by kernel_rfl) (fun _ _ _ h => h) (Or.inl ⟨by rfl, ?_⟩) (by assumption) ?_
    rotate_left
    · intro w hSw
      try dsimp only at hSw
      go_simp
      try with_reducible rfl
    try simp only [Act.put, List.setIfInBounds_toArray, List.set_cons_zero, List.set_cons_succ]
    refine wpAnyH_take (i := 9) (oi := { dst := some 40, op := Op.convert 5 3 (Operand.tmp 39), type := 3, pos := "ref.go:37", after := #[{ on := 8, ground := Ground.data }], guard := none }) (v := ?_) rfl (by kernel_rfl) (by kernel_rfl) (by kernel_rfl) (fun _ _ _ h => h) (Or.inl ⟨by rfl, ?_⟩) (by assumption) ?_
    rotate_left
    · intro w hSw
      try dsimp only at hSw
      go_simp
      try with_reducible rfl
    try simp only [Act.put, List.setIfInBounds_toArray, List.set_cons_zero, List.set_cons_succ]
    refine wpAnyH_take (i := 10) (oi := { dst := some 41, op := Op.binOp BinOp.mul 3 (Operand.tmp 40) (Operand.const (Value.int IntKind.i64 256)) 3, type := 3, pos := "ref.go:37", after := #[{ on := 9, ground := Ground.data }], guard := none }) (v := ?_) rfl (by kernel_rfl) (by kernel_rfl) (by kernel_rfl) (fun _ _ _ h => h) (Or.inl ⟨by rfl, ?_⟩) (by assumption) ?_
    rotate_left
    · intro w hSw
      try dsimp only at hSw
      go_simp
      try with_reducible rfl
    try simp only [Act.put, List.setIfInBounds_toArray, List.set_cons_zero, List.set_cons_succ]
    refine wpAnyH_take (i := 11) (oi := { dst := some 42, op := Op.move (Operand.tmp 0), type := 45, pos := "ref.go:37", after := #[], guard := none }) (v := ?_) rfl (by kernel_rfl) (by kernel_rfl) (by kernel_rfl) (fun _ _ _ h => h) (Or.inl ⟨by rfl, ?_⟩) (by assumption) ?_
    rotate_left
    · intro w hSw
      try dsimp only at hSw
      go_simp
      try with_reducible rfl
    try simp only [Act.put, List.setIfInBounds_toArray, List.set_cons_zero, List.set_cons_succ]
    refine wpAnyH_take (i := 12) (oi := { dst := some 43, op := Op.indexAddr 45 (Operand.tmp 42) (Operand.const (Value.int IntKind.i64 11)), type := 0, pos := "ref.go:37", after := #[{ on := 11, ground := Ground.data }], guard := none }) (v := ?_) rfl (by kernel_rfl) (by kernel_rfl) (by kernel_rfl) (fun _ _ _ h => h) (Or.inl ⟨by rfl, ?_⟩) (by assumption) ?_
    rotate_left
    · intro w hSw
      try dsimp only at hSw
      go_simp
      try with_reducible rfl
    try simp only [Act.put, List.setIfInBounds_toArray, List.set_cons_zero, List.set_cons_succ]
    refine wpAnyH_take (i := 13) (oi := { dst := some 44, op := Op.load 5 (Operand.tmp 43), type := 5, pos := "ref.go:37", after := #[{ on := 12, ground := Ground.data }], guard := none }) (v := ?_) rfl (by kernel_rfl) (by kernel_rfl) (by kernel_rfl) (fun _ _ _ h => h) (Or.inl ⟨by rfl, ?_⟩) (by assumption) ?_
    rotate_left
    · intro w hSw
      try dsimp only at hSw
      go_simp
      try with_reducible rfl
    try simp only [Act.put, List.setIfInBounds_toArray, List.set_cons_zero, List.set_cons_succ]
    refine wpAnyH_take (i := 14) (oi := { dst := some 45, op := Op.convert 5 3 (Operand.tmp 44), type := 3, pos := "ref.go:37", after := #[{ on := 13, ground := Ground.data }], guard := none }) (v := ?_) rfl (by kernel_rfl) (by kernel_rfl) (by kernel_rfl) (fun _ _ _ h => h) (Or.inl ⟨by rfl, ?_⟩) (by assumption) ?_
    rotate_left
    · intro w hSw
      try dsimp only at hSw
      go_simp
      try with_reducible rfl
    try simp only [Act.put, List.setIfInBounds_toArray, List.set_cons_zero, List.set_cons_succ]
    refine wpAnyH_take (i := 15) (oi := { dst := some 46, op := Op.binOp BinOp.add 3 (Operand.tmp 41) (Operand.tmp 45) 3, type := 3, pos := "ref.go:37", after := #[{ on := 10, ground := Ground.data }, { on := 14, ground := Ground.data }], guard := none }) (v := ?_) rfl (by kernel_rfl) (by kernel_rfl) (by kernel_rfl) (fun _ _ _ h => h) (Or.inl ⟨by rfl, ?_⟩) (by assumption) ?_
    rotate_left
    · intro w hSw
      try dsimp only at hSw
      go_simp
      try with_reducible rfl
    try simp only [Act.put, List.setIfInBounds_toArray, List.set_cons_zero, List.set_cons_succ]
    refine wpAnyH_take (i := 16) (oi := { dst := some 47, op := Op.move (Operand.tmp 0), type := 45, pos := "ref.go:37", after := #[], guard := none }) (v := ?_) rfl (by kernel_rfl) (by kernel_rfl) (by kernel_rfl) (fun _ _ _ h => h) (Or.inl ⟨by rfl, ?_⟩) (by assumption) ?_
    rotate_left
    · intro w hSw
      try dsimp only at hSw
      go_simp
      try with_reducible rfl
    try simp only [Act.put, List.setIfInBounds_toArray, List.set_cons_zero, List.set_cons_succ]
    refine wpAnyH_take (i := 17) (oi := { dst := some 48, op := Op.indexAddr 45 (Operand.tmp 47) (Operand.const (Value.int IntKind.i64 12)), type := 0, pos := "ref.go:37", after := #[{ on := 16, ground := Ground.data }], guard := none }) (v := ?_) rfl (by kernel_rfl) (by kernel_rfl) (by kernel_rfl) (fun _ _ _ h => h) (Or.inl ⟨by rfl, ?_⟩) (by assumption) ?_
    rotate_left
    · intro w hSw
      try dsimp only at hSw
      go_simp
      try with_reducible rfl
    try simp only [Act.put, List.setIfInBounds_toArray, List.set_cons_zero, List.set_cons_succ]
    refine wpAnyH_take (i := 18) (oi := { dst := some 49, op := Op.load 5 (Operand.tmp 48), type := 5, pos := "ref.go:37", after := #[{ on := 17, ground := Ground.data }], guard := none }) (v := ?_) rfl (by kernel_rfl) (by kernel_rfl) (by kernel_rfl) (fun _ _ _ h => h) (Or.inl ⟨by rfl, ?_⟩) (by assumption) ?_
    rotate_left
    · intro w hSw
      try dsimp only at hSw
      go_simp
      try with_reducible rfl
    try simp only [Act.put, List.setIfInBounds_toArray, List.set_cons_zero, List.set_cons_succ]
    refine wpAnyH_take (i := 19) (oi := { dst := some 50, op := Op.convert 5 3 (Operand.tmp 49), type := 3, pos := "ref.go:37", after := #[{ on := 18, ground := Ground.data }], guard := none }) (v := ?_) rfl (by kernel_rfl) (by kernel_rfl) (by kernel_rfl) (fun _ _ _ h => h) (Or.inl ⟨by rfl, ?_⟩) (by assumption) ?_
    rotate_left
    · intro w hSw
      try dsimp only at hSw
      go_simp
      try with_reducible rfl
    try simp only [Act.put, List.setIfInBounds_toArray, List.set_cons_zero, List.set_cons_succ]
    refine wpAnyH_take (i := 20) (oi := { dst := some 51, op := Op.binOp BinOp.mul 3 (Operand.tmp 50) (Operand.const (Value.int IntKind.i64 256)) 3, type := 3, pos := "ref.go:37", after := #[{ on := 19, ground := Ground.data }], guard := none }) (v := ?_) rfl (by kernel_rfl) (by kernel_rfl) (by kernel_rfl) (fun _ _ _ h => h) (Or.inl ⟨by rfl, ?_⟩) (by assumption) ?_
    rotate_left
    · intro w hSw
      try dsimp only at hSw
      go_simp
      try with_reducible rfl
    try simp only [Act.put, List.setIfInBounds_toArray, List.set_cons_zero, List.set_cons_succ]
    refine wpAnyH_take (i := 21) (oi := { dst := some 52, op := Op.move (Operand.tmp 0), type := 45, pos := "ref.go:37", after := #[], guard := none }) (v := ?_) rfl (by kernel_rfl) (by kernel_rfl) (by kernel_rfl) (fun _ _ _ h => h) (Or.inl ⟨by rfl, ?_⟩) (by assumption) ?_
    rotate_left
    · intro w hSw
      try dsimp only at hSw
      go_simp
      try with_reducible rfl
    try simp only [Act.put, List.setIfInBounds_toArray, List.set_cons_zero, List.set_cons_succ]
    refine wpAnyH_take (i := 22) (oi := { dst := some 53, op := Op.indexAddr 45 (Operand.tmp 52) (Operand.const (Value.int IntKind.i64 13)), type := 0, pos := "ref.go:37", after := #[{ on := 21, ground := Ground.data }], guard := none }) (v := ?_) rfl (by kernel_rfl) (by kernel_rfl) (by kernel_rfl) (fun _ _ _ h => h) (Or.inl ⟨by rfl, ?_⟩) (by assumption) ?_
    rotate_left
    · intro w hSw
      try dsimp only at hSw
      go_simp
      try with_reducible rfl
    try simp only [Act.put, List.setIfInBounds_toArray, List.set_cons_zero, List.set_cons_succ]
    refine wpAnyH_take (i := 23) (oi := { dst := some 54, op := Op.load 5 (Operand.tmp 53), type := 5, pos := "ref.go:37", after := #[{ on := 22, ground := Ground.data }], guard := none }) (v := ?_) rfl (by kernel_rfl) (by kernel_rfl) (by kernel_rfl) (fun _ _ _ h => h) (Or.inl ⟨by rfl, ?_⟩) (by assumption) ?_
    rotate_left
    · intro w hSw
      try dsimp only at hSw
      go_simp
      try with_reducible rfl
    try simp only [Act.put, List.setIfInBounds_toArray, List.set_cons_zero, List.set_cons_succ]
    refine wpAnyH_take (i := 24) (oi := { dst := some 55, op := Op.convert 5 3 (Operand.tmp 54), type := 3, pos := "ref.go:37", after := #[{ on := 23, ground := Ground.data }], guard := none }) (v := ?_) rfl (by kernel_rfl) (by kernel_rfl) (by kernel_rfl) (fun _ _ _ h => h) (Or.inl ⟨by rfl, ?_⟩) (by assumption) ?_
    rotate_left
    · intro w hSw
      try dsimp only at hSw
      go_simp
      try with_reducible rfl
    try simp only [Act.put, List.setIfInBounds_toArray, List.set_cons_zero, List.set_cons_succ]
    refine wpAnyH_take (i := 25) (oi := { dst := some 56, op := Op.binOp BinOp.add 3 (Operand.tmp 51) (Operand.tmp 55) 3, type := 3, pos := "ref.go:37", after := #[{ on := 20, ground := Ground.data }, { on := 24, ground := Ground.data }], guard := none }) (v := ?_) rfl (by kernel_rfl) (by kernel_rfl) (by kernel_rfl) (fun _ _ _ h => h) (Or.inl ⟨by rfl, ?_⟩) (by assumption) ?_
    rotate_left
    · intro w hSw
      try dsimp only at hSw
      go_simp
      try with_reducible rfl
    try simp only [Act.put, List.setIfInBounds_toArray, List.set_cons_zero, List.set_cons_succ]
    refine wpAnyH_take (i := 26) (oi := { dst := some 57, op := Op.move (Operand.tmp 0), type := 45, pos := "ref.go:37", after := #[], guard := none }) (v := ?_) rfl (by kernel_rfl) (by kernel_rfl) (by kernel_rfl) (fun _ _ _ h => h) (Or.inl ⟨by rfl, ?_⟩) (by assumption) ?_
    rotate_left
    · intro w hSw
      try dsimp only at hSw
      go_simp
      try with_reducible rfl
    try simp only [Act.put, List.setIfInBounds_toArray, List.set_cons_zero, List.set_cons_succ]
    refine wpAnyH_take (i := 27) (oi := { dst := some 58, op := Op.move (Operand.tmp 4), type := 3, pos := "ref.go:37", after := #[], guard := none }) (v := ?_) rfl (by kernel_rfl) (by kernel_rfl) (by kernel_rfl) (fun _ _ _ h => h) (Or.inl ⟨by rfl, ?_⟩) (by assumption) ?_
    rotate_left
    · intro w hSw
      try dsimp only at hSw
      go_simp
      try with_reducible rfl
    try simp only [Act.put, List.setIfInBounds_toArray, List.set_cons_zero, List.set_cons_succ]
    refine wpAnyH_take (i := 28) (oi := { dst := some 59, op := Op.binOp BinOp.add 3 (Operand.const (Value.int IntKind.i64 16)) (Operand.tmp 58) 3, type := 3, pos := "ref.go:37", after := #[{ on := 27, ground := Ground.data }], guard := none }) (v := ?_) rfl (by kernel_rfl) (by kernel_rfl) (by kernel_rfl) (fun _ _ _ h => h) (Or.inl ⟨by rfl, ?_⟩) (by assumption) ?_
    rotate_left
    · intro w hSw
      try dsimp only at hSw
      go_simp
      try with_reducible rfl
    try simp only [Act.put, List.setIfInBounds_toArray, List.set_cons_zero, List.set_cons_succ]
    refine wpAnyH_take (i := 29) (oi := { dst := some 60, op := Op.slice 45 (Operand.tmp 57) (some (Operand.const (Value.int IntKind.i64 16))) (some (Operand.tmp 59)) none, type := 45, pos := "ref.go:37", after := #[{ on := 26, ground := Ground.data }, { on := 28, ground := Ground.data }], guard := none }) (v := ?_) rfl (by kernel_rfl) (by kernel_rfl) (by kernel_rfl) (fun _ _ _ h => h) (Or.inl ⟨by rfl, ?_⟩) (by assumption) ?_
    rotate_left
    · intro w hSw
      try dsimp only at hSw
      go_simp
      try with_reducible rfl
    try simp only [Act.put, List.setIfInBounds_toArray, List.set_cons_zero, List.set_cons_succ]
    refine wpAnyH_ready (rs := [2]) (by kernel_rfl) (by simp) ?_
    refine AllReadyH.cons (o := { dst := some 33, op := Op.call { callee := Callee.value (Operand.func 56), args := #[Operand.tmp 32], argTypes := #[45] }, type := 70, pos := "ref.go:37", after := #[{ on := 1, ground := Ground.data }], guard := none }) rfl (fun K hK => ?_) AllReadyH.nil
    go_simp
    with_reducible refine (HG1.out _ HA1.out).mono ?_
    clear HG1 HA1
    rintro e wxy1 ⟨rfl, hA2⟩
    have HA2 := Lib.hid hA2
    clear hA2
    try go_wp2_with fail
    have hTny1 : (fun W : World => (W.cell? ⟨g, off + 10, none⟩ = some (.int .u8 y10) ∧ W.cell? ⟨g, off + 11, none⟩ = some (.int .u8 y11)) ∧ W.cell? ⟨g, off + 12, none⟩ = some (.int .u8 y12) ∧ W.cell? ⟨g, off + 13, none⟩ = some (.int .u8 y13)) wxy1 := HTT.out _ HA2.out.1
    refine hK.out _ _ hTny1 (fun _ => ?_)
    clear hK K
    try simp only [Act.put, List.setIfInBounds_toArray, List.set_cons_zero, List.set_cons_succ]
    clear hT
    refine wpAnyH_ready (rs := [5]) (by kernel_rfl) (by simp) ?_
    refine AllReadyH.cons (o := { dst := some 36, op := Op.call { callee := Callee.value (Operand.func 56), args := #[Operand.tmp 35], argTypes := #[45] }, type := 70, pos := "ref.go:37", after := #[{ on := 4, ground := Ground.data }, { on := 2, ground := Ground.chain }], guard := none }) rfl (fun K hK => ?_) AllReadyH.nil
    go_simp
    with_reducible refine (HG2.out _ HA2.out).mono ?_
    clear HG2 HA2
    rintro e wxy2 ⟨rfl, hA2⟩
    have HA3 := Lib.hid hA2
    clear hA2
    try go_wp2_with fail
    have hTny2 : (fun W : World => (W.cell? ⟨g, off + 10, none⟩ = some (.int .u8 y10) ∧ W.cell? ⟨g, off + 11, none⟩ = some (.int .u8 y11)) ∧ W.cell? ⟨g, off + 12, none⟩ = some (.int .u8 y12) ∧ W.cell? ⟨g, off + 13, none⟩ = some (.int .u8 y13)) wxy2 := HTT.out _ HA3.out.1
    refine hK.out _ _ hTny2 (fun _ => ?_)
    clear hK K
    try simp only [Act.put, List.setIfInBounds_toArray, List.set_cons_zero, List.set_cons_succ]
    clear hTny1
    refine wpAnyH_take (i := 30) (oi := { dst := some 61, op := Op.build 81 #[(0, Operand.tmp 33), (1, Operand.tmp 36), (2, Operand.tmp 46), (3, Operand.tmp 56), (4, Operand.tmp 60)], type := 81, pos := "ref.go:37", after := #[{ on := 2, ground := Ground.data }, { on := 5, ground := Ground.data }, { on := 15, ground := Ground.data }, { on := 25, ground := Ground.data }, { on := 29, ground := Ground.data }], guard := none }) (v := ?_) rfl (by kernel_rfl) (by kernel_rfl) (by kernel_rfl) (fun _ _ _ h => h) (Or.inl ⟨by rfl, ?_⟩) (by assumption) ?_
    rotate_left
    · intro w hSw
      try dsimp only at hSw
      go_simp
      try with_reducible rfl
    try simp only [Act.put, List.setIfInBounds_toArray, List.set_cons_zero, List.set_cons_succ]
    have hA3 := HA3.out
    have kk0 := cell_of_row _ _ 0 _ _ _ hA3.2
    simp at kk0
    have zz0 := frozen_of_row _ _ 0 _ _ hA3.2
    have kk1 := cell_of_row _ _ 1 _ _ _ hA3.2
    simp at kk1
    have zz1 := frozen_of_row _ _ 1 _ _ hA3.2
    have kk2 := cell_of_row _ _ 2 _ _ _ hA3.2
    simp at kk2
    have zz2 := frozen_of_row _ _ 2 _ _ hA3.2
    have kk3 := cell_of_row _ _ 3 _ _ _ hA3.2
    simp at kk3
    have zz3 := frozen_of_row _ _ 3 _ _ hA3.2
    have kk4 := cell_of_row _ _ 4 _ _ _ hA3.2
    simp at kk4
    have zz4 := frozen_of_row _ _ 4 _ _ hA3.2
    clear hA3
    refine wpAnyH_ready (rs := [31]) (by kernel_rfl) (by simp) ?_
    refine AllReadyH.cons (o := { dst := none, op := Op.store 81 (Operand.tmp 2) (Operand.tmp 61), type := 0, pos := "ref.go:37", after := #[{ on := 30, ground := Ground.data }, { on := 5, ground := Ground.chain }, { on := 0, ground := Ground.phase }, { on := 1, ground := Ground.phase }, { on := 2, ground := Ground.phase }, { on := 3, ground := Ground.phase }, { on := 4, ground := Ground.phase }, { on := 5, ground := Ground.phase }, { on := 6, ground := Ground.phase }, { on := 7, ground := Ground.phase }, { on := 8, ground := Ground.phase }, { on := 9, ground := Ground.phase }, { on := 10, ground := Ground.phase }, { on := 11, ground := Ground.phase }, { on := 12, ground := Ground.phase }, { on := 13, ground := Ground.phase }, { on := 14, ground := Ground.phase }, { on := 15, ground := Ground.phase }, { on := 16, ground := Ground.phase }, { on := 17, ground := Ground.phase }, { on := 18, ground := Ground.phase }, { on := 19, ground := Ground.phase }, { on := 20, ground := Ground.phase }, { on := 21, ground := Ground.phase }, { on := 22, ground := Ground.phase }, { on := 23, ground := Ground.phase }, { on := 24, ground := Ground.phase }, { on := 25, ground := Ground.phase }, { on := 26, ground := Ground.phase }, { on := 27, ground := Ground.phase }, { on := 28, ground := Ground.phase }, { on := 29, ground := Ground.phase }, { on := 30, ground := Ground.phase }], guard := none }) rfl (fun K hK => ?_) AllReadyH.nil
    go_simp
    have hS5 := set5 (v0 := .int .u32 s4) (v1 := .int .u32 n4) (v2 := .int .i64 (IntKind.i64.wrap (IntKind.i64.wrap (IntKind.i64.wrap y10 * 256) + IntKind.i64.wrap y11))) (v3 := .int .i64 (IntKind.i64.wrap (IntKind.i64.wrap (IntKind.i64.wrap y12 * 256) + IntKind.i64.wrap y13))) (v4 := .slice (some ⟨g, off + 16, none⟩) ((16 + (z : Int)).toNat - 16) (c - 16)) HA3.out.2 (Nat.le_refl _) HA3.out.1
    have HS5 := Lib.hid hS5
    refine hK.out _ _ (HTT.out _ hS5.2) (fun _ => ?_)
    clear hK K hS5
    try simp only [Act.put, List.setIfInBounds_toArray, List.set_cons_zero, List.set_cons_succ]
    refine wpAnyH_take (i := 32) (oi := { dst := some 3, op := Op.assign (Operand.const (Value.bool true)), type := 4, pos := "ref.go:37", after := #[{ on := 31, ground := Ground.chain }, { on := 0, ground := Ground.phase }, { on := 1, ground := Ground.phase }, { on := 2, ground := Ground.phase }, { on := 3, ground := Ground.phase }, { on := 4, ground := Ground.phase }, { on := 5, ground := Ground.phase }, { on := 6, ground := Ground.phase }, { on := 7, ground := Ground.phase }, { on := 8, ground := Ground.phase }, { on := 9, ground := Ground.phase }, { on := 10, ground := Ground.phase }, { on := 11, ground := Ground.phase }, { on := 12, ground := Ground.phase }, { on := 13, ground := Ground.phase }, { on := 14, ground := Ground.phase }, { on := 15, ground := Ground.phase }, { on := 16, ground := Ground.phase }, { on := 17, ground := Ground.phase }, { on := 18, ground := Ground.phase }, { on := 19, ground := Ground.phase }, { on := 20, ground := Ground.phase }, { on := 21, ground := Ground.phase }, { on := 22, ground := Ground.phase }, { on := 23, ground := Ground.phase }, { on := 24, ground := Ground.phase }, { on := 25, ground := Ground.phase }, { on := 26, ground := Ground.phase }, { on := 27, ground := Ground.phase }, { on := 28, ground := Ground.phase }, { on := 29, ground := Ground.phase }, { on := 30, ground := Ground.phase }, { on := 31, ground := Ground.phase }], guard := none }) (v := ?_) rfl (by kernel_rfl) (by kernel_rfl) (by kernel_rfl) (fun _ _ _ h => h) (Or.inl ⟨by rfl, ?_⟩) (by assumption) ?_
    rotate_left
    · intro w hSw
      try dsimp only at hSw
      go_simp
      try with_reducible rfl
    try simp only [Act.put, List.setIfInBounds_toArray, List.set_cons_zero, List.set_cons_succ]
    refine wpAnyH_done (by kernel_rfl) ?_ _
    go_wp2_with fail
    have wy10 : IntKind.i64.wrap y10 = y10 := by rw [IntKind.wrap_i64]; omega
    have wy11 : IntKind.i64.wrap y11 = y11 := by rw [IntKind.wrap_i64]; omega
    have wy12 : IntKind.i64.wrap y12 = y12 := by rw [IntKind.wrap_i64]; omega
    have wy13 : IntKind.i64.wrap y13 = y13 := by rw [IntKind.wrap_i64]; omega
    refine bodyPost_ret (results_row_tmp rfl _ _ w.heap.size _ _ _ _ rfl HS5.out.1 Try.underlying81 rfl (by kernel_rfl)) rfl ⟨?_, HS5.out.2⟩
    rw [wy10, wy11, wy12, wy13, wp3, wp4, wp1, wp2, show (16 + (z : Int)).toNat - 16 = z by omega]
    rfl
  · have hpf : isP l = false := by simpa using hp
    have erv : Hid (rv l g off c = .agg #[.int .u32 0, .int .u32 0, .int .i64 0, .int .i64 0, .slice none 0 0]) := by
      show rv l g off c = _
      unfold rv; rw [if_neg hp]
    rw [hpf, erv.out]
    rw [e.out] at hpf
    generalize l.getD 0 0 = x0 at c0 hpf
    generalize l.getD 1 0 = x1 at c1 hpf
    generalize l.getD 14 0 = x2 at c14 hpf
    clear e hp erv hx hb h hl
    by_cases e0 : x0 = 165
    · subst e0
      by_cases e1 : x1 = 90
      · subst e1
        have e2 : ¬ x2 ≤ 48 := fun hh => by simp [hh] at hpf
        have d : decide ((48 : Int) < x2) = true := decide_eq_true (by omega)
        clear hpf
        go_enter Try.func42, Try.ntmps42
        go_wp2_with fail
        refine bodyPost_ret (results_row_tmp rfl _ _ w.heap.size _ _ _ _ rfl (heap_alloc_new _ _) Try.underlying81 rfl (by kernel_rfl)) rfl ⟨rfl, (Below.refl _ _).alloc (Nat.le_refl _) _⟩
      · have d : (x1 != 90) = true := by simpa using e1
        clear hpf
        go_enter Try.func42, Try.ntmps42
        go_wp2_with fail
        refine bodyPost_ret (results_row_tmp rfl _ _ w.heap.size _ _ _ _ rfl (heap_alloc_new _ _) Try.underlying81 rfl (by kernel_rfl)) rfl ⟨rfl, (Below.refl _ _).alloc (Nat.le_refl _) _⟩
    · have d : (x0 != 165) = true := by simpa using e0
      clear hpf
      go_enter Try.func42, Try.ntmps42
      go_wp2_with fail
      refine bodyPost_ret (results_row_tmp rfl _ _ w.heap.size _ _ _ _ rfl (heap_alloc_new _ _) Try.underlying81 rfl (by kernel_rfl)) rfl ⟨rfl, (Below.refl _ _).alloc (Nat.le_refl _) _⟩
end Go.Proofs.Yticiaiiedagalaa.dk
