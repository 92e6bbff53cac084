/- Order, of null and a bool. -/
import Derived.Test.YtebhbcbcnjdgjaaDoorH
import Derived.Deep.DeepCutAuto
import Derived.Deep.CutBlock
namespace Go.Proofs.YtebhbcbcnjdgjaaDoor.dk
open Go.PlainAid Go.ChangeShapes Go.WideShapes Go.ChangeAt Go.RowKit

set_option maxRecDepth 100000 in
theorem isNaN_any (w : World) (x : Int) : Calls Tryd.prog 45 #[.int .i64 x] w fun e w' => e = .returned (.bool false) ∧ w = w' := by
  have d : (x != x) = false := bne_self_eq_false _
  go_enter Tryd.func45, Tryd.ntmps45
  go_wp2_with fail
  go_ret
  exact ⟨rfl, rfl⟩
set_option maxRecDepth 100000 in
theorem Compare_lt (w : World) (x y : Int) (h : x < y) : Calls Tryd.prog 32 #[.int .i64 x, .int .i64 y] w fun e w' => e = .returned (.int .i64 (-1)) ∧ w = w' := by
  have d : decide (x < y) = true := decide_eq_true h
  have HN := Lib.hid (fun (v : World) (z : Int) => isNaN_any v z)
  go_enter Tryd.func32, Tryd.ntmps32
  go_wp2_with (go_at_call 45; with_reducible refine (HN.out _ _).mono ?_; rintro e w' ⟨rfl, rfl⟩)
  go_ret
  exact ⟨rfl, rfl⟩
/-- A part of a kind alone. -/
def kpart (k : Int) : Array Value := #[.int .i64 k, .bool false, .bool false, .string ⟨#[]⟩, .int .i64 0, .string ⟨#[]⟩, .int .i64 0]
set_option maxRecDepth 100000 in
theorem order_kinds (w : World) (x y : Int) (h : x < y) : Calls Tryd.prog 31 #[.agg (kpart x), .agg (kpart y)] w fun e w' => e = .returned (.int .i64 (-1)) ∧ Below w.heap.size w w' := by
  unfold kpart
  have d : (x != y) = true := by rw [bne_iff_ne]; omega
  have HC := Lib.hid (fun (v : World) => Compare_lt v x y h)
  obtain ⟨wv, hwv⟩ : ∃ wv, wv = (w.alloc (.cells #[.int .i64 x, .bool false, .bool false, .string ⟨#[]⟩, .int .i64 0, .string ⟨#[]⟩, .int .i64 0] 43)).alloc (.cells #[.int .i64 y, .bool false, .bool false, .string ⟨#[]⟩, .int .i64 0, .string ⟨#[]⟩, .int .i64 0] 43) := ⟨_, rfl⟩
  have hb : Below w.heap.size w wv := by rw [hwv]; exact ((Below.refl _ _).alloc (Nat.le_refl _) _).alloc (by simp [World.alloc, -World.alloc_eq]) _
  rw [hwv] at hb
  have HB := Lib.hid hb
  clear hb hwv h
  go_enter Tryd.func31, Tryd.ntmps31
  go_wp2_with (go_at_call 32; with_reducible refine (HC.out _).mono ?_; rintro e w' ⟨rfl, rfl⟩)
  go_ret
  exact ⟨rfl, HB.out⟩
set_option maxHeartbeats 4000000 in
set_option maxRecDepth 100000 in
theorem Order_kinds (w : World) (g1 g2 c1 c2 : Nat) (x y : Int) (h : x < y) (h1 : w.heap[g1]? = some (.cells (kpart x) 43 (0, 0))) (h2 : w.heap[g2]? = some (.cells (kpart y) 43 (0, 0))) :
    Calls Tryd.prog 22 #[.slice (some ⟨g1, 0, none⟩) 1 c1, .slice (some ⟨g2, 0, none⟩) 1 c2] w fun e w' => e = .returned (.int .i64 (-1)) ∧ Below w.heap.size w w' := by
  have HO := Lib.hid (fun (v : World) => order_kinds v x y h)
  have H1 := Lib.hid h1
  have H2 := Lib.hid h2
  clear h1 h2 h
  go_enter Tryd.func22, Tryd.ntmps22
  go_wp2_with fail
  go_loopw [12] (fun v wr => v = .int .i64 0 ∧ wr = w) (fun v _ => 0)
  case atStart => exact ⟨rfl, rfl⟩
  case round =>
    obtain ⟨rfl, rfl⟩ := hrel
    go_upto_region 4 with fail
    have hbd : Below wr.heap.size wr wr.drew := (Below.refl _ _).drew
    have r1 := (hbd.block _ (Array.getElem?_eq_some_iff.1 H1.out).1).trans H1.out
    have r2 := (hbd.block _ (Array.getElem?_eq_some_iff.1 H2.out).1).trans H2.out
    have q1 : ∀ j, wr.drew.cell? ⟨g1, j, none⟩ = (kpart x)[j]? := fun j => cell_of_row _ _ _ _ _ _ r1
    have q2 : ∀ j, wr.drew.cell? ⟨g2, j, none⟩ = (kpart y)[j]? := fun j => cell_of_row _ _ _ _ _ _ r2
    have hT : (fun W : World => W.cell? ⟨g1, 0, none⟩ = some (.int .i64 x) ∧ W.cell? ⟨g1, 1, none⟩ = some (.bool false) ∧ W.cell? ⟨g1, 2, none⟩ = some (.bool false) ∧ W.cell? ⟨g1, 3, none⟩ = some (.string ⟨#[]⟩) ∧ W.cell? ⟨g1, 4, none⟩ = some (.int .i64 0) ∧ W.cell? ⟨g1, 5, none⟩ = some (.string ⟨#[]⟩) ∧ W.cell? ⟨g1, 6, none⟩ = some (.int .i64 0) ∧ W.cell? ⟨g2, 0, none⟩ = some (.int .i64 y) ∧ W.cell? ⟨g2, 1, none⟩ = some (.bool false) ∧ W.cell? ⟨g2, 2, none⟩ = some (.bool false) ∧ W.cell? ⟨g2, 3, none⟩ = some (.string ⟨#[]⟩) ∧ W.cell? ⟨g2, 4, none⟩ = some (.int .i64 0) ∧ W.cell? ⟨g2, 5, none⟩ = some (.string ⟨#[]⟩) ∧ W.cell? ⟨g2, 6, none⟩ = some (.int .i64 0)) wr.drew := ⟨q1 0, q1 1, q1 2, q1 3, q1 4, q1 5, q1 6, q2 0, q2 1, q2 2, q2 3, q2 4, q2 5, q2 6⟩
    have HOd := Lib.hid (HO.out wr.drew)
    unfold kpart at HOd
    have HBd := Lib.hid hbd
    have R1 := Lib.hid r1
    have R2 := Lib.hid r2
    clear hbd q1 q2 r1 r2 H1 H2
    refine wp_region_held_drew (S := (fun W : World => W.cell? ⟨g1, 0, none⟩ = some (.int .i64 x) ∧ W.cell? ⟨g1, 1, none⟩ = some (.bool false) ∧ W.cell? ⟨g1, 2, none⟩ = some (.bool false) ∧ W.cell? ⟨g1, 3, none⟩ = some (.string ⟨#[]⟩) ∧ W.cell? ⟨g1, 4, none⟩ = some (.int .i64 0) ∧ W.cell? ⟨g1, 5, none⟩ = some (.string ⟨#[]⟩) ∧ W.cell? ⟨g1, 6, none⟩ = some (.int .i64 0) ∧ W.cell? ⟨g2, 0, none⟩ = some (.int .i64 y) ∧ W.cell? ⟨g2, 1, none⟩ = some (.bool false) ∧ W.cell? ⟨g2, 2, none⟩ = some (.bool false) ∧ W.cell? ⟨g2, 3, none⟩ = some (.string ⟨#[]⟩) ∧ W.cell? ⟨g2, 4, none⟩ = some (.int .i64 0) ∧ W.cell? ⟨g2, 5, none⟩ = some (.string ⟨#[]⟩) ∧ W.cell? ⟨g2, 6, none⟩ = some (.int .i64 0))) (by kernel_rfl) hT (fun hHeld => ?_)
    clear hHeld
    refine wpAnyH_take (i := 0) (oi := { dst := some 15, op := Op.move (Operand.tmp 0), type := 35, pos := "keys.go:225", after := #[], guard := none }) (v := ?_) rfl (by kernel_rfl) (by kernel_rfl) (by kernel_rfl) (fun _ _ _ h => h) (Or.inl ⟨by rfl, ?_⟩) (by assumption) ?_
    rotate_left
    · intro w hSw
      try dsimp only at hSw
      go_simp
      try with_reducible rfl
    try simp only [Act.put, List.setIfInBounds_toArray, List.set_cons_zero, List.set_cons_succ]
    refine wpAnyH_take (i := 1) (oi := { dst := some 16, op := Op.move (Operand.tmp 5), type := 3, pos := "keys.go:225", after := #[], guard := none }) (v := ?_) rfl (by kernel_rfl) (by kernel_rfl) (by kernel_rfl) (fun _ _ _ h => h) (Or.inl ⟨by rfl, ?_⟩) (by assumption) ?_
    rotate_left
    · intro w hSw
      try dsimp only at hSw
      go_simp
      try with_reducible rfl
    try simp only [Act.put, List.setIfInBounds_toArray, List.set_cons_zero, List.set_cons_succ]
    refine wpAnyH_take (i := 2) (oi := { dst := some 17, op := Op.indexAddr 35 (Operand.tmp 15) (Operand.tmp 16), type := 0, pos := "keys.go:225", after := #[{ on := 0, ground := Ground.data }, { on := 1, ground := Ground.data }], guard := none }) (v := ?_) rfl (by kernel_rfl) (by kernel_rfl) (by kernel_rfl) (fun _ _ _ h => h) (Or.inl ⟨by rfl, ?_⟩) (by assumption) ?_
    rotate_left
    · intro w hSw
      try dsimp only at hSw
      go_simp
      try with_reducible rfl
    try simp only [Act.put, List.setIfInBounds_toArray, List.set_cons_zero, List.set_cons_succ]
    refine wpAnyH_take (i := 3) (oi := { dst := some 18, op := Op.load 43 (Operand.tmp 17), type := 43, pos := "keys.go:225", after := #[{ on := 2, ground := Ground.data }], guard := none }) (v := ?_) rfl (by kernel_rfl) (by kernel_rfl) (by kernel_rfl) (fun _ _ _ h => h) (Or.inl ⟨by rfl, ?_⟩) (by assumption) ?_
    rotate_left
    · intro w hSw
      try dsimp only at hSw
      go_simp
      try with_reducible rfl
    try simp only [Act.put, List.setIfInBounds_toArray, List.set_cons_zero, List.set_cons_succ]
    refine wpAnyH_take (i := 4) (oi := { dst := some 19, op := Op.move (Operand.tmp 1), type := 35, pos := "keys.go:225", after := #[], guard := none }) (v := ?_) rfl (by kernel_rfl) (by kernel_rfl) (by kernel_rfl) (fun _ _ _ h => h) (Or.inl ⟨by rfl, ?_⟩) (by assumption) ?_
    rotate_left
    · intro w hSw
      try dsimp only at hSw
      go_simp
      try with_reducible rfl
    try simp only [Act.put, List.setIfInBounds_toArray, List.set_cons_zero, List.set_cons_succ]
    refine wpAnyH_take (i := 5) (oi := { dst := some 20, op := Op.move (Operand.tmp 5), type := 3, pos := "keys.go:225", after := #[], guard := none }) (v := ?_) rfl (by kernel_rfl) (by kernel_rfl) (by kernel_rfl) (fun _ _ _ h => h) (Or.inl ⟨by rfl, ?_⟩) (by assumption) ?_
    rotate_left
    · intro w hSw
      try dsimp only at hSw
      go_simp
      try with_reducible rfl
    try simp only [Act.put, List.setIfInBounds_toArray, List.set_cons_zero, List.set_cons_succ]
    refine wpAnyH_take (i := 6) (oi := { dst := some 21, op := Op.indexAddr 35 (Operand.tmp 19) (Operand.tmp 20), type := 0, pos := "keys.go:225", after := #[{ on := 4, ground := Ground.data }, { on := 5, ground := Ground.data }], guard := none }) (v := ?_) rfl (by kernel_rfl) (by kernel_rfl) (by kernel_rfl) (fun _ _ _ h => h) (Or.inl ⟨by rfl, ?_⟩) (by assumption) ?_
    rotate_left
    · intro w hSw
      try dsimp only at hSw
      go_simp
      try with_reducible rfl
    try simp only [Act.put, List.setIfInBounds_toArray, List.set_cons_zero, List.set_cons_succ]
    refine wpAnyH_take (i := 7) (oi := { dst := some 22, op := Op.load 43 (Operand.tmp 21), type := 43, pos := "keys.go:225", after := #[{ on := 6, ground := Ground.data }], guard := none }) (v := ?_) rfl (by kernel_rfl) (by kernel_rfl) (by kernel_rfl) (fun _ _ _ h => h) (Or.inl ⟨by rfl, ?_⟩) (by assumption) ?_
    rotate_left
    · intro w hSw
      try dsimp only at hSw
      go_simp
      try with_reducible rfl
    try simp only [Act.put, List.setIfInBounds_toArray, List.set_cons_zero, List.set_cons_succ]
    refine wpAnyH_ready (rs := [8]) (by kernel_rfl) (by simp) ?_
    refine AllReadyH.cons (o := { dst := some 23, op := Op.call { callee := Callee.value (Operand.func 31), args := #[Operand.tmp 18, Operand.tmp 22], argTypes := #[43, 43] }, type := 3, pos := "keys.go:225", after := #[{ on := 3, ground := Ground.data }, { on := 7, ground := Ground.data }], guard := none }) rfl (fun K hK => ?_) AllReadyH.nil
    go_simp
    with_reducible refine HOd.out.mono ?_
    clear HOd
    rintro e w5 ⟨rfl, hb5⟩
    have HB5 := Lib.hid (HBd.out.trans (hb5.mono HBd.out.size))
    have r1 := (hb5.block _ (Array.getElem?_eq_some_iff.1 R1.out).1).trans R1.out
    have r2 := (hb5.block _ (Array.getElem?_eq_some_iff.1 R2.out).1).trans R2.out
    have q1 : ∀ j, w5.cell? ⟨g1, j, none⟩ = (kpart x)[j]? := fun j => cell_of_row _ _ _ _ _ _ r1
    have q2 : ∀ j, w5.cell? ⟨g2, j, none⟩ = (kpart y)[j]? := fun j => cell_of_row _ _ _ _ _ _ r2
    have hT5 : (fun W : World => W.cell? ⟨g1, 0, none⟩ = some (.int .i64 x) ∧ W.cell? ⟨g1, 1, none⟩ = some (.bool false) ∧ W.cell? ⟨g1, 2, none⟩ = some (.bool false) ∧ W.cell? ⟨g1, 3, none⟩ = some (.string ⟨#[]⟩) ∧ W.cell? ⟨g1, 4, none⟩ = some (.int .i64 0) ∧ W.cell? ⟨g1, 5, none⟩ = some (.string ⟨#[]⟩) ∧ W.cell? ⟨g1, 6, none⟩ = some (.int .i64 0) ∧ W.cell? ⟨g2, 0, none⟩ = some (.int .i64 y) ∧ W.cell? ⟨g2, 1, none⟩ = some (.bool false) ∧ W.cell? ⟨g2, 2, none⟩ = some (.bool false) ∧ W.cell? ⟨g2, 3, none⟩ = some (.string ⟨#[]⟩) ∧ W.cell? ⟨g2, 4, none⟩ = some (.int .i64 0) ∧ W.cell? ⟨g2, 5, none⟩ = some (.string ⟨#[]⟩) ∧ W.cell? ⟨g2, 6, none⟩ = some (.int .i64 0)) w5 := ⟨q1 0, q1 1, q1 2, q1 3, q1 4, q1 5, q1 6, q2 0, q2 1, q2 2, q2 3, q2 4, q2 5, q2 6⟩
    clear hb5 HBd r1 r2 q1 q2 R1 R2
    try go_wp2_with fail
    refine hK.out _ _ hT5 (fun _ => ?_)
    clear hK K
    try simp only [Act.put, List.setIfInBounds_toArray, List.set_cons_zero, List.set_cons_succ]
    clear hT
    refine wpAnyH_take (i := 9) (oi := { dst := some 6, op := Op.assign (Operand.tmp 23), type := 3, pos := "keys.go:225", after := #[{ on := 8, ground := Ground.data }, { on := 8, ground := Ground.chain }, { on := 0, ground := Ground.phase }, { on := 1, ground := Ground.phase }, { on := 2, ground := Ground.phase }, { on := 3, ground := Ground.phase }, { on := 4, ground := Ground.phase }, { on := 5, ground := Ground.phase }, { on := 6, ground := Ground.phase }, { on := 7, ground := Ground.phase }, { on := 8, ground := Ground.phase }], guard := none }) (v := ?_) rfl (by kernel_rfl) (by kernel_rfl) (by kernel_rfl) (fun _ _ _ h => h) (Or.inl ⟨by rfl, ?_⟩) (by assumption) ?_
    rotate_left
    · intro w hSw
      try dsimp only at hSw
      go_simp
      try with_reducible rfl
    try simp only [Act.put, List.setIfInBounds_toArray, List.set_cons_zero, List.set_cons_succ]
    refine wpAnyH_done (by kernel_rfl) ?_ _
    clear hT5
    go_wp2_with fail
    go_ret
    exact ⟨rfl, HB5.out⟩
end Go.Proofs.YtebhbcbcnjdgjaaDoor.dk
