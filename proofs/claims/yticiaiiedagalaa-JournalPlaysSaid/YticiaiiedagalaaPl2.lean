/- The contract of New. -/
import Derived.Test.YticiaiiedagalaaPl1
import Derived.Deep.RegionHeld
import Derived.Deep.RegionLaw
namespace Go.Proofs.Yticiaiiedagalaa.dk
open Go.PlainAid Go.ChangeShapes Go.WideShapes Go.ChangeAt Go.RowKit

theorem infoByte : (Try.prog.info? 5).map (fun i => (i.zero, i.size, i.bytes)) = some (some (.int .u8 0), 1, 1) := by kernel_rfl
theorem made_zeros (k : Nat) : madeCells #[Value.int .u8 0] k = (bcells (List.replicate k 0)).toArray := by
  unfold madeCells bcells
  apply Array.ext
  · simp
  · intro i h1 h2
    simp [Nat.mod_one]
theorem make_run (n : Nat) (h : n ≤ 65536) (W : World) : (Instr.makeSlice 45 (.int .i64 ((n : Int) * 64)) (.int .i64 ((n : Int) * 64))).run Try.prog W =
    .ok (.slice (some ⟨W.heap.size, 0, none⟩) (n * 64) (n * 64)) (W.alloc (.cells (bcells (List.replicate (n * 64) 0)).toArray 5)) := by
  obtain ⟨i0, hi, hz0, hz1, hz2⟩ := info_parts infoByte
  have hm := run_make (P := Try.prog) W 45 5 i0 (.int .u8 0) Try.underlying45 hi hz0 .i64 .i64 ((n : Int) * 64) ((n : Int) * 64) (by omega) (by omega) (by rw [hz2]; omega) (by omega)
  rw [hz1, Nat.mul_one, show ((n : Int) * 64).toNat = n * 64 by omega, show (Value.int .u8 0).cells = #[Value.int .u8 0] from rfl, made_zeros] at hm
  exact hm

def fresh (n : Nat) : Dk := { n := n, laid := List.replicate (n * 64) 0, now := List.replicate (n * 64) 0, pend := [], limit := -1, dead := false, writes := 0 }
theorem fresh_at {B : Nat} {W W' : World} {D L N : Nat} {n : Nat} (h1 : 1 ≤ n) (h2 : n ≤ 65536) (hB : B ≤ D ∧ B ≤ L ∧ B ≤ N) (hne : D ≠ L ∧ D ≠ N ∧ L ≠ N)
    (hD : W'.heap[D]? = some (.cells (dcells L N (.slice none 0 0) (fresh n)) 65 (0, 0)))
    (hL : W'.heap[L]? = some (.cells (bcells (List.replicate (n * 64) 0)).toArray 5 (0, 0))) (hN : W'.heap[N]? = some (.cells (bcells (List.replicate (n * 64) 0)).toArray 5 (0, 0)))
    (hb : Below B W W') : DiskAt B D L N (.slice none 0 0) (fresh n) W' ∧ Below B W W' :=
  ⟨{ bD := hB.1, bL := hB.2.1, bN := hB.2.2, dl := hne.1, dn := hne.2.1, ln := hne.2.2
     pd := fun h => by cases h
     pl := fun h => by cases h
     pn := fun h => by cases h
     hD := hD, hL := hL, hN := hN
     hP := World.ownsRow_nil _ _ _ _
     ll := by simp [fresh], nl := by simp [fresh], n1 := h1, n2 := h2
     pw := fun x hx => by cases hx
     lim := by show (-1 : Int) ≤ -1; omega
     wr0 := by show (0 : Int) ≤ 0; omega
     wr1 := by show (0 : Int) ≤ 1000000; omega
     lim1 := by show (-1 : Int) ≤ 9223372036854775807; omega }, hb⟩

theorem new3 (w : World) (a b c : Obj) : (((w.drew.alloc a).alloc b).alloc c).heap[w.heap.size]? = some a ∧ (((w.drew.alloc a).alloc b).alloc c).heap[w.heap.size + 1]? = some b ∧
    (((w.drew.alloc a).alloc b).alloc c).heap[w.heap.size + 1 + 1]? = some c ∧ Below w.heap.size w (((w.drew.alloc a).alloc b).alloc c) := by
  have e0 : w.drew.heap = w.heap := rfl
  have e1 : (w.drew.alloc a).heap.size = w.heap.size + 1 := by simp [World.alloc, World.drew, -World.alloc_eq, -World.drew_eq]
  have e2 : ((w.drew.alloc a).alloc b).heap.size = w.heap.size + 1 + 1 := by simp [World.alloc, World.drew, -World.alloc_eq, -World.drew_eq]
  have hh : (((w.drew.alloc a).alloc b).alloc c).heap = ((w.heap.push a).push b).push c := by simp [World.alloc, World.drew, -World.alloc_eq, -World.drew_eq]
  rw [hh]
  refine ⟨?_, ?_, ?_, ?_⟩
  · rw [Array.getElem?_push, if_neg (by simp; omega), Array.getElem?_push, if_neg (by simp), Array.getElem?_push, if_pos rfl]
  · rw [Array.getElem?_push, if_neg (by simp), Array.getElem?_push, if_pos (by simp)]
  · rw [Array.getElem?_push, if_pos (by simp)]
  · exact ((((Below.refl _ w).drew).alloc (by rw [e0]; exact Nat.le_refl _) _).alloc (by rw [e1]; omega) _).alloc (by rw [e2]; omega) _

theorem New_bad (n : Int) (w : World) (h : n < 1 ∨ 65536 < n) :
    Calls Try.prog 11 #[.int .i64 n] w fun e w' => e = .returned (.tuple #[.pointer none, .int .i64 1]) ∧ w = w' := by
  rcases (show n < 1 ∨ (1 ≤ n ∧ 65536 < n) by omega) with h | ⟨h0, h⟩
  · have d1 : decide (n < 1) = true := decide_eq_true h
    go_enter Try.func11, Try.ntmps11
    go_wp2
    go_ret2
    exact ⟨rfl, rfl⟩
  · have d1 : decide (n < 1) = false := decide_eq_false (by omega)
    have d2 : decide (65536 < n) = true := decide_eq_true h
    go_enter Try.func11, Try.ntmps11
    go_wp2
    go_ret2
    exact ⟨rfl, rfl⟩

def NewPost (w : World) (n : Nat) (e : Ending) (w' : World) : Prop := ∃ D L N, e = .returned (.tuple #[.pointer (some ⟨D, 0, none⟩), .int .i64 0]) ∧ DiskAt w.heap.size D L N (.slice none 0 0) (fresh n) w' ∧ Below w.heap.size w w'
theorem New_any (n : Nat) (w : World) (h1 : 1 ≤ n) (h2 : n ≤ 65536) :
    Calls Try.prog 11 #[.int .i64 n] w fun e w' => NewPost w n e w' := by
  have d1 : decide ((n : Int) < 1) = false := decide_eq_false (by omega)
  have d2 : decide ((65536 : Int) < n) = false := decide_eq_false (by omega)
  have hm := make_run n h2
  have hwr : IntKind.i64.wrap ((n : Int) * 64) = (n : Int) * 64 := by rw [IntKind.wrap_i64]; omega
  generalize hz : (bcells (List.replicate (n * 64) 0)).toArray = zs at hm
  go_enter Try.func11, Try.ntmps11
  go_wp2_with fail
  refine wp_region_held_drew (S := fun _ => True) (by kernel_rfl) trivial (fun hHeld => ?_)
  have hT : (fun _ : World => True) w := trivial
  clear hHeld
  refine wpAnyH_take (i := 0) (oi := { dst := some 10, op := Op.move (Operand.tmp 0), type := 3, pos := "disk.go:32", after := #[], guard := none }) (v := ?_) rfl (by kernel_rfl) (by kernel_rfl) (by kernel_rfl) (fun _ _ _ h => h) (Or.inl ⟨by rfl, ?_⟩) (by assumption) ?_
  rotate_left
  · intro w hSw
    try dsimp only at hSw
    go_simp
    try with_reducible rfl
  try simp only [Act.put, List.setIfInBounds_toArray, List.set_cons_zero, List.set_cons_succ]
  refine wpAnyH_take (i := 1) (oi := { dst := some 11, op := Op.binOp BinOp.mul 3 (Operand.tmp 10) (Operand.const (Value.int IntKind.i64 64)) 3, type := 3, pos := "disk.go:32", after := #[{ on := 0, ground := Ground.data }], guard := none }) (v := ?_) rfl (by kernel_rfl) (by kernel_rfl) (by kernel_rfl) (fun _ _ _ h => h) (Or.inl ⟨by rfl, ?_⟩) (by assumption) ?_
  rotate_left
  · intro w hSw
    try dsimp only at hSw
    go_simp
    try with_reducible rfl
  try simp only [Act.put, List.setIfInBounds_toArray, List.set_cons_zero, List.set_cons_succ]
  refine wpAnyH_take (i := 3) (oi := { dst := some 13, op := Op.move (Operand.tmp 0), type := 3, pos := "disk.go:32", after := #[], guard := none }) (v := ?_) rfl (by kernel_rfl) (by kernel_rfl) (by kernel_rfl) (fun _ _ _ h => h) (Or.inl ⟨by rfl, ?_⟩) (by assumption) ?_
  rotate_left
  · intro w hSw
    try dsimp only at hSw
    go_simp
    try with_reducible rfl
  try simp only [Act.put, List.setIfInBounds_toArray, List.set_cons_zero, List.set_cons_succ]
  refine wpAnyH_take (i := 4) (oi := { dst := some 14, op := Op.binOp BinOp.mul 3 (Operand.tmp 13) (Operand.const (Value.int IntKind.i64 64)) 3, type := 3, pos := "disk.go:32", after := #[{ on := 3, ground := Ground.data }], guard := none }) (v := ?_) rfl (by kernel_rfl) (by kernel_rfl) (by kernel_rfl) (fun _ _ _ h => h) (Or.inl ⟨by rfl, ?_⟩) (by assumption) ?_
  rotate_left
  · intro w hSw
    try dsimp only at hSw
    go_simp
    try with_reducible rfl
  try simp only [Act.put, List.setIfInBounds_toArray, List.set_cons_zero, List.set_cons_succ]
  refine wpAnyH_ready (rs := [2, 5]) (by kernel_rfl) (by simp) ?_
  refine AllReadyH.cons (o := { dst := some 12, op := Op.makeSlice 45 (Operand.tmp 11) (Operand.tmp 11), type := 45, pos := "disk.go:32", after := #[{ on := 1, ground := Ground.data }, { on := 1, ground := Ground.data }], guard := none }) rfl (fun K hK => ?_) (AllReadyH.cons (o := { dst := some 15, op := Op.makeSlice 45 (Operand.tmp 14) (Operand.tmp 14), type := 45, pos := "disk.go:32", after := #[{ on := 4, ground := Ground.data }, { on := 4, ground := Ground.data }], guard := none }) rfl (fun K hK => ?_) AllReadyH.nil)
  · go_simp
    refine hK.out _ _ trivial (fun _ => ?_)
    clear hK K
    try simp only [Act.put, List.setIfInBounds_toArray, List.set_cons_zero, List.set_cons_succ]
    refine wpAnyH_ready (rs := [5]) (by kernel_rfl) (by simp) ?_
    refine AllReadyH.cons (o := { dst := some 15, op := Op.makeSlice 45 (Operand.tmp 14) (Operand.tmp 14), type := 45, pos := "disk.go:32", after := #[{ on := 4, ground := Ground.data }, { on := 4, ground := Ground.data }], guard := none }) rfl (fun K hK => ?_) AllReadyH.nil
    go_simp
    refine hK.out _ _ trivial (fun _ => ?_)
    clear hK K
    try simp only [Act.put, List.setIfInBounds_toArray, List.set_cons_zero, List.set_cons_succ]
    refine wpAnyH_take (i := 6) (oi := { dst := some 16, op := Op.build 65 #[(0, Operand.tmp 12), (1, Operand.tmp 15), (3, Operand.const (Value.int IntKind.i64 (-1)))], type := 65, pos := "disk.go:32", after := #[{ on := 2, ground := Ground.data }, { on := 5, ground := Ground.data }], guard := none }) (v := ?_) rfl (by kernel_rfl) (by kernel_rfl) (by kernel_rfl) (fun _ _ _ h => h) (Or.inl ⟨by rfl, ?_⟩) (by assumption) ?_
    rotate_left
    · intro w hSw
      try dsimp only at hSw
      go_simp
      try with_reducible rfl
    try simp only [Act.put, List.setIfInBounds_toArray, List.set_cons_zero, List.set_cons_succ]
    refine wpAnyH_ready (rs := [7]) (by kernel_rfl) (by simp) ?_
    refine AllReadyH.cons (o := { dst := some 17, op := Op.box 65 (Operand.tmp 16), type := 25, pos := "disk.go:32", after := #[{ on := 6, ground := Ground.data }], guard := none }) rfl (fun K hK => ?_) AllReadyH.nil
    go_simp
    refine hK.out _ _ trivial (fun _ => ?_)
    clear hK K
    try simp only [Act.put, List.setIfInBounds_toArray, List.set_cons_zero, List.set_cons_succ]
    refine wpAnyH_take (i := 8) (oi := { dst := some 2, op := Op.assign (Operand.tmp 17), type := 25, pos := "disk.go:32", after := #[{ on := 7, ground := Ground.data }, { on := 0, ground := Ground.phase }, { on := 1, ground := Ground.phase }, { on := 2, ground := Ground.phase }, { on := 3, ground := Ground.phase }, { on := 4, ground := Ground.phase }, { on := 5, ground := Ground.phase }, { on := 6, ground := Ground.phase }, { on := 7, ground := Ground.phase }], guard := none }) (v := ?_) rfl (by kernel_rfl) (by kernel_rfl) (by kernel_rfl) (fun _ _ _ h => h) (Or.inl ⟨by rfl, ?_⟩) (by assumption) ?_
    rotate_left
    · intro w hSw
      try dsimp only at hSw
      go_simp
      try with_reducible rfl
    try simp only [Act.put, List.setIfInBounds_toArray, List.set_cons_zero, List.set_cons_succ]
    refine wpAnyH_take (i := 9) (oi := { dst := some 3, op := Op.assign (Operand.const (Value.int IntKind.i64 0)), type := 26, pos := "disk.go:32", after := #[{ on := 8, ground := Ground.chain }, { on := 0, ground := Ground.phase }, { on := 1, ground := Ground.phase }, { on := 2, ground := Ground.phase }, { on := 3, ground := Ground.phase }, { on := 4, ground := Ground.phase }, { on := 5, ground := Ground.phase }, { on := 6, ground := Ground.phase }, { on := 7, ground := Ground.phase }, { on := 8, ground := Ground.phase }], guard := none }) (v := ?_) rfl (by kernel_rfl) (by kernel_rfl) (by kernel_rfl) (fun _ _ _ h => h) (Or.inl ⟨by rfl, ?_⟩) (by assumption) ?_
    rotate_left
    · intro w hSw
      try dsimp only at hSw
      go_simp
      try with_reducible rfl
    try simp only [Act.put, List.setIfInBounds_toArray, List.set_cons_zero, List.set_cons_succ]
    refine wpAnyH_done (by kernel_rfl) ?_ _
    go_wp2
    go_ret2
    subst hz
    have h3 := new3 w (.cells (bcells (List.replicate (n * 64) 0)).toArray 5 (0, 0)) (.cells (bcells (List.replicate (n * 64) 0)).toArray 5 (0, 0)) (.cells (dcells w.heap.size (w.heap.size + 1) (.slice none 0 0) (fresh n)) 65 (0, 0))
    exact ⟨_, w.heap.size, (w.heap.size + 1), rfl, fresh_at h1 h2 ⟨by omega, by omega, by omega⟩ ⟨by omega, by omega, by omega⟩ h3.2.2.1 h3.1 h3.2.1 h3.2.2.2⟩
  · go_simp
    refine hK.out _ _ trivial (fun _ => ?_)
    clear hK K
    try simp only [Act.put, List.setIfInBounds_toArray, List.set_cons_zero, List.set_cons_succ]
    refine wpAnyH_ready (rs := [2]) (by kernel_rfl) (by simp) ?_
    refine AllReadyH.cons (o := { dst := some 12, op := Op.makeSlice 45 (Operand.tmp 11) (Operand.tmp 11), type := 45, pos := "disk.go:32", after := #[{ on := 1, ground := Ground.data }, { on := 1, ground := Ground.data }], guard := none }) rfl (fun K hK => ?_) AllReadyH.nil
    go_simp
    refine hK.out _ _ trivial (fun _ => ?_)
    clear hK K
    try simp only [Act.put, List.setIfInBounds_toArray, List.set_cons_zero, List.set_cons_succ]
    refine wpAnyH_take (i := 6) (oi := { dst := some 16, op := Op.build 65 #[(0, Operand.tmp 12), (1, Operand.tmp 15), (3, Operand.const (Value.int IntKind.i64 (-1)))], type := 65, pos := "disk.go:32", after := #[{ on := 2, ground := Ground.data }, { on := 5, ground := Ground.data }], guard := none }) (v := ?_) rfl (by kernel_rfl) (by kernel_rfl) (by kernel_rfl) (fun _ _ _ h => h) (Or.inl ⟨by rfl, ?_⟩) (by assumption) ?_
    rotate_left
    · intro w hSw
      try dsimp only at hSw
      go_simp
      try with_reducible rfl
    try simp only [Act.put, List.setIfInBounds_toArray, List.set_cons_zero, List.set_cons_succ]
    refine wpAnyH_ready (rs := [7]) (by kernel_rfl) (by simp) ?_
    refine AllReadyH.cons (o := { dst := some 17, op := Op.box 65 (Operand.tmp 16), type := 25, pos := "disk.go:32", after := #[{ on := 6, ground := Ground.data }], guard := none }) rfl (fun K hK => ?_) AllReadyH.nil
    go_simp
    refine hK.out _ _ trivial (fun _ => ?_)
    clear hK K
    try simp only [Act.put, List.setIfInBounds_toArray, List.set_cons_zero, List.set_cons_succ]
    refine wpAnyH_take (i := 8) (oi := { dst := some 2, op := Op.assign (Operand.tmp 17), type := 25, pos := "disk.go:32", after := #[{ on := 7, ground := Ground.data }, { on := 0, ground := Ground.phase }, { on := 1, ground := Ground.phase }, { on := 2, ground := Ground.phase }, { on := 3, ground := Ground.phase }, { on := 4, ground := Ground.phase }, { on := 5, ground := Ground.phase }, { on := 6, ground := Ground.phase }, { on := 7, ground := Ground.phase }], guard := none }) (v := ?_) rfl (by kernel_rfl) (by kernel_rfl) (by kernel_rfl) (fun _ _ _ h => h) (Or.inl ⟨by rfl, ?_⟩) (by assumption) ?_
    rotate_left
    · intro w hSw
      try dsimp only at hSw
      go_simp
      try with_reducible rfl
    try simp only [Act.put, List.setIfInBounds_toArray, List.set_cons_zero, List.set_cons_succ]
    refine wpAnyH_take (i := 9) (oi := { dst := some 3, op := Op.assign (Operand.const (Value.int IntKind.i64 0)), type := 26, pos := "disk.go:32", after := #[{ on := 8, ground := Ground.chain }, { on := 0, ground := Ground.phase }, { on := 1, ground := Ground.phase }, { on := 2, ground := Ground.phase }, { on := 3, ground := Ground.phase }, { on := 4, ground := Ground.phase }, { on := 5, ground := Ground.phase }, { on := 6, ground := Ground.phase }, { on := 7, ground := Ground.phase }, { on := 8, ground := Ground.phase }], guard := none }) (v := ?_) rfl (by kernel_rfl) (by kernel_rfl) (by kernel_rfl) (fun _ _ _ h => h) (Or.inl ⟨by rfl, ?_⟩) (by assumption) ?_
    rotate_left
    · intro w hSw
      try dsimp only at hSw
      go_simp
      try with_reducible rfl
    try simp only [Act.put, List.setIfInBounds_toArray, List.set_cons_zero, List.set_cons_succ]
    refine wpAnyH_done (by kernel_rfl) ?_ _
    go_wp2
    go_ret2
    subst hz
    have h3 := new3 w (.cells (bcells (List.replicate (n * 64) 0)).toArray 5 (0, 0)) (.cells (bcells (List.replicate (n * 64) 0)).toArray 5 (0, 0)) (.cells (dcells (w.heap.size + 1) w.heap.size (.slice none 0 0) (fresh n)) 65 (0, 0))
    exact ⟨_, (w.heap.size + 1), w.heap.size, rfl, fresh_at h1 h2 ⟨by omega, by omega, by omega⟩ ⟨by omega, by omega, by omega⟩ h3.2.2.1 h3.2.1 h3.1 h3.2.2.2⟩
end Go.Proofs.Yticiaiiedagalaa.dk
