/- The document's Write, done. -/
import Derived.Test.YticiaiiedagalaaPl24
namespace Go.Proofs.Yticiaiiedagalaa.dk
open Go.PlainAid Go.ChangeShapes Go.WideShapes Go.ChangeAt Go.RowKit

set_option maxHeartbeats 4000000 in
set_option maxRecDepth 20000 in
theorem rWrite_ok {B D : Nat} {S P : Value} {r r1 : Rk} {w : World} (h : RefAt B D S P r w) (p : Option Addr) (k c : Nat) (b : List Int) (i : Nat) (hi : i < r.S.length) (hk : k ≤ 64) (hd : r.gone = false) (hR : Rd w p k b) (hs1 : r1.S = r.S) (hp1 : r1.P = r.P) (ep : r.P.length < 1000)
    (HS : Calls Try.prog 47 #[.pointer (some ⟨D, 0, none⟩)] w fun e w' => e = .returned (.bool true) ∧ RefAt B D S P r1 w' ∧ Below B w w' ∧ Fr D w w')
    (hne : 0 < k → ∀ bk off, p = some ⟨bk, off, none⟩ → bk ≠ D) :
    Calls Try.prog 20 #[.pointer (some ⟨D, 0, none⟩), .int .i64 i, .slice p k c] w fun e w' => ∃ P', e = .returned (.int .i64 0) ∧ RefAt B D S P' { r1 with P := r.P ++ [(i, pad b)] } w' ∧ Bf B (Xr D S P) w w' := by
  obtain ⟨sp, sc, rfl⟩ := own_form h.hS
  have k0 := h.cell 0
  have k3 := h.cell 3
  have HSp := Lib.hid HS
  simp only [rcells] at k0 k3
  simp at k0 k3
  rw [hd] at k3
  have d1 : decide ((i : Int) < 0) = false := decide_eq_false (by omega)
  have d2 : decide ((r.S.length : Int) ≤ i) = false := decide_eq_false (by omega)
  have d3 : decide ((64 : Int) < k) = false := decide_eq_false (by omega)
  clear HS
  have HH := Lib.hid h
  clear h
  go_enter Try.func20, Try.ntmps20
  go_wp2_with (go_at_call 47; with_reducible refine HSp.out.mono ?_; rintro e w1 ⟨rfl, hw⟩)
  obtain ⟨hr1, hb1, hf1⟩ := hw
  have hRd1 : Rd w1 p k b := ⟨hR.1, fun h0 => by
    obtain ⟨bk, off, e, hlt, hc⟩ := hR.2 h0
    refine ⟨bk, off, e, Nat.lt_of_lt_of_le hlt hb1.size, fun x hx => ?_⟩
    rw [World.cell?_of_block (a := ⟨bk, off + x, none⟩) (hf1 bk (hne h0 bk off e))]
    exact hc x hx⟩
  have hd1 : Below w1.heap.size w1 w1.drew := (Below.refl _ _).drew
  have hT0 := conv_rd (c := c) (hRd1.below hd1)
  have HZ := Lib.hid (zeros_any w1.drew)
  have hsz : (strOf b).size = k := by rw [strOf_size, hR.1]
  have hzz : (strOf (List.replicate 64 0)).size = 64 := by rw [strOf_size, List.length_replicate]
  have HRd := Lib.hid hRd1
  have hpadx : Hid ((strOf b ++ strOf (List.replicate 64 0)).extract 0 64 = strOf (pad b)) := by
    exact cut_pad (by rw [hR.1]; exact hk)
  have hbig : ¬ (9223372036854775807 < k + 64) := by omega
  clear hRd1
  generalize hsb : strOf b = sb at *
  generalize hzb : strOf (List.replicate 64 0) = zz at *
  have hT : (fun W : World => (convert 45 9 (.slice p k c)).run Try.prog W = .ok (.string sb) W) w1.drew := hT0
  go_wp2_with fail
  refine wp_region_held_drew (S := fun W => (convert 45 9 (.slice p k c)).run Try.prog W = .ok (.string sb) W) (by kernel_rfl) hT (fun hHeld => ?_)
  clear hHeld hT0
  refine wpAnyH_take (i := 0) (oi := { dst := some 31, op := Op.move (Operand.tmp 2), type := 45, pos := "ref.go:77", after := #[], guard := none }) (v := ?_) rfl (by kernel_rfl) (by kernel_rfl) (by kernel_rfl) (fun _ _ _ h => h) (Or.inl ⟨by rfl, ?_⟩) (by assumption) ?_
  rotate_left
  · intro w hSw
    try dsimp only at hSw
    go_simp
    try with_reducible rfl
  try simp only [Act.put, List.setIfInBounds_toArray, List.set_cons_zero, List.set_cons_succ]
  refine wpAnyH_take (i := 1) (oi := { dst := some 32, op := Op.convert 45 9 (Operand.tmp 31), type := 9, pos := "ref.go:77", after := #[{ on := 0, ground := Ground.data }], guard := none }) (v := ?_) rfl (by kernel_rfl) (by kernel_rfl) (by kernel_rfl) (fun _ _ _ h => h) (Or.inl ⟨by rfl, ?_⟩) (by assumption) ?_
  rotate_left
  · intro w hSw
    try dsimp only at hSw
    go_simp
    try with_reducible rfl
  try simp only [Act.put, List.setIfInBounds_toArray, List.set_cons_zero, List.set_cons_succ]
  refine wpAnyH_ready (rs := [2]) (by kernel_rfl) (by simp) ?_
  refine AllReadyH.cons (o := { dst := some 33, op := Op.call { callee := Callee.value (Operand.func 35), args := #[], argTypes := #[] }, type := 9, pos := "ref.go:77", after := #[], guard := none }) rfl (fun K hK => ?_) AllReadyH.nil
  go_simp
  with_reducible refine HZ.out.mono ?_
  clear HZ
  rintro e w2 ⟨rfl, hb2⟩
  have hb12 := (hd1.trans (hb2.mono hd1.size))
  have hT2 : (fun W : World => (convert 45 9 (.slice p k c)).run Try.prog W = .ok (.string sb) W) w2 := by
    show (convert 45 9 (.slice p k c)).run Try.prog w2 = _
    rw [← hsb]
    exact conv_rd (c := c) (HRd.out.below hb12)
  try go_wp2_with fail
  refine hK.out _ _ hT2 (fun _ => ?_)
  clear hK K hT
  try simp only [Act.put, List.setIfInBounds_toArray, List.set_cons_zero, List.set_cons_succ]
  refine wpAnyH_take (i := 3) (oi := { dst := some 34, op := Op.binOp BinOp.add 9 (Operand.tmp 32) (Operand.tmp 33) 9, type := 9, pos := "ref.go:77", after := #[{ on := 1, ground := Ground.data }, { on := 2, ground := Ground.data }], guard := none }) (v := ?_) rfl (by kernel_rfl) (by kernel_rfl) (by kernel_rfl) (fun _ _ _ h => h) (Or.inl ⟨by rfl, ?_⟩) (by assumption) ?_
  rotate_left
  · intro w hSw
    try dsimp only at hSw
    go_simp
    try with_reducible rfl
  try simp only [Act.put, List.setIfInBounds_toArray, List.set_cons_zero, List.set_cons_succ]
  refine wpAnyH_take (i := 4) (oi := { dst := some 7, op := Op.assign (Operand.tmp 34), type := 9, pos := "ref.go:77", after := #[{ on := 3, ground := Ground.data }, { on := 2, ground := Ground.chain }, { on := 0, ground := Ground.phase }, { on := 1, ground := Ground.phase }, { on := 2, ground := Ground.phase }, { on := 3, ground := Ground.phase }], guard := none }) (v := ?_) rfl (by kernel_rfl) (by kernel_rfl) (by kernel_rfl) (fun _ _ _ h => h) (Or.inl ⟨by rfl, ?_⟩) (by assumption) ?_
  rotate_left
  · intro w hSw
    try dsimp only at hSw
    go_simp
    try with_reducible rfl
  try simp only [Act.put, List.setIfInBounds_toArray, List.set_cons_zero, List.set_cons_succ]
  refine wpAnyH_done (by kernel_rfl) ?_ _
  have HR2 := Lib.hid (hr1.below hb12)
  have HB2 := Lib.hid ((Bf.one (X := Xr D (.slice sp r.S.length sc) P) hb1 hf1 (.inl rfl)).trans (Bf.new hb12 (Nat.le_of_lt (Nat.lt_of_le_of_lt hr1.bD hr1.lt))))
  go_wp2_with fail
  have hysz : (sb ++ zz).size = k + 64 := by rw [ByteArray.size_append, hsz, hzz]
  generalize hy : sb ++ zz = y at *
  have hge : (64 : Int) ≤ (k : Int) + 64 := by omega
  have hpl : (pad b).length = 64 := pad_length (by rw [hR.1]; exact hk)
  have HR3 := Lib.hid (HR2.out.below ((Below.refl w2.heap.size w2).drew))
  have cD : w2.drew.cell? ⟨D, 1, none⟩ = some P := by
    rw [HR3.out.cell 1]; rfl
  refine wp_region_held_drew (S := fun _ => True) (by kernel_rfl) trivial (fun hHeld => ?_)
  have hT : (fun _ : World => True) w2.drew := trivial
  clear hHeld
  refine wpAnyH_take (i := 0) (oi := { dst := some 35, op := Op.move (Operand.tmp 0), type := 29, pos := "ref.go:78", after := #[], guard := none }) (v := ?_) rfl (by kernel_rfl) (by kernel_rfl) (by kernel_rfl) (fun _ _ _ h => h) (Or.inl ⟨by rfl, ?_⟩) (by assumption) ?_
  rotate_left
  · intro w hSw
    try dsimp only at hSw
    go_simp
    try with_reducible rfl
  try simp only [Act.put, List.setIfInBounds_toArray, List.set_cons_zero, List.set_cons_succ]
  refine wpAnyH_take (i := 1) (oi := { dst := some 36, op := Op.move (Operand.tmp 0), type := 29, pos := "ref.go:78", after := #[], guard := none }) (v := ?_) rfl (by kernel_rfl) (by kernel_rfl) (by kernel_rfl) (fun _ _ _ h => h) (Or.inl ⟨by rfl, ?_⟩) (by assumption) ?_
  rotate_left
  · intro w hSw
    try dsimp only at hSw
    go_simp
    try with_reducible rfl
  try simp only [Act.put, List.setIfInBounds_toArray, List.set_cons_zero, List.set_cons_succ]
  refine wpAnyH_take (i := 2) (oi := { dst := some 37, op := Op.nilCheck (Operand.tmp 36), type := 0, pos := "ref.go:78", after := #[{ on := 1, ground := Ground.data }], guard := none }) (v := ?_) rfl (by kernel_rfl) (by kernel_rfl) (by kernel_rfl) (fun _ _ _ h => h) (Or.inl ⟨by rfl, ?_⟩) (by assumption) ?_
  rotate_left
  · intro w hSw
    try dsimp only at hSw
    go_simp
    try with_reducible rfl
  try simp only [Act.put, List.setIfInBounds_toArray, List.set_cons_zero, List.set_cons_succ]
  refine wpAnyH_take (i := 3) (oi := { dst := some 38, op := Op.fieldAddr 44 (Operand.tmp 37) 1, type := 0, pos := "ref.go:78", after := #[{ on := 2, ground := Ground.data }], guard := none }) (v := ?_) rfl (by kernel_rfl) (by kernel_rfl) (by kernel_rfl) (fun _ _ _ h => h) (Or.inl ⟨by rfl, ?_⟩) (by assumption) ?_
  rotate_left
  · intro w hSw
    try dsimp only at hSw
    go_simp
    try with_reducible rfl
  try simp only [Act.put, List.setIfInBounds_toArray, List.set_cons_zero, List.set_cons_succ]
  refine wpAnyH_take (i := 5) (oi := { dst := some 40, op := Op.move (Operand.tmp 1), type := 3, pos := "ref.go:78", after := #[], guard := none }) (v := ?_) rfl (by kernel_rfl) (by kernel_rfl) (by kernel_rfl) (fun _ _ _ h => h) (Or.inl ⟨by rfl, ?_⟩) (by assumption) ?_
  rotate_left
  · intro w hSw
    try dsimp only at hSw
    go_simp
    try with_reducible rfl
  try simp only [Act.put, List.setIfInBounds_toArray, List.set_cons_zero, List.set_cons_succ]
  refine wpAnyH_take (i := 6) (oi := { dst := some 41, op := Op.move (Operand.tmp 7), type := 9, pos := "ref.go:78", after := #[], guard := none }) (v := ?_) rfl (by kernel_rfl) (by kernel_rfl) (by kernel_rfl) (fun _ _ _ h => h) (Or.inl ⟨by rfl, ?_⟩) (by assumption) ?_
  rotate_left
  · intro w hSw
    try dsimp only at hSw
    go_simp
    try with_reducible rfl
  try simp only [Act.put, List.setIfInBounds_toArray, List.set_cons_zero, List.set_cons_succ]
  refine wpAnyH_take (i := 7) (oi := { dst := some 42, op := Op.slice 9 (Operand.tmp 41) none (some (Operand.const (Value.int IntKind.i64 64))) none, type := 9, pos := "ref.go:78", after := #[{ on := 6, ground := Ground.data }], guard := none }) (v := ?_) rfl (by kernel_rfl) (by kernel_rfl) (by kernel_rfl) (fun _ _ _ h => h) (Or.inl ⟨by rfl, ?_⟩) (by assumption) ?_
  rotate_left
  · intro w hSw
    try dsimp only at hSw
    go_simp
    try with_reducible rfl
  try simp only [Act.put, List.setIfInBounds_toArray, List.set_cons_zero, List.set_cons_succ]
  refine wpAnyH_take (i := 8) (oi := { dst := some 43, op := Op.build 93 #[(0, Operand.tmp 40), (1, Operand.tmp 42)], type := 93, pos := "ref.go:78", after := #[{ on := 5, ground := Ground.data }, { on := 7, ground := Ground.data }], guard := none }) (v := ?_) rfl (by kernel_rfl) (by kernel_rfl) (by kernel_rfl) (fun _ _ _ h => h) (Or.inl ⟨by rfl, ?_⟩) (by assumption) ?_
  rotate_left
  · intro w hSw
    try dsimp only at hSw
    go_simp
    try with_reducible rfl
  try simp only [Act.put, List.setIfInBounds_toArray, List.set_cons_zero, List.set_cons_succ]
  have hyx := hpadx.out
  rw [hyx]
  have hbn : Below w2.drew.heap.size w2.drew (w2.drew.alloc (.cells #[.int .i64 i, .string (strOf (pad b))] 93)) := (Below.refl _ _).alloc (Nat.le_refl _) _
  have HR4 := Lib.hid (HR3.out.below hbn)
  have HB4 := Lib.hid (HB2.out.trans (Bf.new (((Below.refl w2.heap.size w2).drew).trans (hbn.mono (Nat.le_refl _))) (Nat.le_of_lt (Nat.lt_of_le_of_lt HR2.out.bD HR2.out.lt))))
  refine wpAnyH_ready (rs := [4, 9]) (by kernel_rfl) (by simp) ?_
  refine AllReadyH.cons (o := { dst := some 39, op := Op.load 42 (Operand.tmp 38), type := 42, pos := "ref.go:78", after := #[{ on := 3, ground := Ground.data }], guard := none }) rfl (fun K hK => ?_) (AllReadyH.cons (o := { dst := some 44, op := Op.buildSlice 42 1 #[(0, Operand.tmp 43)], type := 42, pos := "ref.go:78", after := #[{ on := 8, ground := Ground.data }], guard := none }) rfl (fun K hK => ?_) AllReadyH.nil)
  · go_simp
    refine hK.out _ _ trivial (fun _ => ?_)
    clear hK K
    try simp only [Act.put, List.setIfInBounds_toArray, List.set_cons_zero, List.set_cons_succ]
    refine wpAnyH_ready (rs := [9]) (by kernel_rfl) (by simp) ?_
    refine AllReadyH.cons (o := { dst := some 44, op := Op.buildSlice 42 1 #[(0, Operand.tmp 43)], type := 42, pos := "ref.go:78", after := #[{ on := 8, ground := Ground.data }], guard := none }) rfl (fun K hK => ?_) AllReadyH.nil
    go_simp
    refine hK.out _ _ trivial (fun _ => ?_)
    clear hK K
    try simp only [Act.put, List.setIfInBounds_toArray, List.set_cons_zero, List.set_cons_succ]
    refine wpAnyH_ready (rs := [10]) (by kernel_rfl) (by simp) ?_
    refine AllReadyH.cons (o := { dst := some 45, op := Op.call { callee := Callee.builtin Builtin.append, args := #[Operand.tmp 39, Operand.tmp 44], argTypes := #[42, 42] }, type := 42, pos := "ref.go:78", after := #[{ on := 4, ground := Ground.data }, { on := 9, ground := Ground.data }], guard := none }) rfl (fun K hK => ?_) AllReadyH.nil
    refine step_append_rw rfl _ _ rfl B P r.P.length (qcells r.P) rfl (by have := HR4.out.hP; rw [hp1] at this; exact this) ⟨w2.drew.heap.size, 0, none⟩ 1 rfl [.int .i64 (i : Int), .string (strOf (pad b))] rfl ?_ ?_ (by omega) (Nat.le_of_lt (Nat.lt_of_le_of_lt HR4.out.bD HR4.out.lt)) ?_
    · intro j u hj
      show (w2.drew.alloc (.cells #[.int .i64 i, .string (strOf (pad b))] 93)).cell? _ = _
      rw [add_off, Nat.zero_add, cell_of_row _ _ _ _ _ _ (heap_alloc_new w2.drew _)]
      rw [← hj]
      exact List.getElem?_toArray
    · intro u hu
      simp at hu
      rcases hu with rfl | rfl <;> rfl
    intro v' w6 hown hgr
    obtain ⟨vp, vc, rfl⟩ := own_form hown
    obtain ⟨cd, fz, hfin, bfin⟩ := HR4.out.grow i (pad b) (by rw [hs1]; exact hi) hpl (by rw [hp1]; exact ep) (by rw [hp1]; exact hown) hgr
    rw [hp1] at hfin
    have HF := Lib.hid hfin
    have BF := Lib.hid (HB4.out.trans bfin)
    clear hfin bfin hown hgr
    refine hK.out _ _ trivial (fun _ => ?_)
    clear hK K
    try simp only [Act.put, List.setIfInBounds_toArray, List.set_cons_zero, List.set_cons_succ]
    refine wpAnyH_take (i := 11) (oi := { dst := some 46, op := Op.nilCheck (Operand.tmp 35), type := 0, pos := "ref.go:78", after := #[{ on := 0, ground := Ground.data }, { on := 0, ground := Ground.phase }, { on := 1, ground := Ground.phase }, { on := 2, ground := Ground.phase }, { on := 3, ground := Ground.phase }, { on := 4, ground := Ground.phase }, { on := 5, ground := Ground.phase }, { on := 6, ground := Ground.phase }, { on := 7, ground := Ground.phase }, { on := 8, ground := Ground.phase }, { on := 9, ground := Ground.phase }, { on := 10, ground := Ground.phase }], guard := none }) (v := ?_) rfl (by kernel_rfl) (by kernel_rfl) (by kernel_rfl) (fun _ _ _ h => h) (Or.inl ⟨by rfl, ?_⟩) (by assumption) ?_
    rotate_left
    · intro w hSw
      try dsimp only at hSw
      go_simp
      try with_reducible rfl
    try simp only [Act.put, List.setIfInBounds_toArray, List.set_cons_zero, List.set_cons_succ]
    refine wpAnyH_take (i := 12) (oi := { dst := some 47, op := Op.fieldAddr 44 (Operand.tmp 46) 1, type := 0, pos := "ref.go:78", after := #[{ on := 11, ground := Ground.data }, { on := 0, ground := Ground.phase }, { on := 1, ground := Ground.phase }, { on := 2, ground := Ground.phase }, { on := 3, ground := Ground.phase }, { on := 4, ground := Ground.phase }, { on := 5, ground := Ground.phase }, { on := 6, ground := Ground.phase }, { on := 7, ground := Ground.phase }, { on := 8, ground := Ground.phase }, { on := 9, ground := Ground.phase }, { on := 10, ground := Ground.phase }], guard := none }) (v := ?_) rfl (by kernel_rfl) (by kernel_rfl) (by kernel_rfl) (fun _ _ _ h => h) (Or.inl ⟨by rfl, ?_⟩) (by assumption) ?_
    rotate_left
    · intro w hSw
      try dsimp only at hSw
      go_simp
      try with_reducible rfl
    try simp only [Act.put, List.setIfInBounds_toArray, List.set_cons_zero, List.set_cons_succ]
    refine wpAnyH_ready (rs := [13]) (by kernel_rfl) (by simp) ?_
    refine AllReadyH.cons (o := { dst := none, op := Op.store 42 (Operand.tmp 47) (Operand.tmp 45), type := 0, pos := "ref.go:78", after := #[{ on := 12, ground := Ground.data }, { on := 10, ground := Ground.data }, { on := 10, ground := Ground.chain }, { on := 0, ground := Ground.phase }, { on := 1, ground := Ground.phase }, { on := 2, ground := Ground.phase }, { on := 3, ground := Ground.phase }, { on := 4, ground := Ground.phase }, { on := 5, ground := Ground.phase }, { on := 6, ground := Ground.phase }, { on := 7, ground := Ground.phase }, { on := 8, ground := Ground.phase }, { on := 9, ground := Ground.phase }, { on := 10, ground := Ground.phase }], guard := none }) rfl (fun K hK => ?_) AllReadyH.nil
    go_simp
    refine hK.out _ _ trivial (fun _ => ?_)
    clear hK K
    try simp only [Act.put, List.setIfInBounds_toArray, List.set_cons_zero, List.set_cons_succ]
    refine wpAnyH_done (by kernel_rfl) ?_ _
    go_wp2
    go_ret
    refine ⟨rfl, ⟨.slice vp (r.P.length + 1) vc, ?_⟩, BF.out⟩
    have hfo := HF.out
    rw [hs1] at hfo
    exact hfo
  · go_simp
    refine hK.out _ _ trivial (fun _ => ?_)
    clear hK K
    try simp only [Act.put, List.setIfInBounds_toArray, List.set_cons_zero, List.set_cons_succ]
    refine wpAnyH_ready (rs := [4]) (by kernel_rfl) (by simp) ?_
    refine AllReadyH.cons (o := { dst := some 39, op := Op.load 42 (Operand.tmp 38), type := 42, pos := "ref.go:78", after := #[{ on := 3, ground := Ground.data }], guard := none }) rfl (fun K hK => ?_) AllReadyH.nil
    have cD4 : (w2.drew.alloc (.cells #[.int .i64 i, .string (strOf (pad b))] 93)).cell? ⟨D, 1, none⟩ = some P := by
      rw [HR4.out.cell 1]; rfl
    have cD5 : (w2.alloc (.cells #[.int .i64 i, .string (strOf (pad b))] 93)).cell? ⟨D, 1, none⟩ = some P := cD4
    go_simp
    refine hK.out _ _ trivial (fun _ => ?_)
    clear hK K
    try simp only [Act.put, List.setIfInBounds_toArray, List.set_cons_zero, List.set_cons_succ]
    refine wpAnyH_ready (rs := [10]) (by kernel_rfl) (by simp) ?_
    refine AllReadyH.cons (o := { dst := some 45, op := Op.call { callee := Callee.builtin Builtin.append, args := #[Operand.tmp 39, Operand.tmp 44], argTypes := #[42, 42] }, type := 42, pos := "ref.go:78", after := #[{ on := 4, ground := Ground.data }, { on := 9, ground := Ground.data }], guard := none }) rfl (fun K hK => ?_) AllReadyH.nil
    refine step_append_rw rfl _ _ rfl B P r.P.length (qcells r.P) rfl (by have := HR4.out.hP; rw [hp1] at this; exact this) ⟨w2.drew.heap.size, 0, none⟩ 1 rfl [.int .i64 (i : Int), .string (strOf (pad b))] rfl ?_ ?_ (by omega) (Nat.le_of_lt (Nat.lt_of_le_of_lt HR4.out.bD HR4.out.lt)) ?_
    · intro j u hj
      show (w2.drew.alloc (.cells #[.int .i64 i, .string (strOf (pad b))] 93)).cell? _ = _
      rw [add_off, Nat.zero_add, cell_of_row _ _ _ _ _ _ (heap_alloc_new w2.drew _)]
      rw [← hj]
      exact List.getElem?_toArray
    · intro u hu
      simp at hu
      rcases hu with rfl | rfl <;> rfl
    intro v' w6 hown hgr
    obtain ⟨vp, vc, rfl⟩ := own_form hown
    obtain ⟨cd, fz, hfin, bfin⟩ := HR4.out.grow i (pad b) (by rw [hs1]; exact hi) hpl (by rw [hp1]; exact ep) (by rw [hp1]; exact hown) hgr
    rw [hp1] at hfin
    have HF := Lib.hid hfin
    have BF := Lib.hid (HB4.out.trans bfin)
    clear hfin bfin hown hgr
    refine hK.out _ _ trivial (fun _ => ?_)
    clear hK K
    try simp only [Act.put, List.setIfInBounds_toArray, List.set_cons_zero, List.set_cons_succ]
    refine wpAnyH_take (i := 11) (oi := { dst := some 46, op := Op.nilCheck (Operand.tmp 35), type := 0, pos := "ref.go:78", after := #[{ on := 0, ground := Ground.data }, { on := 0, ground := Ground.phase }, { on := 1, ground := Ground.phase }, { on := 2, ground := Ground.phase }, { on := 3, ground := Ground.phase }, { on := 4, ground := Ground.phase }, { on := 5, ground := Ground.phase }, { on := 6, ground := Ground.phase }, { on := 7, ground := Ground.phase }, { on := 8, ground := Ground.phase }, { on := 9, ground := Ground.phase }, { on := 10, ground := Ground.phase }], guard := none }) (v := ?_) rfl (by kernel_rfl) (by kernel_rfl) (by kernel_rfl) (fun _ _ _ h => h) (Or.inl ⟨by rfl, ?_⟩) (by assumption) ?_
    rotate_left
    · intro w hSw
      try dsimp only at hSw
      go_simp
      try with_reducible rfl
    try simp only [Act.put, List.setIfInBounds_toArray, List.set_cons_zero, List.set_cons_succ]
    refine wpAnyH_take (i := 12) (oi := { dst := some 47, op := Op.fieldAddr 44 (Operand.tmp 46) 1, type := 0, pos := "ref.go:78", after := #[{ on := 11, ground := Ground.data }, { on := 0, ground := Ground.phase }, { on := 1, ground := Ground.phase }, { on := 2, ground := Ground.phase }, { on := 3, ground := Ground.phase }, { on := 4, ground := Ground.phase }, { on := 5, ground := Ground.phase }, { on := 6, ground := Ground.phase }, { on := 7, ground := Ground.phase }, { on := 8, ground := Ground.phase }, { on := 9, ground := Ground.phase }, { on := 10, ground := Ground.phase }], guard := none }) (v := ?_) rfl (by kernel_rfl) (by kernel_rfl) (by kernel_rfl) (fun _ _ _ h => h) (Or.inl ⟨by rfl, ?_⟩) (by assumption) ?_
    rotate_left
    · intro w hSw
      try dsimp only at hSw
      go_simp
      try with_reducible rfl
    try simp only [Act.put, List.setIfInBounds_toArray, List.set_cons_zero, List.set_cons_succ]
    refine wpAnyH_ready (rs := [13]) (by kernel_rfl) (by simp) ?_
    refine AllReadyH.cons (o := { dst := none, op := Op.store 42 (Operand.tmp 47) (Operand.tmp 45), type := 0, pos := "ref.go:78", after := #[{ on := 12, ground := Ground.data }, { on := 10, ground := Ground.data }, { on := 10, ground := Ground.chain }, { on := 0, ground := Ground.phase }, { on := 1, ground := Ground.phase }, { on := 2, ground := Ground.phase }, { on := 3, ground := Ground.phase }, { on := 4, ground := Ground.phase }, { on := 5, ground := Ground.phase }, { on := 6, ground := Ground.phase }, { on := 7, ground := Ground.phase }, { on := 8, ground := Ground.phase }, { on := 9, ground := Ground.phase }, { on := 10, ground := Ground.phase }], guard := none }) rfl (fun K hK => ?_) AllReadyH.nil
    go_simp
    refine hK.out _ _ trivial (fun _ => ?_)
    clear hK K
    try simp only [Act.put, List.setIfInBounds_toArray, List.set_cons_zero, List.set_cons_succ]
    refine wpAnyH_done (by kernel_rfl) ?_ _
    go_wp2
    go_ret
    refine ⟨rfl, ⟨.slice vp (r.P.length + 1) vc, ?_⟩, BF.out⟩
    have hfo := HF.out
    rw [hs1] at hfo
    exact hfo
end Go.Proofs.Yticiaiiedagalaa.dk
