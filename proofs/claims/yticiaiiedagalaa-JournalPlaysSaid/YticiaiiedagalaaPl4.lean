/- The contract of Write. -/
import Derived.Test.YticiaiiedagalaaPl3
import Derived.Deep.RegionHeld
import Derived.Deep.MidRow
namespace Go.Proofs.Yticiaiiedagalaa.dk
open Go.PlainAid Go.ChangeShapes Go.WideShapes Go.ChangeAt Go.RowKit

theorem wpAnyH_turn {P : Program} {ops : Array Oper} {Q : Exit → Act → World → Prop} {md : Region.Mode} {S T : World → Prop} (hST : ∀ w, T w → S w) :
    ∀ (fuel : Nat) (listed : Array Bool) (a : Act) (w : World), wpAnyH P md ops Q T fuel listed a w → wpAnyH P md ops Q S fuel listed a w
  | 0, _, _, _, h => h
  | fuel + 1, _, _, _, h => ⟨h.1, fun i hi => wpOp_mono (fun a' w' h' => ⟨hST _ h'.1, wpAnyH_turn hST fuel _ a' w' h'.2⟩) (h.2 i hi)⟩

theorem DiskAt.base {B D L N : Nat} {P : Value} {m : Dk} {W : World} (h : DiskAt B D L N P m W) : B ≤ W.heap.size := Nat.le_of_lt (Nat.lt_of_le_of_lt h.bD h.lt.1)
def WritePost (B D L N : Nat) (P : Value) (m' : Dk) (w : World) (e : Ending) (w' : World) : Prop := ∃ P', e = .returned (.int .i64 0) ∧ DiskAt B D L N P' m' w' ∧ Bf B (Xd D L N P) w w' ∧ (∀ g, P'.ownBlock = some g → P.ownBlock = some g ∨ w.heap.size ≤ g)

theorem rd_ne {B D L N : Nat} {P : Value} {m : Dk} {w : World} (h : DiskAt B D L N P m w) {b off x : Nat} {v : Int} (hc : w.cell? ⟨b, off + x, none⟩ = some (.int .u8 v)) : b ≠ D := by
  rintro rfl
  rw [h.cell (off + x)] at hc
  unfold dcells at hc
  obtain ⟨p0, c0, rfl⟩ := h.slice
  generalize off + x = j at hc
  match j, hc with
  | 0, hc => simp at hc
  | 1, hc => simp at hc
  | 2, hc => simp at hc
  | 3, hc => simp at hc
  | 4, hc => simp at hc
  | 5, hc => simp at hc
  | j + 6, hc => simp at hc
theorem Rd.fr {B D L N : Nat} {P : Value} {m : Dk} {w w' : World} (h : DiskAt B D L N P m w) {p : Option Addr} {n : Nat} {l : List Int} (hR : Rd w p n l) (hf : Fr D w w') (hs : w.heap.size ≤ w'.heap.size) : Rd w' p n l := by
  refine ⟨hR.1, fun h0 => ?_⟩
  obtain ⟨b, off, hp, hlt, hc⟩ := hR.2 h0
  have hne := rd_ne h (hc 0 h0)
  refine ⟨b, off, hp, Nat.lt_of_lt_of_le hlt hs, fun i hi => ?_⟩
  rw [← hc i hi]
  exact World.cell?_of_block (hf b hne)

set_option maxHeartbeats 4000000 in
set_option maxRecDepth 20000 in
theorem Write_ok {B D L N : Nat} {P : Value} {m m1 : Dk} {w : World} (h : DiskAt B D L N P m w) (p : Option Addr) (k c : Nat) (b : List Int) (i : Nat) (hk : k ≤ 64) (ha : i < m.n) (hd : m.dead = false) (hR : Rd w p k b)
    (en : m1.n = m.n) (ep : m1.pend.length ≤ 1000000)
    (HS : Calls Try.prog 46 #[.pointer (some ⟨D, 0, none⟩)] w fun e w' => e = .returned (.bool true) ∧ DiskAt B D L N P m1 w' ∧ Below B w w' ∧ Fr D w w') :
    Calls Try.prog 19 #[.pointer (some ⟨D, 0, none⟩), .int .i64 i, .slice p k c] w fun e w' => WritePost B D L N P { m1 with now := lay m1.now (i * 64) (pad b), pend := m1.pend ++ [(i, pad b)] } w e w' := by
  have d1 : decide ((i : Int) < 0) = false := decide_eq_false (by omega)
  have d2 : decide ((m.n : Int) ≤ i) = false := decide_eq_false (by omega)
  have d3 : decide ((64 : Int) < k) = false := decide_eq_false (by omega)
  have hD := Dead_any h
  rw [hd] at hD
  have HD := Lib.hid hD
  have HSz := Lib.hid (Size_any h)
  have HSp := Lib.hid HS
  have hn2 : m1.n ≤ 65536 := by rw [en]; exact h.n2
  have hi1 : i < m1.n := by rw [en]; exact ha
  clear en
  clear hD HS
  go_enter Try.func19, Try.ntmps19
  go_wp2_with (first | (go_at_call 34; with_reducible refine HD.out.mono ?_; rintro e w' ⟨rfl, rfl⟩) | (go_at_call 36; with_reducible refine HSz.out.mono ?_; rintro e w' ⟨rfl, rfl⟩))
  with_reducible refine HSp.out.mono ?_
  rintro e w1 ⟨rfl, h1, hb1, hf1⟩
  have hR1 := Lib.hid (hR.fr h hf1 hb1.size)
  have H1 := Lib.hid h1
  have HB1 : Hid (Bf B (Xd D L N P) w w1) := Bf.one hb1 hf1 (.inl rfl)
  have hl1 := h1.lt
  have hbl : b.length = k := hR.1
  clear HD HSz HSp hR hf1 hb1 h1 h
  have hzr := zero_write
  have hst : ∀ (za ca : Array Value), za.size = 65 → ca.size = 65 → ca.all (·.oneCell') = true → (storeCells ⟨w1.heap.size, 0, none⟩ ca.toList).run Try.prog (w1.alloc (.cells za 90)) = .ok () ((w1.alloc (.cells za 90)).setRow w1.heap.size ca) := fun za ca h1 h2 h3 => by
    have := run_storeCells_at (P := Try.prog) w1.heap.size 0 90 ca.toList 0 za _ (heap_alloc_new w1 _) (by simp; omega) (fun v hv => (Array.all_eq_true_iff_forall_mem.1 h3) v (by simpa using hv))
    rw [show (za.toList.take (0 + 0) ++ ca.toList ++ za.toList.drop (0 + 0 + ca.toList.length)).toArray = ca by
      rw [List.drop_eq_nil_of_le (by simp; omega)]; simp] at this
    exact this
  have hne : (wcells (0, List.replicate 64 0)).toArray ≠ #[] := by simp [wcells]
  have hsz : (wcells (0, List.replicate 64 0)).toArray.size = 65 := by simp [wcells, bcells]
  have hset : (wcells (0, List.replicate 64 0)).toArray.setIfInBounds 0 (.int .i64 (i : Int)) = (Value.int .i64 i :: bcells (List.replicate 64 0)).toArray := rfl
  have hcs : (Value.int .i64 i :: bcells (List.replicate 64 0)).toArray.size = 65 := by simp [bcells]
  have hco : (Value.int .i64 i :: bcells (List.replicate 64 0)).toArray.all (·.oneCell') = true := Array.all_eq_true_iff_forall_mem.2 fun u hu => wcells_one (i, List.replicate 64 0) u (by simpa [wcells] using hu)
  generalize hza : (wcells (0, List.replicate 64 0)).toArray = za at hzr hne hsz hset
  generalize hca : (Value.int .i64 i :: bcells (List.replicate 64 0)).toArray = ca at hset hcs hco
  have hst := hst za ca hsz hcs hco
  have hnew : ((w1.alloc (.cells za 90)).setRow w1.heap.size ca).heap[w1.heap.size]? = some (.cells ca 90 (0, 0)) := setRow_heap _ _ _ _ _ _ (heap_alloc_new w1 _)
  have hbn : Below w1.heap.size w1 ((w1.alloc (.cells za 90)).setRow w1.heap.size ca) := below_setRow ((Below.refl _ _).alloc (Nat.le_refl _) _) (Nat.le_refl _) _
  have hRn := Lib.hid (hR1.out.below hbn)
  have hcal : ca = (Value.int .i64 i :: bcells (List.replicate 64 0)).toArray := hca.symm
  have hnewl : Hid (((w1.alloc (.cells za 90)).setRow w1.heap.size ca).heap[w1.heap.size]? = some (.cells (Value.int .i64 i :: bcells (List.replicate 64 0)).toArray 90 (0, 0))) := by rw [hnew, hcal]; trivial
  clear hcal hnew
  have hbn := Lib.hid hbn
  obtain ⟨w2, hcp, hG2, hb2⟩ := copy_new (c := c) hnewl.out hRn.out hk hbn.out
  have h2 := H1.out.below hb2
  have hG2' := Lib.hid hG2
  have HB2 := Lib.hid (HB1.out.trans (Bf.new hb2 H1.out.base))
  have hs2 : w1.heap.size < w2.heap.size := (Array.getElem?_eq_some_iff.1 hG2).1
  have H2 := Lib.hid h2
  clear hnewl hbn hRn hR1 H1 HB1 hb2 hG2 h2 hza hca
  go_wp2_with fail
  have h3 := Lib.hid (H2.out.below ((Below.refl _ _).drew))
  have c1 := h3.out.cell 1
  simp only [dcells] at c1
  simp at c1
  refine wp_region_held_drew (S := fun W => W.cell? ⟨D, 1, none⟩ = some (.slice (some ⟨N, 0, none⟩) (m1.n * 64) (m1.n * 64))) (by kernel_rfl) c1 (fun hHeld => ?_)
  have hT : (fun W : World => W.cell? ⟨D, 1, none⟩ = some (.slice (some ⟨N, 0, none⟩) (m1.n * 64) (m1.n * 64))) w2.drew := c1
  clear hHeld
  refine wpAnyH_take (i := 0) (oi := { dst := some 32, op := Op.move (Operand.tmp 0), type := 25, pos := "disk.go:77", after := #[], guard := none }) (v := ?_) rfl (by kernel_rfl) (by kernel_rfl) (by kernel_rfl) (fun _ _ _ h => h) (Or.inl ⟨by rfl, ?_⟩) (by assumption) ?_
  rotate_left
  · intro w hSw
    try dsimp only at hSw
    go_simp
    try with_reducible rfl
  try simp only [Act.put, List.setIfInBounds_toArray, List.set_cons_zero, List.set_cons_succ]
  refine wpAnyH_take (i := 1) (oi := { dst := some 33, op := Op.nilCheck (Operand.tmp 32), type := 0, pos := "disk.go:77", after := #[{ on := 0, ground := Ground.data }], guard := none }) (v := ?_) rfl (by kernel_rfl) (by kernel_rfl) (by kernel_rfl) (fun _ _ _ h => h) (Or.inl ⟨by rfl, ?_⟩) (by assumption) ?_
  rotate_left
  · intro w hSw
    try dsimp only at hSw
    go_simp
    try with_reducible rfl
  try simp only [Act.put, List.setIfInBounds_toArray, List.set_cons_zero, List.set_cons_succ]
  refine wpAnyH_take (i := 2) (oi := { dst := some 34, op := Op.fieldAddr 65 (Operand.tmp 33) 1, type := 0, pos := "disk.go:77", after := #[{ on := 1, ground := Ground.data }], guard := none }) (v := ?_) rfl (by kernel_rfl) (by kernel_rfl) (by kernel_rfl) (fun _ _ _ h => h) (Or.inl ⟨by rfl, ?_⟩) (by assumption) ?_
  rotate_left
  · intro w hSw
    try dsimp only at hSw
    go_simp
    try with_reducible rfl
  try simp only [Act.put, List.setIfInBounds_toArray, List.set_cons_zero, List.set_cons_succ]
  refine wpAnyH_take (i := 3) (oi := { dst := some 35, op := Op.load 45 (Operand.tmp 34), type := 45, pos := "disk.go:77", after := #[{ on := 2, ground := Ground.data }], guard := none }) (v := ?_) rfl (by kernel_rfl) (by kernel_rfl) (by kernel_rfl) (fun _ _ _ h => h) (Or.inl ⟨by rfl, ?_⟩) (by assumption) ?_
  rotate_left
  · intro w hSw
    try dsimp only at hSw
    go_simp
    try with_reducible rfl
  try simp only [Act.put, List.setIfInBounds_toArray, List.set_cons_zero, List.set_cons_succ]
  refine wpAnyH_take (i := 4) (oi := { dst := some 36, op := Op.move (Operand.tmp 1), type := 3, pos := "disk.go:77", after := #[], guard := none }) (v := ?_) rfl (by kernel_rfl) (by kernel_rfl) (by kernel_rfl) (fun _ _ _ h => h) (Or.inl ⟨by rfl, ?_⟩) (by assumption) ?_
  rotate_left
  · intro w hSw
    try dsimp only at hSw
    go_simp
    try with_reducible rfl
  try simp only [Act.put, List.setIfInBounds_toArray, List.set_cons_zero, List.set_cons_succ]
  refine wpAnyH_take (i := 6) (oi := { dst := some 38, op := Op.fieldAddr 90 (Operand.tmp 7) 1, type := 0, pos := "disk.go:77", after := #[], guard := none }) (v := ?_) rfl (by kernel_rfl) (by kernel_rfl) (by kernel_rfl) (fun _ _ _ h => h) (Or.inl ⟨by rfl, ?_⟩) (by assumption) ?_
  rotate_left
  · intro w hSw
    try dsimp only at hSw
    go_simp
    try with_reducible rfl
  try simp only [Act.put, List.setIfInBounds_toArray, List.set_cons_zero, List.set_cons_succ]
  refine wpAnyH_take (i := 7) (oi := { dst := some 39, op := Op.slice 88 (Operand.tmp 38) none none none, type := 45, pos := "disk.go:77", after := #[{ on := 6, ground := Ground.data }], guard := none }) (v := ?_) rfl (by kernel_rfl) (by kernel_rfl) (by kernel_rfl) (fun _ _ _ h => h) (Or.inl ⟨by rfl, ?_⟩) (by assumption) ?_
  rotate_left
  · intro w hSw
    try dsimp only at hSw
    go_simp
    try with_reducible rfl
  try simp only [Act.put, List.setIfInBounds_toArray, List.set_cons_zero, List.set_cons_succ]
  refine wpAnyH_ready (rs := [5]) (by kernel_rfl) (by simp) ?_
  refine AllReadyH.cons (o := { dst := some 37, op := Op.call { callee := Callee.value (Operand.func 45), args := #[Operand.tmp 35, Operand.tmp 36], argTypes := #[45, 3] }, type := 45, pos := "disk.go:77", after := #[{ on := 3, ground := Ground.data }, { on := 4, ground := Ground.data }], guard := none }) rfl (fun K hK => ?_) AllReadyH.nil
  go_simp
  have hsec := sector_any N m1.n i w2.drew hi1 hn2
  with_reducible refine hsec.mono ?_
  clear hsec
  rintro e w' ⟨rfl, rfl⟩
  try go_wp2_with fail
  refine hK.out _ _ c1 (fun _ => ?_)
  clear hK K
  try simp only [Act.put, List.setIfInBounds_toArray, List.set_cons_zero, List.set_cons_succ]
  refine wpAnyH_ready (rs := [8]) (by kernel_rfl) (by simp) ?_
  refine AllReadyH.cons (o := { dst := some 40, op := Op.call { callee := Callee.builtin Builtin.copy, args := #[Operand.tmp 37, Operand.tmp 39], argTypes := #[45, 45] }, type := 3, pos := "disk.go:77", after := #[{ on := 5, ground := Ground.data }, { on := 7, ground := Ground.data }, { on := 5, ground := Ground.chain }], guard := none }) rfl (fun K hK => ?_) AllReadyH.nil
  have hpl : (pad b).length = 64 := pad_length (by rw [hbl]; exact hk)
  have hGd : w2.drew.heap[w1.heap.size]? = some (.cells (wcells (i, pad b)).toArray 90 (0, 0)) := hG2'.out
  obtain ⟨h4, hb4, hf4⟩ := h3.out.lay_now (i * 64) (pad b) (by rw [hpl]; omega)
  refine step_copy_row rfl _ _ rfl N (i * 64) 64 64 ⟨w1.heap.size, 1, none⟩ 64 64 rfl rfl m1.now (pad b) h3.out.hN (by rw [hpl]; rfl) (fun j v hj => ?_) (by rw [hpl, h3.out.nl]; omega) ?_
  · rw [add_off, cell_of_row _ _ _ _ _ _ hGd]
    show (wcells (i, pad b)).toArray[1 + j]? = _
    rw [List.getElem?_toArray, Nat.add_comm]
    exact hj
  have hc4 : (w2.drew.setRow N (bcells (lay m1.now (i * 64) (pad b))).toArray).cell? ⟨D, 1, none⟩ = some (.slice (some ⟨N, 0, none⟩) (m1.n * 64) (m1.n * 64)) := by
    have := h4.cell 1
    simp only [dcells] at this
    simpa using this
  refine hK.out _ _ hc4 (fun _ => ?_)
  clear hK K
  try simp only [Act.put, List.setIfInBounds_toArray, List.set_cons_zero, List.set_cons_succ]
  refine wpAnyH_done (by kernel_rfl) ?_ _
  have hG4 : (w2.drew.setRow N (bcells (lay m1.now (i * 64) (pad b))).toArray).heap[w1.heap.size]? = some (.cells (wcells (i, pad b)).toArray 90 (0, 0)) := by
    rw [hf4 w1.heap.size (by omega)]; exact hGd
  have hB4 := Lib.hid ((HB2.out.trans (Bf.new (Below.drew (Below.refl w2.heap.size w2)) H2.out.base)).trans (Bf.one hb4 hf4 (.inr (.inr (.inl rfl)))))
  generalize w2.drew.setRow N (bcells (lay m1.now (i * 64) (pad b))).toArray = w4 at h4 hG4 hB4
  have H4 := Lib.hid h4
  have HG4 := Lib.hid hG4
  clear hc4 hT c1 h3 hb4 hf4 h4 hG4 hGd H2 HB2 hG2'
  clear hst hzr hne hsz hset hcs hco hbn hcp
  go_wp2_with fail
  have H5 := Lib.hid (H4.out.below ((Below.refl _ _).drew))
  have HG5 : Hid (w4.drew.heap[w1.heap.size]? = some (.cells (wcells (i, pad b)).toArray 90 (0, 0))) := HG4.out
  have c2 := H5.out.cell 2
  simp only [dcells] at c2
  simp at c2
  have hwl : (wcells (i, pad b)).length = 65 := by unfold wcells; rw [List.length_cons, bcells_length, hpl]
  have hS : w4.drew.cell? ⟨D, 2, none⟩ = some P ∧ w4.drew.rangeAt w1.heap.size 0 (wcells (i, pad b)) := ⟨c2, fun j v hj => by
    rw [cell_of_row _ _ _ _ _ _ HG5.out, Nat.zero_add]
    simpa using hj⟩
  have hwo := wcells_one (i, pad b)
  have hwcs : wcells (i, pad b) ≠ [] := fun e => by rw [e] at hwl; simp at hwl
  generalize hwc : wcells (i, pad b) = wc at hS hwl hwo hwcs
  have hbA : B ≤ (w4.drew.alloc (.cells wc.toArray 90)).heap.size := Nat.le_trans H5.out.base ((Below.refl w4.drew.heap.size w4.drew).alloc (Nat.le_refl _) (.cells wc.toArray 90)).size
  have hcA : (w4.alloc (.cells wc.toArray 90)).cell? ⟨D, 2, none⟩ = some P := by
    rw [← hS.1]
    exact ((Below.refl w4.heap.size w4).alloc (Nat.le_refl _) _).cell (p := ⟨D, 2, none⟩) H4.out.lt.1
  refine wp_region_held_drew (S := fun _ => True) (by kernel_rfl) trivial (fun hHeld => ?_)
  have hT : (fun _ : World => True) w4 := trivial
  clear hHeld
  refine wpAnyH_take (i := 0) (oi := { dst := some 41, op := Op.move (Operand.tmp 0), type := 25, pos := "disk.go:78", after := #[], guard := none }) (v := ?_) rfl (by kernel_rfl) (by kernel_rfl) (by kernel_rfl) (fun _ _ _ h => h) (Or.inl ⟨by rfl, ?_⟩) (by assumption) ?_
  rotate_left
  · intro w hSw
    try dsimp only at hSw
    go_simp
    try with_reducible rfl
  try simp only [Act.put, List.setIfInBounds_toArray, List.set_cons_zero, List.set_cons_succ]
  refine wpAnyH_take (i := 1) (oi := { dst := some 42, op := Op.move (Operand.tmp 0), type := 25, pos := "disk.go:78", after := #[], guard := none }) (v := ?_) rfl (by kernel_rfl) (by kernel_rfl) (by kernel_rfl) (fun _ _ _ h => h) (Or.inl ⟨by rfl, ?_⟩) (by assumption) ?_
  rotate_left
  · intro w hSw
    try dsimp only at hSw
    go_simp
    try with_reducible rfl
  try simp only [Act.put, List.setIfInBounds_toArray, List.set_cons_zero, List.set_cons_succ]
  refine wpAnyH_take (i := 2) (oi := { dst := some 43, op := Op.nilCheck (Operand.tmp 42), type := 0, pos := "disk.go:78", after := #[{ on := 1, ground := Ground.data }], guard := none }) (v := ?_) rfl (by kernel_rfl) (by kernel_rfl) (by kernel_rfl) (fun _ _ _ h => h) (Or.inl ⟨by rfl, ?_⟩) (by assumption) ?_
  rotate_left
  · intro w hSw
    try dsimp only at hSw
    go_simp
    try with_reducible rfl
  try simp only [Act.put, List.setIfInBounds_toArray, List.set_cons_zero, List.set_cons_succ]
  refine wpAnyH_take (i := 3) (oi := { dst := some 44, op := Op.fieldAddr 65 (Operand.tmp 43) 2, type := 0, pos := "disk.go:78", after := #[{ on := 2, ground := Ground.data }], guard := none }) (v := ?_) rfl (by kernel_rfl) (by kernel_rfl) (by kernel_rfl) (fun _ _ _ h => h) (Or.inl ⟨by rfl, ?_⟩) (by assumption) ?_
  rotate_left
  · intro w hSw
    try dsimp only at hSw
    go_simp
    try with_reducible rfl
  try simp only [Act.put, List.setIfInBounds_toArray, List.set_cons_zero, List.set_cons_succ]
  refine wpAnyH_ready (rs := [4, 5]) (by kernel_rfl) (by simp) ?_
  refine AllReadyH.cons (o := { dst := some 45, op := Op.load 63 (Operand.tmp 44), type := 63, pos := "disk.go:78", after := #[{ on := 3, ground := Ground.data }], guard := none }) rfl (fun K hK => ?_) (AllReadyH.cons (o := { dst := some 46, op := Op.load 90 (Operand.tmp 7), type := 90, pos := "disk.go:78", after := #[], guard := none }) rfl (fun K hK => ?_) AllReadyH.nil)
  · have cc := hS.1
    go_simp
    clear cc
    refine hK.out _ _ trivial (fun _ => ?_)
    clear hK K
    try simp only [Act.put, List.setIfInBounds_toArray, List.set_cons_zero, List.set_cons_succ]
    refine wpAnyH_ready (rs := [5]) (by kernel_rfl) (by simp) ?_
    refine AllReadyH.cons (o := { dst := some 46, op := Op.load 90 (Operand.tmp 7), type := 90, pos := "disk.go:78", after := #[], guard := none }) rfl (fun K hK => ?_) AllReadyH.nil
    refine (if_pos (show Region.wanted _ _ = true from rfl)).mpr ?_
    refine wp_load_mid 90 _ rfl w1.heap.size 0 rfl wc _ hS.2 Try.underlying90 rfl (by rw [size_write, hwl]) ?_
    refine hK.out _ _ trivial (fun _ => ?_)
    clear hK K
    try simp only [Act.put, List.setIfInBounds_toArray, List.set_cons_zero, List.set_cons_succ]
    refine wpAnyH_ready (rs := [6]) (by kernel_rfl) (by simp) ?_
    refine AllReadyH.cons (o := { dst := some 47, op := Op.buildSlice 63 1 #[(0, Operand.tmp 46)], type := 63, pos := "disk.go:78", after := #[{ on := 5, ground := Ground.data }], guard := none }) rfl (fun K hK => ?_) AllReadyH.nil
    refine step_one_write rfl _ rfl wc rfl hwl ?_
    refine hK.out _ _ trivial (fun _ => ?_)
    clear hK K
    try simp only [Act.put, List.setIfInBounds_toArray, List.set_cons_zero, List.set_cons_succ]
    refine wpAnyH_ready (rs := [7]) (by kernel_rfl) (by simp) ?_
    refine AllReadyH.cons (o := { dst := some 48, op := Op.call { callee := Callee.builtin Builtin.append, args := #[Operand.tmp 45, Operand.tmp 47], argTypes := #[63, 63] }, type := 63, pos := "disk.go:78", after := #[{ on := 4, ground := Ground.data }, { on := 6, ground := Ground.data }], guard := none }) rfl (fun K hK => ?_) AllReadyH.nil
    refine step_append_write rfl _ _ rfl B P m1.pend.length (pcells m1.pend) rfl (H5.out.hP.alloc _) ⟨w4.drew.heap.size, 0, none⟩ 1 rfl wc hwl ?_ hwo ep hbA ?_
    · intro j u hj
      show (w4.drew.alloc (.cells wc.toArray 90)).cell? _ = _
      rw [add_off, Nat.zero_add, cell_of_row _ _ _ _ _ _ (heap_alloc_new w4.drew _)]
      simpa using hj
    intro g cap w6 hown6 hgrow6 hfr6
    subst hwc
    obtain ⟨k2, f2, h7, hb7⟩ := (H5.out.below ((Below.refl w4.drew.heap.size w4.drew).alloc (Nat.le_refl _) (.cells (wcells (i, pad b)).toArray 90))).grow hown6 hgrow6 ⟨hi1, hpl⟩
    have hb8 := Lib.hid ((hB4.out.trans (Bf.new ((Below.refl w4.heap.size w4).drew) H4.out.base)).trans ((Bf.new ((Below.refl w4.drew.heap.size w4.drew).alloc (Nat.le_refl _) (.cells (wcells (i, pad b)).toArray 90)) H5.out.base).trans hb7))
    have HFR : Hid (P.ownBlock = some g ∨ w.heap.size ≤ g) := by
      rcases hfr6 with h | h
      · exact .inl h
      · exact .inr (Nat.le_trans (Nat.le_trans hB4.out.below.size ((Below.refl w4.drew.heap.size w4.drew).alloc (Nat.le_refl _) (.cells (wcells (i, pad b)).toArray 90)).size) h)
    have H7 := Lib.hid h7
    clear h7 hb7 hown6 hgrow6 hfr6
    refine hK.out _ _ trivial (fun _ => ?_)
    clear hK K
    try simp only [Act.put, List.setIfInBounds_toArray, List.set_cons_zero, List.set_cons_succ]
    refine wpAnyH_take (i := 8) (oi := { dst := some 49, op := Op.nilCheck (Operand.tmp 41), type := 0, pos := "disk.go:78", after := #[{ on := 0, ground := Ground.data }, { on := 0, ground := Ground.phase }, { on := 1, ground := Ground.phase }, { on := 2, ground := Ground.phase }, { on := 3, ground := Ground.phase }, { on := 4, ground := Ground.phase }, { on := 5, ground := Ground.phase }, { on := 6, ground := Ground.phase }, { on := 7, ground := Ground.phase }], guard := none }) (v := ?_) rfl (by kernel_rfl) (by kernel_rfl) (by kernel_rfl) (fun _ _ _ h => h) (Or.inl ⟨by rfl, ?_⟩) (by assumption) ?_
    rotate_left
    · intro w hSw
      try dsimp only at hSw
      go_simp
      try with_reducible rfl
    try simp only [Act.put, List.setIfInBounds_toArray, List.set_cons_zero, List.set_cons_succ]
    refine wpAnyH_take (i := 9) (oi := { dst := some 50, op := Op.fieldAddr 65 (Operand.tmp 49) 2, type := 0, pos := "disk.go:78", after := #[{ on := 8, ground := Ground.data }, { on := 0, ground := Ground.phase }, { on := 1, ground := Ground.phase }, { on := 2, ground := Ground.phase }, { on := 3, ground := Ground.phase }, { on := 4, ground := Ground.phase }, { on := 5, ground := Ground.phase }, { on := 6, ground := Ground.phase }, { on := 7, ground := Ground.phase }], guard := none }) (v := ?_) rfl (by kernel_rfl) (by kernel_rfl) (by kernel_rfl) (fun _ _ _ h => h) (Or.inl ⟨by rfl, ?_⟩) (by assumption) ?_
    rotate_left
    · intro w hSw
      try dsimp only at hSw
      go_simp
      try with_reducible rfl
    try simp only [Act.put, List.setIfInBounds_toArray, List.set_cons_zero, List.set_cons_succ]
    refine wpAnyH_ready (rs := [10]) (by kernel_rfl) (by simp) ?_
    refine AllReadyH.cons (o := { dst := none, op := Op.store 63 (Operand.tmp 50) (Operand.tmp 48), type := 0, pos := "disk.go:78", after := #[{ on := 9, ground := Ground.data }, { on := 7, ground := Ground.data }, { on := 7, ground := Ground.chain }, { on := 0, ground := Ground.phase }, { on := 1, ground := Ground.phase }, { on := 2, ground := Ground.phase }, { on := 3, ground := Ground.phase }, { on := 4, ground := Ground.phase }, { on := 5, ground := Ground.phase }, { on := 6, ground := Ground.phase }, { on := 7, ground := Ground.phase }], guard := none }) rfl (fun K hK => ?_) AllReadyH.nil
    go_simp
    refine hK.out _ _ trivial (fun _ => ?_)
    clear hK K
    try simp only [Act.put, List.setIfInBounds_toArray, List.set_cons_zero, List.set_cons_succ]
    refine wpAnyH_done (by kernel_rfl) ?_ _
    go_wp2
    go_ret
    exact ⟨_, rfl, H7.out, hb8.out, fun g' hg' => by injection hg' with hg'; rw [← hg']; exact HFR.out⟩
  · refine (if_pos (show Region.wanted _ _ = true from rfl)).mpr ?_
    refine wp_load_mid 90 _ rfl w1.heap.size 0 rfl wc _ hS.2 Try.underlying90 rfl (by rw [size_write, hwl]) ?_
    refine hK.out _ _ trivial (fun _ => ?_)
    clear hK K
    try simp only [Act.put, List.setIfInBounds_toArray, List.set_cons_zero, List.set_cons_succ]
    refine wpAnyH_ready (rs := [4, 6]) (by kernel_rfl) (by simp) ?_
    refine AllReadyH.cons (o := { dst := some 45, op := Op.load 63 (Operand.tmp 44), type := 63, pos := "disk.go:78", after := #[{ on := 3, ground := Ground.data }], guard := none }) rfl (fun K hK => ?_) (AllReadyH.cons (o := { dst := some 47, op := Op.buildSlice 63 1 #[(0, Operand.tmp 46)], type := 63, pos := "disk.go:78", after := #[{ on := 5, ground := Ground.data }], guard := none }) rfl (fun K hK => ?_) AllReadyH.nil)
    · have cc := hS.1
      go_simp
      clear cc
      refine hK.out _ _ trivial (fun _ => ?_)
      clear hK K
      try simp only [Act.put, List.setIfInBounds_toArray, List.set_cons_zero, List.set_cons_succ]
      refine wpAnyH_ready (rs := [6]) (by kernel_rfl) (by simp) ?_
      refine AllReadyH.cons (o := { dst := some 47, op := Op.buildSlice 63 1 #[(0, Operand.tmp 46)], type := 63, pos := "disk.go:78", after := #[{ on := 5, ground := Ground.data }], guard := none }) rfl (fun K hK => ?_) AllReadyH.nil
      refine step_one_write rfl _ rfl wc rfl hwl ?_
      refine hK.out _ _ trivial (fun _ => ?_)
      clear hK K
      try simp only [Act.put, List.setIfInBounds_toArray, List.set_cons_zero, List.set_cons_succ]
      refine wpAnyH_ready (rs := [7]) (by kernel_rfl) (by simp) ?_
      refine AllReadyH.cons (o := { dst := some 48, op := Op.call { callee := Callee.builtin Builtin.append, args := #[Operand.tmp 45, Operand.tmp 47], argTypes := #[63, 63] }, type := 63, pos := "disk.go:78", after := #[{ on := 4, ground := Ground.data }, { on := 6, ground := Ground.data }], guard := none }) rfl (fun K hK => ?_) AllReadyH.nil
      refine step_append_write rfl _ _ rfl B P m1.pend.length (pcells m1.pend) rfl (H5.out.hP.alloc _) ⟨w4.drew.heap.size, 0, none⟩ 1 rfl wc hwl ?_ hwo ep hbA ?_
      · intro j u hj
        show (w4.drew.alloc (.cells wc.toArray 90)).cell? _ = _
        rw [add_off, Nat.zero_add, cell_of_row _ _ _ _ _ _ (heap_alloc_new w4.drew _)]
        simpa using hj
      intro g cap w6 hown6 hgrow6 hfr6
      subst hwc
      obtain ⟨k2, f2, h7, hb7⟩ := (H5.out.below ((Below.refl w4.drew.heap.size w4.drew).alloc (Nat.le_refl _) (.cells (wcells (i, pad b)).toArray 90))).grow hown6 hgrow6 ⟨hi1, hpl⟩
      have hb8 := Lib.hid ((hB4.out.trans (Bf.new ((Below.refl w4.heap.size w4).drew) H4.out.base)).trans ((Bf.new ((Below.refl w4.drew.heap.size w4.drew).alloc (Nat.le_refl _) (.cells (wcells (i, pad b)).toArray 90)) H5.out.base).trans hb7))
      have HFR : Hid (P.ownBlock = some g ∨ w.heap.size ≤ g) := by
        rcases hfr6 with h | h
        · exact .inl h
        · exact .inr (Nat.le_trans (Nat.le_trans hB4.out.below.size ((Below.refl w4.drew.heap.size w4.drew).alloc (Nat.le_refl _) (.cells (wcells (i, pad b)).toArray 90)).size) h)
      have H7 := Lib.hid h7
      clear h7 hb7 hown6 hgrow6 hfr6
      refine hK.out _ _ trivial (fun _ => ?_)
      clear hK K
      try simp only [Act.put, List.setIfInBounds_toArray, List.set_cons_zero, List.set_cons_succ]
      refine wpAnyH_take (i := 8) (oi := { dst := some 49, op := Op.nilCheck (Operand.tmp 41), type := 0, pos := "disk.go:78", after := #[{ on := 0, ground := Ground.data }, { on := 0, ground := Ground.phase }, { on := 1, ground := Ground.phase }, { on := 2, ground := Ground.phase }, { on := 3, ground := Ground.phase }, { on := 4, ground := Ground.phase }, { on := 5, ground := Ground.phase }, { on := 6, ground := Ground.phase }, { on := 7, ground := Ground.phase }], guard := none }) (v := ?_) rfl (by kernel_rfl) (by kernel_rfl) (by kernel_rfl) (fun _ _ _ h => h) (Or.inl ⟨by rfl, ?_⟩) (by assumption) ?_
      rotate_left
      · intro w hSw
        try dsimp only at hSw
        go_simp
        try with_reducible rfl
      try simp only [Act.put, List.setIfInBounds_toArray, List.set_cons_zero, List.set_cons_succ]
      refine wpAnyH_take (i := 9) (oi := { dst := some 50, op := Op.fieldAddr 65 (Operand.tmp 49) 2, type := 0, pos := "disk.go:78", after := #[{ on := 8, ground := Ground.data }, { on := 0, ground := Ground.phase }, { on := 1, ground := Ground.phase }, { on := 2, ground := Ground.phase }, { on := 3, ground := Ground.phase }, { on := 4, ground := Ground.phase }, { on := 5, ground := Ground.phase }, { on := 6, ground := Ground.phase }, { on := 7, ground := Ground.phase }], guard := none }) (v := ?_) rfl (by kernel_rfl) (by kernel_rfl) (by kernel_rfl) (fun _ _ _ h => h) (Or.inl ⟨by rfl, ?_⟩) (by assumption) ?_
      rotate_left
      · intro w hSw
        try dsimp only at hSw
        go_simp
        try with_reducible rfl
      try simp only [Act.put, List.setIfInBounds_toArray, List.set_cons_zero, List.set_cons_succ]
      refine wpAnyH_ready (rs := [10]) (by kernel_rfl) (by simp) ?_
      refine AllReadyH.cons (o := { dst := none, op := Op.store 63 (Operand.tmp 50) (Operand.tmp 48), type := 0, pos := "disk.go:78", after := #[{ on := 9, ground := Ground.data }, { on := 7, ground := Ground.data }, { on := 7, ground := Ground.chain }, { on := 0, ground := Ground.phase }, { on := 1, ground := Ground.phase }, { on := 2, ground := Ground.phase }, { on := 3, ground := Ground.phase }, { on := 4, ground := Ground.phase }, { on := 5, ground := Ground.phase }, { on := 6, ground := Ground.phase }, { on := 7, ground := Ground.phase }], guard := none }) rfl (fun K hK => ?_) AllReadyH.nil
      go_simp
      refine hK.out _ _ trivial (fun _ => ?_)
      clear hK K
      try simp only [Act.put, List.setIfInBounds_toArray, List.set_cons_zero, List.set_cons_succ]
      refine wpAnyH_done (by kernel_rfl) ?_ _
      go_wp2
      go_ret
      exact ⟨_, rfl, H7.out, hb8.out, fun g' hg' => by injection hg' with hg'; rw [← hg']; exact HFR.out⟩
    · refine step_one_write rfl _ rfl wc rfl hwl ?_
      refine hK.out _ _ trivial (fun _ => ?_)
      clear hK K
      try simp only [Act.put, List.setIfInBounds_toArray, List.set_cons_zero, List.set_cons_succ]
      refine wpAnyH_ready (rs := [4]) (by kernel_rfl) (by simp) ?_
      refine AllReadyH.cons (o := { dst := some 45, op := Op.load 63 (Operand.tmp 44), type := 63, pos := "disk.go:78", after := #[{ on := 3, ground := Ground.data }], guard := none }) rfl (fun K hK => ?_) AllReadyH.nil
      have cc := hcA
      go_simp
      clear cc
      refine hK.out _ _ trivial (fun _ => ?_)
      clear hK K
      try simp only [Act.put, List.setIfInBounds_toArray, List.set_cons_zero, List.set_cons_succ]
      refine wpAnyH_ready (rs := [7]) (by kernel_rfl) (by simp) ?_
      refine AllReadyH.cons (o := { dst := some 48, op := Op.call { callee := Callee.builtin Builtin.append, args := #[Operand.tmp 45, Operand.tmp 47], argTypes := #[63, 63] }, type := 63, pos := "disk.go:78", after := #[{ on := 4, ground := Ground.data }, { on := 6, ground := Ground.data }], guard := none }) rfl (fun K hK => ?_) AllReadyH.nil
      refine step_append_write rfl _ _ rfl B P m1.pend.length (pcells m1.pend) rfl (H5.out.hP.alloc _) ⟨w4.drew.heap.size, 0, none⟩ 1 rfl wc hwl ?_ hwo ep hbA ?_
      · intro j u hj
        show (w4.drew.alloc (.cells wc.toArray 90)).cell? _ = _
        rw [add_off, Nat.zero_add, cell_of_row _ _ _ _ _ _ (heap_alloc_new w4.drew _)]
        simpa using hj
      intro g cap w6 hown6 hgrow6 hfr6
      subst hwc
      obtain ⟨k2, f2, h7, hb7⟩ := (H5.out.below ((Below.refl w4.drew.heap.size w4.drew).alloc (Nat.le_refl _) (.cells (wcells (i, pad b)).toArray 90))).grow hown6 hgrow6 ⟨hi1, hpl⟩
      have hb8 := Lib.hid ((hB4.out.trans (Bf.new ((Below.refl w4.heap.size w4).drew) H4.out.base)).trans ((Bf.new ((Below.refl w4.drew.heap.size w4.drew).alloc (Nat.le_refl _) (.cells (wcells (i, pad b)).toArray 90)) H5.out.base).trans hb7))
      have HFR : Hid (P.ownBlock = some g ∨ w.heap.size ≤ g) := by
        rcases hfr6 with h | h
        · exact .inl h
        · exact .inr (Nat.le_trans (Nat.le_trans hB4.out.below.size ((Below.refl w4.drew.heap.size w4.drew).alloc (Nat.le_refl _) (.cells (wcells (i, pad b)).toArray 90)).size) h)
      have H7 := Lib.hid h7
      clear h7 hb7 hown6 hgrow6 hfr6
      refine hK.out _ _ trivial (fun _ => ?_)
      clear hK K
      try simp only [Act.put, List.setIfInBounds_toArray, List.set_cons_zero, List.set_cons_succ]
      refine wpAnyH_take (i := 8) (oi := { dst := some 49, op := Op.nilCheck (Operand.tmp 41), type := 0, pos := "disk.go:78", after := #[{ on := 0, ground := Ground.data }, { on := 0, ground := Ground.phase }, { on := 1, ground := Ground.phase }, { on := 2, ground := Ground.phase }, { on := 3, ground := Ground.phase }, { on := 4, ground := Ground.phase }, { on := 5, ground := Ground.phase }, { on := 6, ground := Ground.phase }, { on := 7, ground := Ground.phase }], guard := none }) (v := ?_) rfl (by kernel_rfl) (by kernel_rfl) (by kernel_rfl) (fun _ _ _ h => h) (Or.inl ⟨by rfl, ?_⟩) (by assumption) ?_
      rotate_left
      · intro w hSw
        try dsimp only at hSw
        go_simp
        try with_reducible rfl
      try simp only [Act.put, List.setIfInBounds_toArray, List.set_cons_zero, List.set_cons_succ]
      refine wpAnyH_take (i := 9) (oi := { dst := some 50, op := Op.fieldAddr 65 (Operand.tmp 49) 2, type := 0, pos := "disk.go:78", after := #[{ on := 8, ground := Ground.data }, { on := 0, ground := Ground.phase }, { on := 1, ground := Ground.phase }, { on := 2, ground := Ground.phase }, { on := 3, ground := Ground.phase }, { on := 4, ground := Ground.phase }, { on := 5, ground := Ground.phase }, { on := 6, ground := Ground.phase }, { on := 7, ground := Ground.phase }], guard := none }) (v := ?_) rfl (by kernel_rfl) (by kernel_rfl) (by kernel_rfl) (fun _ _ _ h => h) (Or.inl ⟨by rfl, ?_⟩) (by assumption) ?_
      rotate_left
      · intro w hSw
        try dsimp only at hSw
        go_simp
        try with_reducible rfl
      try simp only [Act.put, List.setIfInBounds_toArray, List.set_cons_zero, List.set_cons_succ]
      refine wpAnyH_ready (rs := [10]) (by kernel_rfl) (by simp) ?_
      refine AllReadyH.cons (o := { dst := none, op := Op.store 63 (Operand.tmp 50) (Operand.tmp 48), type := 0, pos := "disk.go:78", after := #[{ on := 9, ground := Ground.data }, { on := 7, ground := Ground.data }, { on := 7, ground := Ground.chain }, { on := 0, ground := Ground.phase }, { on := 1, ground := Ground.phase }, { on := 2, ground := Ground.phase }, { on := 3, ground := Ground.phase }, { on := 4, ground := Ground.phase }, { on := 5, ground := Ground.phase }, { on := 6, ground := Ground.phase }, { on := 7, ground := Ground.phase }], guard := none }) rfl (fun K hK => ?_) AllReadyH.nil
      go_simp
      refine hK.out _ _ trivial (fun _ => ?_)
      clear hK K
      try simp only [Act.put, List.setIfInBounds_toArray, List.set_cons_zero, List.set_cons_succ]
      refine wpAnyH_done (by kernel_rfl) ?_ _
      go_wp2
      go_ret
      exact ⟨_, rfl, H7.out, hb8.out, fun g' hg' => by injection hg' with hg'; rw [← hg']; exact HFR.out⟩
end Go.Proofs.Yticiaiiedagalaa.dk
