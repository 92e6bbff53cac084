/- Write where nothing is written; Read. -/
import Derived.Test.YticiaiiedagalaaPl4
namespace Go.Proofs.Yticiaiiedagalaa.dk
open Go.PlainAid Go.ChangeShapes Go.WideShapes Go.ChangeAt Go.RowKit

set_option maxRecDepth 100000 in
theorem Write_dead {B D L N : Nat} {P : Value} {m : Dk} {w : World} (h : DiskAt B D L N P m w) (hd : m.dead = true) (i : Int) (v : Value) :
    Calls Try.prog 19 #[.pointer (some ⟨D, 0, none⟩), .int .i64 i, v] w fun e w' => e = .returned (.int .i64 10) ∧ w = w' := by
  have hD := Dead_any h
  rw [hd] at hD
  have HD := Lib.hid hD
  clear hD
  go_enter Try.func19, Try.ntmps19
  go_wp2_with (go_at_call 34; with_reducible refine HD.out.mono ?_; rintro e w' ⟨rfl, rfl⟩)
  go_ret
  exact ⟨rfl, rfl⟩
set_option maxRecDepth 100000 in
theorem Write_nil (w : World) (i : Int) (v : Value) :
    Calls Try.prog 19 #[.pointer none, .int .i64 i, v] w fun e w' => e = .returned (.int .i64 10) ∧ w = w' := by
  have HD := Lib.hid (Dead_nil w)
  go_enter Try.func19, Try.ntmps19
  go_wp2_with (go_at_call 34; with_reducible refine HD.out.mono ?_; rintro e w' ⟨rfl, rfl⟩)
  go_ret
  exact ⟨rfl, rfl⟩
set_option maxRecDepth 100000 in
theorem Write_arg {B D L N : Nat} {P : Value} {m : Dk} {w : World} (h : DiskAt B D L N P m w) (hd : m.dead = false) (i : Int) (p : Option Addr) (k c : Nat) (hi : i < 0 ∨ (m.n : Int) ≤ i ∨ 64 < k) :
    Calls Try.prog 19 #[.pointer (some ⟨D, 0, none⟩), .int .i64 i, .slice p k c] w fun e w' => e = .returned (.int .i64 1) ∧ w = w' := by
  have hD := Dead_any h
  rw [hd] at hD
  have HD := Lib.hid hD
  have HSz := Lib.hid (Size_any h)
  clear hD
  rcases (show i < 0 ∨ (0 ≤ i ∧ (m.n : Int) ≤ i) ∨ (0 ≤ i ∧ i < (m.n : Int) ∧ 64 < k) by omega) with hi | ⟨h0, hi⟩ | ⟨h0, h1, hi⟩
  · have d1 : decide (i < 0) = true := decide_eq_true hi
    go_enter Try.func19, Try.ntmps19
    go_wp2_with (first | (go_at_call 34; with_reducible refine HD.out.mono ?_; rintro e w' ⟨rfl, rfl⟩) | (go_at_call 36; with_reducible refine HSz.out.mono ?_; rintro e w' ⟨rfl, rfl⟩))
    go_ret
    exact ⟨rfl, rfl⟩
  · have d1 : decide (i < 0) = false := decide_eq_false (by omega)
    have d2 : decide ((m.n : Int) ≤ i) = true := decide_eq_true hi
    go_enter Try.func19, Try.ntmps19
    go_wp2_with (first | (go_at_call 34; with_reducible refine HD.out.mono ?_; rintro e w' ⟨rfl, rfl⟩) | (go_at_call 36; with_reducible refine HSz.out.mono ?_; rintro e w' ⟨rfl, rfl⟩))
    go_ret
    exact ⟨rfl, rfl⟩
  · have d1 : decide (i < 0) = false := decide_eq_false (by omega)
    have d2 : decide ((m.n : Int) ≤ i) = false := decide_eq_false (by omega)
    have d3 : decide ((64 : Int) < k) = true := decide_eq_true (by omega)
    go_enter Try.func19, Try.ntmps19
    go_wp2_with (first | (go_at_call 34; with_reducible refine HD.out.mono ?_; rintro e w' ⟨rfl, rfl⟩) | (go_at_call 36; with_reducible refine HSz.out.mono ?_; rintro e w' ⟨rfl, rfl⟩))
    go_ret
    exact ⟨rfl, rfl⟩
set_option maxRecDepth 100000 in
theorem Write_stop {B D L N : Nat} {P : Value} {m : Dk} {w : World} (h : DiskAt B D L N P m w) (hd : m.dead = false) (h0 : m.limit = 0) (i : Nat) (p : Option Addr) (k c : Nat) (hi : i < m.n) (hk : k ≤ 64) :
    Calls Try.prog 19 #[.pointer (some ⟨D, 0, none⟩), .int .i64 i, .slice p k c] w fun e w' => e = .returned (.int .i64 10) ∧ DiskAt B D L N P { m with dead := true } w' ∧ Below B w w' := by
  have hD := Dead_any h
  rw [hd] at hD
  have HD := Lib.hid hD
  have HSz := Lib.hid (Size_any h)
  clear hD
  have HS := Lib.hid (spend_dead h h0)
  have d1 : decide ((i : Int) < 0) = false := decide_eq_false (by omega)
  have d2 : decide ((m.n : Int) ≤ i) = false := decide_eq_false (by omega)
  have d3 : decide ((64 : Int) < k) = false := decide_eq_false (by omega)
  clear h0
  go_enter Try.func19, Try.ntmps19
  go_wp2_with (first | (go_at_call 34; with_reducible refine HD.out.mono ?_; rintro e w' ⟨rfl, rfl⟩) | (go_at_call 36; with_reducible refine HSz.out.mono ?_; rintro e w' ⟨rfl, rfl⟩))
  with_reducible refine HS.out.mono ?_
  rintro e w1 ⟨rfl, h1, hb1, _⟩
  go_wp2
  go_ret
  exact ⟨rfl, h1, hb1⟩

set_option maxRecDepth 100000 in
theorem Read_dead {B D L N : Nat} {P : Value} {m : Dk} {w : World} (h : DiskAt B D L N P m w) (hd : m.dead = true) (i : Int) :
    Calls Try.prog 50 #[.pointer (some ⟨D, 0, none⟩), .int .i64 i] w fun e w' => e = .returned (.tuple #[.slice none 0 0, .int .i64 10]) ∧ w = w' := by
  have hD := Dead_any h
  rw [hd] at hD
  have HD := Lib.hid hD
  clear hD
  go_enter Try.func50, Try.ntmps50
  go_wp2_with (go_at_call 34; with_reducible refine HD.out.mono ?_; rintro e w' ⟨rfl, rfl⟩)
  go_ret2
  exact ⟨rfl, rfl⟩
set_option maxRecDepth 100000 in
theorem Read_nil (w : World) (i : Int) :
    Calls Try.prog 50 #[.pointer none, .int .i64 i] w fun e w' => e = .returned (.tuple #[.slice none 0 0, .int .i64 10]) ∧ w = w' := by
  have HD := Lib.hid (Dead_nil w)
  go_enter Try.func50, Try.ntmps50
  go_wp2_with (go_at_call 34; with_reducible refine HD.out.mono ?_; rintro e w' ⟨rfl, rfl⟩)
  go_ret2
  exact ⟨rfl, rfl⟩
set_option maxRecDepth 100000 in
theorem Read_arg {B D L N : Nat} {P : Value} {m : Dk} {w : World} (h : DiskAt B D L N P m w) (hd : m.dead = false) (i : Int) (hi : i < 0 ∨ (m.n : Int) ≤ i) :
    Calls Try.prog 50 #[.pointer (some ⟨D, 0, none⟩), .int .i64 i] w fun e w' => e = .returned (.tuple #[.slice none 0 0, .int .i64 1]) ∧ w = w' := by
  have hD := Dead_any h
  rw [hd] at hD
  have HD := Lib.hid hD
  have HSz := Lib.hid (Size_any h)
  clear hD
  rcases (show i < 0 ∨ (0 ≤ i ∧ (m.n : Int) ≤ i) by omega) with hi | ⟨h0, hi⟩
  · have d1 : decide (i < 0) = true := decide_eq_true hi
    go_enter Try.func50, Try.ntmps50
    go_wp2_with (first | (go_at_call 34; with_reducible refine HD.out.mono ?_; rintro e w' ⟨rfl, rfl⟩) | (go_at_call 36; with_reducible refine HSz.out.mono ?_; rintro e w' ⟨rfl, rfl⟩))
    go_ret2
    exact ⟨rfl, rfl⟩
  · have d1 : decide (i < 0) = false := decide_eq_false (by omega)
    have d2 : decide ((m.n : Int) ≤ i) = true := decide_eq_true hi
    go_enter Try.func50, Try.ntmps50
    go_wp2_with (first | (go_at_call 34; with_reducible refine HD.out.mono ?_; rintro e w' ⟨rfl, rfl⟩) | (go_at_call 36; with_reducible refine HSz.out.mono ?_; rintro e w' ⟨rfl, rfl⟩))
    go_ret2
    exact ⟨rfl, rfl⟩
def secOf (l : List Int) (i : Nat) : List Int := (l.drop (i * 64)).take 64
def ReadPost (B D L N : Nat) (P : Value) (m : Dk) (i : Nat) (w : World) (e : Ending) (w' : World) : Prop :=
  ∃ G, e = .returned (.tuple #[.slice (some ⟨G, 0, none⟩) 64 64, .int .i64 0]) ∧ w.heap.size ≤ G ∧ w'.heap[G]? = some (.cells (bcells (secOf m.now i)).toArray 5 (0, 0)) ∧ DiskAt B D L N P m w' ∧ Below w.heap.size w w'
set_option maxHeartbeats 1000000 in
set_option maxRecDepth 100000 in
theorem Read_ok {B D L N : Nat} {P : Value} {m : Dk} {w : World} (h : DiskAt B D L N P m w) (hd : m.dead = false) (i : Nat) (hi : i < m.n) :
    Calls Try.prog 50 #[.pointer (some ⟨D, 0, none⟩), .int .i64 i] w fun e w' => ReadPost B D L N P m i w e w' := by
  have hD := Dead_any h
  rw [hd] at hD
  have HD := Lib.hid hD
  have HSz := Lib.hid (Size_any h)
  clear hD
  have d1 : decide ((i : Int) < 0) = false := decide_eq_false (by omega)
  have d2 : decide ((m.n : Int) ≤ i) = false := decide_eq_false (by omega)
  have hm : ∀ W : World, (Instr.makeSlice 45 (.int .i64 64) (.int .i64 64)).run Try.prog W = .ok (.slice (some ⟨W.heap.size, 0, none⟩) 64 64) (W.alloc (.cells (bcells (List.replicate 64 0)).toArray 5)) := fun W => make_run 1 (by omega) W
  have hlt := h.lt
  have hA := h.below ((Below.refl w.heap.size w).alloc (Nat.le_refl _) (.cells (bcells (List.replicate 64 0)).toArray 5))
  have c1 : (w.alloc (.cells (bcells (List.replicate 64 0)).toArray 5)).cell? ⟨D, 1, none⟩ = some (.slice (some ⟨N, 0, none⟩) (m.n * 64) (m.n * 64)) := by rw [hA.cell 1]; rfl
  have hsl : (secOf m.now i).length = 64 := by unfold secOf; rw [List.length_take, List.length_drop, h.nl]; omega
  have hcp := run_copy_row (P := Try.prog) (w.alloc (.cells (bcells (List.replicate 64 0)).toArray 5)) 45 45 3 5 w.heap.size 0 64 64 ⟨N, i * 64, none⟩ 64 64 (bcells (List.replicate 64 0)).toArray 5 (bcells (secOf m.now i)) Try.underlying45 (by kernel_rfl) (heap_alloc_new w _) (by rw [bcells_length, hsl]; rfl)
    (fun j v hj => by
      rw [add_off, cell_of_row _ _ _ _ _ _ hA.hN, List.getElem?_toArray, ← hj]
      unfold secOf bcells
      rw [List.getElem?_map, List.getElem?_map, List.getElem?_take, List.getElem?_drop]
      have : j < 64 := by
        have := (List.getElem?_eq_some_iff.1 hj).1
        rwa [bcells_length, hsl] at this
      rw [if_pos this]) (by rw [bcells_length, hsl]; simp [bcells]) (bcells_one _)
  rw [bcells_length, hsl] at hcp
  rw [show ((bcells (List.replicate 64 0)).toArray.toList.take 0 ++ bcells (secOf m.now i) ++ (bcells (List.replicate 64 0)).toArray.toList.drop (0 + 64)).toArray = (bcells (secOf m.now i)).toArray by
    rw [List.drop_eq_nil_of_le (by simp [bcells]), List.append_nil]; rfl] at hcp
  have hcp : (Builtin.copy_ #[45, 45] 3 #[.slice (some ⟨w.heap.size, 0, none⟩) 64 64, .slice (some ⟨N, i * 64, none⟩) 64 64]).run Try.prog (w.alloc (.cells (bcells (List.replicate 64 0)).toArray 5)) = .ok (.int .i64 64) ((w.alloc (.cells (bcells (List.replicate 64 0)).toArray 5)).setRow w.heap.size (bcells (secOf m.now i)).toArray) := hcp
  have hbR : Below w.heap.size w ((w.alloc (.cells (bcells (List.replicate 64 0)).toArray 5)).setRow w.heap.size (bcells (secOf m.now i)).toArray) := below_setRow ((Below.refl _ _).alloc (Nat.le_refl _) _) (Nat.le_refl _) _
  have hG := setRow_heap (w.alloc (.cells (bcells (List.replicate 64 0)).toArray 5)) w.heap.size _ (bcells (secOf m.now i)).toArray 5 (0, 0) (heap_alloc_new w _)
  have hsec := Lib.hid (sector_any N m.n i (w.alloc (.cells (bcells (List.replicate 64 0)).toArray 5)) hi h.n2)
  have HR := Lib.hid (And.intro hG (And.intro (h.below hbR) hbR))
  clear hG hbR hA h hlt
  generalize (bcells (List.replicate 64 0)).toArray = zs at hm hcp hsec HR c1
  generalize (w.alloc (.cells zs 5)).setRow w.heap.size (bcells (secOf m.now i)).toArray = w2 at hcp HR
  go_enter Try.func50, Try.ntmps50
  go_wp2_with (first | (go_at_call 34; with_reducible refine HD.out.mono ?_; rintro e w' ⟨rfl, rfl⟩) | (go_at_call 36; with_reducible refine HSz.out.mono ?_; rintro e w' ⟨rfl, rfl⟩) | (go_at_call 45; with_reducible refine hsec.out.mono ?_; rintro e w' ⟨rfl, rfl⟩))
  go_ret2
  exact ⟨_, rfl, Nat.le_refl _, HR.out⟩
end Go.Proofs.Yticiaiiedagalaa.dk
/- Sync. -/
namespace Go.Proofs.Yticiaiiedagalaa.dk
open Go.PlainAid Go.ChangeShapes Go.WideShapes Go.ChangeAt Go.RowKit

/-- What is laid down of what is pending. -/
def laidOf (l : List Int) (p : List (Nat × List Int)) : List Int := p.foldl (fun l x => lay l (x.1 * 64) x.2) l
theorem laidOf_snoc (l : List Int) (p : List (Nat × List Int)) (x : Nat × List Int) : laidOf l (p ++ [x]) = lay (laidOf l p) (x.1 * 64) x.2 := by simp [laidOf]

/-- A write that is pending, in its row. -/
theorem pcells_at : ∀ (l : List (Nat × List Int)) (k j : Nat) (_ : ∀ x ∈ l, x.2.length = 64) (hk : k < l.length) (_ : j < 65), (pcells l)[65 * k + j]? = (wcells (l[k]'hk))[j]?
  | [], k, _, _, hk, _ => absurd hk (Nat.not_lt_zero k)
  | x :: l, 0, j, hl, _, hj => by
    show (wcells x ++ pcells l)[65 * 0 + j]? = (wcells x)[j]?
    have hx : (wcells x).length = 65 := by unfold wcells; rw [List.length_cons, bcells_length, hl x (by simp)]
    rw [Nat.mul_zero, Nat.zero_add, List.getElem?_append_left (by omega)]
  | x :: l, k + 1, j, hl, hk, hj => by
    show (wcells x ++ pcells l)[65 * (k + 1) + j]? = (wcells (l[k]'(by simpa using hk)))[j]?
    have hx : (wcells x).length = 65 := by unfold wcells; rw [List.length_cons, bcells_length, hl x (by simp)]
    rw [List.getElem?_append_right (by omega), hx, show 65 * (k + 1) + j - 65 = 65 * k + j by omega]
    exact pcells_at l k j (fun y hy => hl y (by simp [hy])) (by simpa using hk) hj
theorem DiskAt.range {B D L N : Nat} {m : Dk} {W : World} {g cap : Nat} (h : DiskAt B D L N (.slice (some ⟨g, 0, none⟩) m.pend.length cap) m W) (k : Nat) (hk : k < m.pend.length) : W.rangeAt g (k * 65) (wcells (m.pend[k]'hk)) := fun j v hj => by
  have hx := (h.pw _ (List.getElem_mem hk)).2
  have hj65 : j < 65 := by
    have := (List.getElem?_eq_some_iff.1 hj).1
    unfold wcells at this
    rw [List.length_cons, bcells_length, hx] at this
    exact this
  rw [show k * 65 + j = 65 * k + j by omega, h.hP.cellAt (65 * k + j) (by omega), ← hj]
  exact pcells_at m.pend k j (fun x hx => (h.pw x hx).2) hk hj65

/-- Nothing is pending. -/
theorem DiskAt.clear_pend {B D L N : Nat} {P : Value} {m : Dk} {W : World} (h : DiskAt B D L N P m W) : DiskAt B D L N (.slice none 0 0) { m with pend := [] } (W.setCell ⟨D, 2, none⟩ (.slice none 0 0)) ∧ Below B W (W.setCell ⟨D, 2, none⟩ (.slice none 0 0)) ∧ Fr D W (W.setCell ⟨D, 2, none⟩ (.slice none 0 0)) := by
  rw [setCell_eq_setRow W D 2 _ _ _ _ h.hD]
  have ho : ∀ k, k ≠ D → (W.setRow D ((dcells L N P m).setIfInBounds 2 (.slice none 0 0))).heap[k]? = W.heap[k]? := fun k hk => setRow_other W D k _ hk
  refine ⟨{ h with
    pd := fun e => by cases e
    pl := fun e => by cases e
    pn := fun e => by cases e
    hD := setRow_heap W D _ _ _ _ h.hD
    hL := by rw [ho L h.dl.symm]; exact h.hL
    hN := by rw [ho N h.dn.symm]; exact h.hN
    hP := World.ownsRow_nil _ _ _ _
    pw := fun x hx => by cases hx }, below_setRow (Below.refl _ _) h.bD _, ho⟩

set_option maxRecDepth 100000 in
theorem Sync_dead {B D L N : Nat} {P : Value} {m : Dk} {w : World} (h : DiskAt B D L N P m w) (hd : m.dead = true) :
    Calls Try.prog 21 #[.pointer (some ⟨D, 0, none⟩)] w fun e w' => e = .returned (.int .i64 10) ∧ w = w' := by
  have hD := Dead_any h
  rw [hd] at hD
  have HD := Lib.hid hD
  clear hD
  go_enter Try.func21, Try.ntmps21
  go_wp2_with (go_at_call 34; with_reducible refine HD.out.mono ?_; rintro e w' ⟨rfl, rfl⟩)
  go_ret
  exact ⟨rfl, rfl⟩
set_option maxRecDepth 100000 in
theorem Sync_nil (w : World) :
    Calls Try.prog 21 #[.pointer none] w fun e w' => e = .returned (.int .i64 10) ∧ w = w' := by
  have HD := Lib.hid (Dead_nil w)
  go_enter Try.func21, Try.ntmps21
  go_wp2_with (go_at_call 34; with_reducible refine HD.out.mono ?_; rintro e w' ⟨rfl, rfl⟩)
  go_ret
  exact ⟨rfl, rfl⟩
set_option maxRecDepth 100000 in
theorem Sync_stop {B D L N : Nat} {P : Value} {m : Dk} {w : World} (h : DiskAt B D L N P m w) (hd : m.dead = false) (h0 : m.limit = 0) :
    Calls Try.prog 21 #[.pointer (some ⟨D, 0, none⟩)] w fun e w' => e = .returned (.int .i64 10) ∧ DiskAt B D L N P { m with dead := true } w' ∧ Below B w w' := by
  have hD := Dead_any h
  rw [hd] at hD
  have HD := Lib.hid hD
  have HS := Lib.hid (spend_dead h h0)
  clear hD h0
  go_enter Try.func21, Try.ntmps21
  go_wp2_with (go_at_call 34; with_reducible refine HD.out.mono ?_; rintro e w' ⟨rfl, rfl⟩)
  with_reducible refine HS.out.mono ?_
  rintro e w1 ⟨rfl, h1, hb1, _⟩
  go_wp2
  go_ret
  exact ⟨rfl, h1, hb1⟩

def SyncPost (B D L N : Nat) (P : Value) (m1 : Dk) (w : World) (e : Ending) (w' : World) : Prop := e = .returned (.int .i64 0) ∧ DiskAt B D L N (.slice none 0 0) { m1 with laid := laidOf m1.laid m1.pend, pend := [] } w' ∧ Bf B (Xd D L N P) w w'

set_option maxHeartbeats 2000000 in
set_option maxRecDepth 20000 in
theorem Sync_ok {B D L N : Nat} {P : Value} {m : Dk} {w : World} (h : DiskAt B D L N P m w) (m1 : Dk) (hd : m.dead = false) (ep : m1.pend.length ≤ 1000000)
    (HS : Calls Try.prog 46 #[.pointer (some ⟨D, 0, none⟩)] w fun e w' => e = .returned (.bool true) ∧ DiskAt B D L N P m1 w' ∧ Below B w w' ∧ Fr D w w') :
    Calls Try.prog 21 #[.pointer (some ⟨D, 0, none⟩)] w fun e w' => SyncPost B D L N P m1 w e w' := by
  have hD := Dead_any h
  rw [hd] at hD
  have HD := Lib.hid hD
  have HSp := Lib.hid HS
  clear hD HS
  go_enter Try.func21, Try.ntmps21
  go_wp2_with (go_at_call 34; with_reducible refine HD.out.mono ?_; rintro e w' ⟨rfl, rfl⟩)
  with_reducible refine HSp.out.mono ?_
  rintro e w1 ⟨rfl, h1, hb1, hf1⟩
  have hn2 := h1.n2
  obtain ⟨pp, pc, rfl⟩ := h1.slice
  have c2 : w1.cell? ⟨D, 2, none⟩ = some (.slice pp m1.pend.length pc) := by rw [h1.cell 2]; rfl
  have H1 := Lib.hid h1
  have HB1 : Hid (Bf B (Xd D L N (.slice pp m1.pend.length pc)) w w1) := Bf.one hb1 hf1 (.inl rfl)
  clear HD HSp h1 hb1 hf1 h
  go_wp2

  go_loopw [17] (fun i wr => ∃ k : Nat, i = .int .i64 k ∧ k ≤ m1.pend.length ∧ Hid (DiskAt B D L N (.slice pp m1.pend.length pc) { m1 with laid := laidOf m1.laid (m1.pend.take k) } wr) ∧ Bf B (Xd D L N (.slice pp m1.pend.length pc)) w wr) (fun i _ => m1.pend.length - (intOf i).toNat)
  case atStart => exact ⟨0, rfl, Nat.zero_le _, H1.out, HB1.out⟩
  case round =>
    clear c2 H1 HB1
    obtain ⟨k, rfl, hk, HK, hb⟩ := hrel
    by_cases hkl : k < m1.pend.length
    · have hd2 : decide ((k : Int) < m1.pend.length) = true := decide_eq_true (by omega)
      have HX := (HK.out.pw _ (List.getElem_mem hkl))
      obtain ⟨⟨i, b⟩, hx⟩ : ∃ x, x = m1.pend[k]'hkl := ⟨_, rfl⟩
      obtain ⟨g, rfl⟩ : ∃ g, pp = some ⟨g, 0, none⟩ := by
        rcases HK.out.hP.2 with ⟨hv, h0⟩ | ⟨g, cap, cur, hv, _⟩
        · exact absurd h0 (by show m1.pend.length ≠ 0; omega)
        · injection hv with ha _ _; exact ⟨g, ha⟩
      have hrg : wr.rangeAt g (k * 65) (wcells (i, b)) := by rw [hx]; exact DiskAt.range (m := { m1 with laid := laidOf m1.laid (m1.pend.take k) }) HK.out k hkl
      have hib : i < m1.n ∧ b.length = 64 := by
        have := HK.out.pw _ (List.getElem_mem hkl)
        rw [← hx] at this
        exact this
      have HXe := Lib.hid hx
      have hwl : (wcells (i, b)).length = 65 := by unfold wcells; rw [List.length_cons, bcells_length, hib.2]
      have hwo := wcells_one (i, b)
      have hw0 : (wcells (i, b)).toArray[0]? = some (.int .i64 (i : Int)) := rfl
      have hw1 : ∀ j, (bcells b)[j]? = (wcells (i, b)).toArray[1 + j]? := fun j => by rw [List.getElem?_toArray, Nat.add_comm]; rfl
      have hlt := HK.out.lt
      clear hx HX
      generalize wcells (i, b) = wc at hrg hwl hwo hw0 hw1
      obtain ⟨za, hza, hzr⟩ := zero_some
      obtain ⟨w3, hst, hG3, hb3, hs3⟩ := store_new wr za wc hza hwl hwo
      have K3 := Lib.hid (HK.out.below hb3)
      have HG3 := Lib.hid hG3
      have HB3 := Lib.hid (hb.trans (Bf.new hb3 HK.out.base))
      clear hb3 hG3
      go_wp2_with (refine wpList_load_mid rfl 90 _ rfl g (k * 65) rfl wc _ hrg Try.underlying90 rfl (by rw [size_write, hwl]) ?_)
      have K3d := Lib.hid (K3.out.below ((Below.refl _ _).drew))
      have hGd : w3.drew.heap[wr.heap.size]? = some (.cells wc.toArray 90 (0, 0)) := HG3.out
      have c0 : w3.drew.cell? ⟨D, 0, none⟩ = some (.slice (some ⟨L, 0, none⟩) (m1.n * 64) (m1.n * 64)) := by rw [K3d.out.cell 0]; rfl
      have cG : w3.drew.cell? ⟨wr.heap.size, 0, none⟩ = some (.int .i64 (i : Int)) := by rw [cell_of_row _ _ _ _ _ _ hGd, hw0]
      refine wp_region_held_drew (S := fun W => W.cell? ⟨D, 0, none⟩ = some (.slice (some ⟨L, 0, none⟩) (m1.n * 64) (m1.n * 64)) ∧ W.cell? ⟨wr.heap.size, 0, none⟩ = some (.int .i64 (i : Int))) (by kernel_rfl) ⟨c0, cG⟩ (fun hHeld => ?_)
      have hT : (fun W : World => W.cell? ⟨D, 0, none⟩ = some (.slice (some ⟨L, 0, none⟩) (m1.n * 64) (m1.n * 64)) ∧ W.cell? ⟨wr.heap.size, 0, none⟩ = some (.int .i64 (i : Int))) w3.drew := ⟨c0, cG⟩
      clear hHeld
      refine wpAnyH_take (i := 0) (oi := { dst := some 21, op := Op.move (Operand.tmp 0), type := 25, pos := "disk.go:88", after := #[], guard := none }) (v := ?_) rfl (by kernel_rfl) (by kernel_rfl) (by kernel_rfl) (fun _ _ _ h => h) (Or.inl ⟨by rfl, ?_⟩) (by assumption) ?_
      rotate_left
      · intro w hSw
        try dsimp only at hSw
        go_simp
        try with_reducible rfl
      try simp only [Act.put, List.setIfInBounds_toArray, List.set_cons_zero, List.set_cons_succ]
      refine wpAnyH_take (i := 1) (oi := { dst := some 22, op := Op.nilCheck (Operand.tmp 21), type := 0, pos := "disk.go:88", after := #[{ on := 0, ground := Ground.data }], guard := none }) (v := ?_) rfl (by kernel_rfl) (by kernel_rfl) (by kernel_rfl) (fun _ _ _ h => h) (Or.inl ⟨by rfl, ?_⟩) (by assumption) ?_
      rotate_left
      · intro w hSw
        try dsimp only at hSw
        go_simp
        try with_reducible rfl
      try simp only [Act.put, List.setIfInBounds_toArray, List.set_cons_zero, List.set_cons_succ]
      refine wpAnyH_take (i := 2) (oi := { dst := some 23, op := Op.fieldAddr 65 (Operand.tmp 22) 0, type := 0, pos := "disk.go:88", after := #[{ on := 1, ground := Ground.data }], guard := none }) (v := ?_) rfl (by kernel_rfl) (by kernel_rfl) (by kernel_rfl) (fun _ _ _ h => h) (Or.inl ⟨by rfl, ?_⟩) (by assumption) ?_
      rotate_left
      · intro w hSw
        try dsimp only at hSw
        go_simp
        try with_reducible rfl
      try simp only [Act.put, List.setIfInBounds_toArray, List.set_cons_zero, List.set_cons_succ]
      refine wpAnyH_take (i := 3) (oi := { dst := some 24, op := Op.load 45 (Operand.tmp 23), type := 45, pos := "disk.go:88", after := #[{ on := 2, ground := Ground.data }], guard := none }) (v := ?_) rfl (by kernel_rfl) (by kernel_rfl) (by kernel_rfl) (fun _ _ _ h => h) (Or.inl ⟨by rfl, ?_⟩) (by assumption) ?_
      rotate_left
      · intro w hSw
        try dsimp only at hSw
        go_simp
        try with_reducible rfl
      try simp only [Act.put, List.setIfInBounds_toArray, List.set_cons_zero, List.set_cons_succ]
      refine wpAnyH_take (i := 4) (oi := { dst := some 25, op := Op.fieldAddr 90 (Operand.tmp 4) 0, type := 0, pos := "disk.go:88", after := #[], guard := none }) (v := ?_) rfl (by kernel_rfl) (by kernel_rfl) (by kernel_rfl) (fun _ _ _ h => h) (Or.inl ⟨by rfl, ?_⟩) (by assumption) ?_
      rotate_left
      · intro w hSw
        try dsimp only at hSw
        go_simp
        try with_reducible rfl
      try simp only [Act.put, List.setIfInBounds_toArray, List.set_cons_zero, List.set_cons_succ]
      refine wpAnyH_take (i := 5) (oi := { dst := some 26, op := Op.load 3 (Operand.tmp 25), type := 3, pos := "disk.go:88", after := #[{ on := 4, ground := Ground.data }], guard := none }) (v := ?_) rfl (by kernel_rfl) (by kernel_rfl) (by kernel_rfl) (fun _ _ _ h => h) (Or.inl ⟨by rfl, ?_⟩) (by assumption) ?_
      rotate_left
      · intro w hSw
        try dsimp only at hSw
        go_simp
        try with_reducible rfl
      try simp only [Act.put, List.setIfInBounds_toArray, List.set_cons_zero, List.set_cons_succ]
      refine wpAnyH_take (i := 7) (oi := { dst := some 28, op := Op.fieldAddr 90 (Operand.tmp 4) 1, type := 0, pos := "disk.go:88", after := #[], guard := none }) (v := ?_) rfl (by kernel_rfl) (by kernel_rfl) (by kernel_rfl) (fun _ _ _ h => h) (Or.inl ⟨by rfl, ?_⟩) (by assumption) ?_
      rotate_left
      · intro w hSw
        try dsimp only at hSw
        go_simp
        try with_reducible rfl
      try simp only [Act.put, List.setIfInBounds_toArray, List.set_cons_zero, List.set_cons_succ]
      refine wpAnyH_take (i := 8) (oi := { dst := some 29, op := Op.slice 88 (Operand.tmp 28) none none none, type := 45, pos := "disk.go:88", after := #[{ on := 7, ground := Ground.data }], guard := none }) (v := ?_) rfl (by kernel_rfl) (by kernel_rfl) (by kernel_rfl) (fun _ _ _ h => h) (Or.inl ⟨by rfl, ?_⟩) (by assumption) ?_
      rotate_left
      · intro w hSw
        try dsimp only at hSw
        go_simp
        try with_reducible rfl
      try simp only [Act.put, List.setIfInBounds_toArray, List.set_cons_zero, List.set_cons_succ]
      refine wpAnyH_ready (rs := [6]) (by kernel_rfl) (by simp) ?_
      refine AllReadyH.cons (o := { dst := some 27, op := Op.call { callee := Callee.value (Operand.func 45), args := #[Operand.tmp 24, Operand.tmp 26], argTypes := #[45, 3] }, type := 45, pos := "disk.go:88", after := #[{ on := 3, ground := Ground.data }, { on := 5, ground := Ground.data }], guard := none }) rfl (fun K hK => ?_) AllReadyH.nil
      go_simp
      have hsec := sector_any L m1.n i w3.drew hib.1 hn2
      with_reducible refine hsec.mono ?_
      clear hsec
      rintro e w' ⟨rfl, rfl⟩
      try go_wp2_with fail
      refine hK.out _ _ ⟨c0, cG⟩ (fun _ => ?_)
      clear hK K
      try simp only [Act.put, List.setIfInBounds_toArray, List.set_cons_zero, List.set_cons_succ]
      refine wpAnyH_ready (rs := [9]) (by kernel_rfl) (by simp) ?_
      refine AllReadyH.cons (o := { dst := some 30, op := Op.call { callee := Callee.builtin Builtin.copy, args := #[Operand.tmp 27, Operand.tmp 29], argTypes := #[45, 45] }, type := 3, pos := "disk.go:88", after := #[{ on := 6, ground := Ground.data }, { on := 8, ground := Ground.data }, { on := 6, ground := Ground.chain }], guard := none }) rfl (fun K hK => ?_) AllReadyH.nil
      obtain ⟨h4, hb4, hf4⟩ := K3d.out.lay_laid (i * 64) b (by rw [hib.2]; show i * 64 + 64 ≤ m1.n * 64; omega)
      refine step_copy_row rfl _ _ rfl L (i * 64) 64 64 ⟨wr.heap.size, 1, none⟩ 64 64 rfl rfl _ b K3d.out.hL (by rw [hib.2]; rfl) (fun j v hj => ?_) (by rw [hib.2, K3d.out.ll]; show i * 64 + 64 ≤ m1.n * 64; omega) ?_
      · rw [add_off, cell_of_row _ _ _ _ _ _ hGd, ← hw1]
        exact hj
      refine hK.out _ _ ⟨by rw [h4.cell 0]; rfl, by rw [← cG]; exact World.cell?_of_block (hf4 _ (show wr.heap.size ≠ L by omega))⟩ (fun _ => ?_)
      clear hK K hT
      try simp only [Act.put, List.setIfInBounds_toArray, List.set_cons_zero, List.set_cons_succ]
      refine wpAnyH_done (by kernel_rfl) ?_ _
      have H4 : Hid (DiskAt B D L N (.slice (some ⟨g, 0, none⟩) m1.pend.length pc) { m1 with laid := laidOf m1.laid (m1.pend.take (k + 1)) } (w3.drew.setRow L (bcells (lay (laidOf m1.laid (m1.pend.take k)) (i * 64) b)).toArray)) := by
        have e : m1.pend.take (k + 1) = m1.pend.take k ++ [(i, b)] := by rw [HXe.out]; exact List.take_succ_eq_append_getElem hkl
        rw [e, laidOf_snoc]
        exact h4
      have HB4 := Lib.hid (HB3.out.trans ((Bf.new ((Below.refl w3.heap.size w3).drew) K3.out.base).trans (Bf.one hb4 hf4 (.inr (.inl rfl)))))
      clear h4 hb4 hf4 c0 cG hGd
      go_wp2
      constructor
      · exact ⟨k + 1, by go_num, by omega, H4.out, HB4.out⟩
      · show m1.pend.length - ((k : Int) + 1).toNat < m1.pend.length - (k : Int).toNat
        omega
    · have hke : k = m1.pend.length := by omega
      have hd2 : decide ((k : Int) < m1.pend.length) = false := decide_eq_false (by omega)
      have HF : Hid (DiskAt B D L N (.slice pp m1.pend.length pc) { m1 with laid := laidOf m1.laid m1.pend } wr) := by
        have := HK.out
        rw [hke, List.take_length] at this
        exact this
      have hc := Lib.hid HF.out.clear_pend
      have f2 := HF.out.frozen 2
      have k2 : wr.cell? ⟨D, 2, none⟩ = some (.slice pp m1.pend.length pc) := by rw [HF.out.cell 2]; rfl
      clear HK HF hke
      go_wp2
      go_ret
      exact ⟨rfl, hc.out.1, hb.trans (Bf.one hc.out.2.1 hc.out.2.2 (.inl rfl))⟩
end Go.Proofs.Yticiaiiedagalaa.dk
