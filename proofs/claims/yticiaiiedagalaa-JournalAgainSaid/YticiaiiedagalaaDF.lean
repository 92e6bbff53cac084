/- Write where nothing is written; Read. -/
import Derived.Test.YticiaiiedagalaaDE
namespace Go.Proofs.Yticiaiiedagalaa.dk
open Go.PlainAid Go.ChangeShapes Go.WideShapes Go.ChangeAt Go.RowKit

set_option maxRecDepth 100000 in
theorem Write_dead {B D L N : Nat} {P : Value} {m : Dk} {w : World} (h : DiskAt B D L N P m w) (hd : m.dead = true) (i : Int) (v : Value) :
    Calls Try.prog 19 #[.pointer (some ⟨D, 0, none⟩), .int .i64 i, v] w fun e w' => e = .returned (.int .i64 10) ∧ w = w' := by
  have hD := Dead_any h
  rw [hd] at hD
  have HD := Lib.hid hD
  clear hD
  go_enter Try.func19, Try.ntmps19
  go_wp2_with (go_at_call 34; with_reducible refine HD.out.mono ?_; rintro e w' ⟨rfl, rfl⟩)
  go_ret
  exact ⟨rfl, rfl⟩
set_option maxRecDepth 100000 in
theorem Write_nil (w : World) (i : Int) (v : Value) :
    Calls Try.prog 19 #[.pointer none, .int .i64 i, v] w fun e w' => e = .returned (.int .i64 10) ∧ w = w' := by
  have HD := Lib.hid (Dead_nil w)
  go_enter Try.func19, Try.ntmps19
  go_wp2_with (go_at_call 34; with_reducible refine HD.out.mono ?_; rintro e w' ⟨rfl, rfl⟩)
  go_ret
  exact ⟨rfl, rfl⟩
set_option maxRecDepth 100000 in
theorem Write_arg {B D L N : Nat} {P : Value} {m : Dk} {w : World} (h : DiskAt B D L N P m w) (hd : m.dead = false) (i : Int) (p : Option Addr) (k c : Nat) (hi : i < 0 ∨ (m.n : Int) ≤ i ∨ 64 < k) :
    Calls Try.prog 19 #[.pointer (some ⟨D, 0, none⟩), .int .i64 i, .slice p k c] w fun e w' => e = .returned (.int .i64 1) ∧ w = w' := by
  have hD := Dead_any h
  rw [hd] at hD
  have HD := Lib.hid hD
  have HSz := Lib.hid (Size_any h)
  clear hD
  rcases (show i < 0 ∨ (0 ≤ i ∧ (m.n : Int) ≤ i) ∨ (0 ≤ i ∧ i < (m.n : Int) ∧ 64 < k) by omega) with hi | ⟨h0, hi⟩ | ⟨h0, h1, hi⟩
  · have d1 : decide (i < 0) = true := decide_eq_true hi
    go_enter Try.func19, Try.ntmps19
    go_wp2_with (first | (go_at_call 34; with_reducible refine HD.out.mono ?_; rintro e w' ⟨rfl, rfl⟩) | (go_at_call 36; with_reducible refine HSz.out.mono ?_; rintro e w' ⟨rfl, rfl⟩))
    go_ret
    exact ⟨rfl, rfl⟩
  · have d1 : decide (i < 0) = false := decide_eq_false (by omega)
    have d2 : decide ((m.n : Int) ≤ i) = true := decide_eq_true hi
    go_enter Try.func19, Try.ntmps19
    go_wp2_with (first | (go_at_call 34; with_reducible refine HD.out.mono ?_; rintro e w' ⟨rfl, rfl⟩) | (go_at_call 36; with_reducible refine HSz.out.mono ?_; rintro e w' ⟨rfl, rfl⟩))
    go_ret
    exact ⟨rfl, rfl⟩
  · have d1 : decide (i < 0) = false := decide_eq_false (by omega)
    have d2 : decide ((m.n : Int) ≤ i) = false := decide_eq_false (by omega)
    have d3 : decide ((64 : Int) < k) = true := decide_eq_true (by omega)
    go_enter Try.func19, Try.ntmps19
    go_wp2_with (first | (go_at_call 34; with_reducible refine HD.out.mono ?_; rintro e w' ⟨rfl, rfl⟩) | (go_at_call 36; with_reducible refine HSz.out.mono ?_; rintro e w' ⟨rfl, rfl⟩))
    go_ret
    exact ⟨rfl, rfl⟩
set_option maxRecDepth 100000 in
theorem Write_stop {B D L N : Nat} {P : Value} {m : Dk} {w : World} (h : DiskAt B D L N P m w) (hd : m.dead = false) (h0 : m.limit = 0) (i : Nat) (p : Option Addr) (k c : Nat) (hi : i < m.n) (hk : k ≤ 64) :
    Calls Try.prog 19 #[.pointer (some ⟨D, 0, none⟩), .int .i64 i, .slice p k c] w fun e w' => e = .returned (.int .i64 10) ∧ DiskAt B D L N P { m with dead := true } w' ∧ Below B w w' := by
  have hD := Dead_any h
  rw [hd] at hD
  have HD := Lib.hid hD
  have HSz := Lib.hid (Size_any h)
  clear hD
  have HS := Lib.hid (spend_dead h h0)
  have d1 : decide ((i : Int) < 0) = false := decide_eq_false (by omega)
  have d2 : decide ((m.n : Int) ≤ i) = false := decide_eq_false (by omega)
  have d3 : decide ((64 : Int) < k) = false := decide_eq_false (by omega)
  clear h0
  go_enter Try.func19, Try.ntmps19
  go_wp2_with (first | (go_at_call 34; with_reducible refine HD.out.mono ?_; rintro e w' ⟨rfl, rfl⟩) | (go_at_call 36; with_reducible refine HSz.out.mono ?_; rintro e w' ⟨rfl, rfl⟩))
  with_reducible refine HS.out.mono ?_
  rintro e w1 ⟨rfl, h1, hb1, _⟩
  go_wp2
  go_ret
  exact ⟨rfl, h1, hb1⟩

set_option maxRecDepth 100000 in
theorem Read_dead {B D L N : Nat} {P : Value} {m : Dk} {w : World} (h : DiskAt B D L N P m w) (hd : m.dead = true) (i : Int) :
    Calls Try.prog 50 #[.pointer (some ⟨D, 0, none⟩), .int .i64 i] w fun e w' => e = .returned (.tuple #[.slice none 0 0, .int .i64 10]) ∧ w = w' := by
  have hD := Dead_any h
  rw [hd] at hD
  have HD := Lib.hid hD
  clear hD
  go_enter Try.func50, Try.ntmps50
  go_wp2_with (go_at_call 34; with_reducible refine HD.out.mono ?_; rintro e w' ⟨rfl, rfl⟩)
  go_ret2
  exact ⟨rfl, rfl⟩
set_option maxRecDepth 100000 in
theorem Read_nil (w : World) (i : Int) :
    Calls Try.prog 50 #[.pointer none, .int .i64 i] w fun e w' => e = .returned (.tuple #[.slice none 0 0, .int .i64 10]) ∧ w = w' := by
  have HD := Lib.hid (Dead_nil w)
  go_enter Try.func50, Try.ntmps50
  go_wp2_with (go_at_call 34; with_reducible refine HD.out.mono ?_; rintro e w' ⟨rfl, rfl⟩)
  go_ret2
  exact ⟨rfl, rfl⟩
set_option maxRecDepth 100000 in
theorem Read_arg {B D L N : Nat} {P : Value} {m : Dk} {w : World} (h : DiskAt B D L N P m w) (hd : m.dead = false) (i : Int) (hi : i < 0 ∨ (m.n : Int) ≤ i) :
    Calls Try.prog 50 #[.pointer (some ⟨D, 0, none⟩), .int .i64 i] w fun e w' => e = .returned (.tuple #[.slice none 0 0, .int .i64 1]) ∧ w = w' := by
  have hD := Dead_any h
  rw [hd] at hD
  have HD := Lib.hid hD
  have HSz := Lib.hid (Size_any h)
  clear hD
  rcases (show i < 0 ∨ (0 ≤ i ∧ (m.n : Int) ≤ i) by omega) with hi | ⟨h0, hi⟩
  · have d1 : decide (i < 0) = true := decide_eq_true hi
    go_enter Try.func50, Try.ntmps50
    go_wp2_with (first | (go_at_call 34; with_reducible refine HD.out.mono ?_; rintro e w' ⟨rfl, rfl⟩) | (go_at_call 36; with_reducible refine HSz.out.mono ?_; rintro e w' ⟨rfl, rfl⟩))
    go_ret2
    exact ⟨rfl, rfl⟩
  · have d1 : decide (i < 0) = false := decide_eq_false (by omega)
    have d2 : decide ((m.n : Int) ≤ i) = true := decide_eq_true hi
    go_enter Try.func50, Try.ntmps50
    go_wp2_with (first | (go_at_call 34; with_reducible refine HD.out.mono ?_; rintro e w' ⟨rfl, rfl⟩) | (go_at_call 36; with_reducible refine HSz.out.mono ?_; rintro e w' ⟨rfl, rfl⟩))
    go_ret2
    exact ⟨rfl, rfl⟩
def secOf (l : List Int) (i : Nat) : List Int := (l.drop (i * 64)).take 64
def ReadPost (B D L N : Nat) (P : Value) (m : Dk) (i : Nat) (w : World) (e : Ending) (w' : World) : Prop :=
  ∃ G, e = .returned (.tuple #[.slice (some ⟨G, 0, none⟩) 64 64, .int .i64 0]) ∧ w.heap.size ≤ G ∧ w'.heap[G]? = some (.cells (bcells (secOf m.now i)).toArray 5 (0, 0)) ∧ DiskAt B D L N P m w' ∧ Below w.heap.size w w'
set_option maxHeartbeats 1000000 in
set_option maxRecDepth 100000 in
theorem Read_ok {B D L N : Nat} {P : Value} {m : Dk} {w : World} (h : DiskAt B D L N P m w) (hd : m.dead = false) (i : Nat) (hi : i < m.n) :
    Calls Try.prog 50 #[.pointer (some ⟨D, 0, none⟩), .int .i64 i] w fun e w' => ReadPost B D L N P m i w e w' := by
  have hD := Dead_any h
  rw [hd] at hD
  have HD := Lib.hid hD
  have HSz := Lib.hid (Size_any h)
  clear hD
  have d1 : decide ((i : Int) < 0) = false := decide_eq_false (by omega)
  have d2 : decide ((m.n : Int) ≤ i) = false := decide_eq_false (by omega)
  have hm : ∀ W : World, (Instr.makeSlice 45 (.int .i64 64) (.int .i64 64)).run Try.prog W = .ok (.slice (some ⟨W.heap.size, 0, none⟩) 64 64) (W.alloc (.cells (bcells (List.replicate 64 0)).toArray 5)) := fun W => make_run 1 (by omega) W
  have hlt := h.lt
  have hA := h.below ((Below.refl w.heap.size w).alloc (Nat.le_refl _) (.cells (bcells (List.replicate 64 0)).toArray 5))
  have c1 : (w.alloc (.cells (bcells (List.replicate 64 0)).toArray 5)).cell? ⟨D, 1, none⟩ = some (.slice (some ⟨N, 0, none⟩) (m.n * 64) (m.n * 64)) := by rw [hA.cell 1]; rfl
  have hsl : (secOf m.now i).length = 64 := by unfold secOf; rw [List.length_take, List.length_drop, h.nl]; omega
  have hcp := run_copy_row (P := Try.prog) (w.alloc (.cells (bcells (List.replicate 64 0)).toArray 5)) 45 45 3 5 w.heap.size 0 64 64 ⟨N, i * 64, none⟩ 64 64 (bcells (List.replicate 64 0)).toArray 5 (bcells (secOf m.now i)) Try.underlying45 (by kernel_rfl) (heap_alloc_new w _) (by rw [bcells_length, hsl]; rfl)
    (fun j v hj => by
      rw [add_off, cell_of_row _ _ _ _ _ _ hA.hN, List.getElem?_toArray, ← hj]
      unfold secOf bcells
      rw [List.getElem?_map, List.getElem?_map, List.getElem?_take, List.getElem?_drop]
      have : j < 64 := by
        have := (List.getElem?_eq_some_iff.1 hj).1
        rwa [bcells_length, hsl] at this
      rw [if_pos this]) (by rw [bcells_length, hsl]; simp [bcells]) (bcells_one _)
  rw [bcells_length, hsl] at hcp
  rw [show ((bcells (List.replicate 64 0)).toArray.toList.take 0 ++ bcells (secOf m.now i) ++ (bcells (List.replicate 64 0)).toArray.toList.drop (0 + 64)).toArray = (bcells (secOf m.now i)).toArray by
    rw [List.drop_eq_nil_of_le (by simp [bcells]), List.append_nil]; rfl] at hcp
  have hcp : (Builtin.copy_ #[45, 45] 3 #[.slice (some ⟨w.heap.size, 0, none⟩) 64 64, .slice (some ⟨N, i * 64, none⟩) 64 64]).run Try.prog (w.alloc (.cells (bcells (List.replicate 64 0)).toArray 5)) = .ok (.int .i64 64) ((w.alloc (.cells (bcells (List.replicate 64 0)).toArray 5)).setRow w.heap.size (bcells (secOf m.now i)).toArray) := hcp
  have hbR : Below w.heap.size w ((w.alloc (.cells (bcells (List.replicate 64 0)).toArray 5)).setRow w.heap.size (bcells (secOf m.now i)).toArray) := below_setRow ((Below.refl _ _).alloc (Nat.le_refl _) _) (Nat.le_refl _) _
  have hG := setRow_heap (w.alloc (.cells (bcells (List.replicate 64 0)).toArray 5)) w.heap.size _ (bcells (secOf m.now i)).toArray 5 (0, 0) (heap_alloc_new w _)
  have hsec := Lib.hid (sector_any N m.n i (w.alloc (.cells (bcells (List.replicate 64 0)).toArray 5)) hi h.n2)
  have HR := Lib.hid (And.intro hG (And.intro (h.below hbR) hbR))
  clear hG hbR hA h hlt
  generalize (bcells (List.replicate 64 0)).toArray = zs at hm hcp hsec HR c1
  generalize (w.alloc (.cells zs 5)).setRow w.heap.size (bcells (secOf m.now i)).toArray = w2 at hcp HR
  go_enter Try.func50, Try.ntmps50
  go_wp2_with (first | (go_at_call 34; with_reducible refine HD.out.mono ?_; rintro e w' ⟨rfl, rfl⟩) | (go_at_call 36; with_reducible refine HSz.out.mono ?_; rintro e w' ⟨rfl, rfl⟩) | (go_at_call 45; with_reducible refine hsec.out.mono ?_; rintro e w' ⟨rfl, rfl⟩))
  go_ret2
  exact ⟨_, rfl, Nat.le_refl _, HR.out⟩
end Go.Proofs.Yticiaiiedagalaa.dk
