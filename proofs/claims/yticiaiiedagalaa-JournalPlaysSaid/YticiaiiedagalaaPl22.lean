/- The document's own disk in memory; its spend, Limit and zeros. -/
import Derived.Test.YticiaiiedagalaaPl21
import Derived.Test.YticiaiiedagalaaPl15
import Derived.Test.YticiaiiedagalaaPl20
import Derived.Laws.IdiomStrings
import Derived.Lib.ConvBytes
namespace Go.Proofs.Yticiaiiedagalaa.dk
open Go.PlainAid Go.ChangeShapes Go.WideShapes Go.ChangeAt Go.RowKit

theorem DiskAt.row {B D L N : Nat} {P : Value} {m : Dk} {W : World} (h : DiskAt B D L N P m W) {g : Nat} (hg : P.ownBlock = some g) : ∃ cur, W.heap[g]? = some (.cells cur 90 (0, 0)) := by
  rcases h.hP.2 with ⟨hv, _⟩ | ⟨g', cap, cur, hv, _, hh, _⟩
  · rw [hv] at hg; cases hg
  · rw [hv] at hg
    have : g' = g := by injection hg
    subst this
    exact ⟨cur, hh⟩
theorem cells_ne {W : World} {a b : Nat} {c d : Array Value} {s t : TypeId} (h1 : W.heap[a]? = some (.cells c s (0, 0))) (h2 : W.heap[b]? = some (.cells d t (0, 0))) (ht : s ≠ t) : a ≠ b := by
  rintro rfl
  rw [h1] at h2
  injection h2 with h2
  injection h2 with _ h _
  exact ht h
/-- What the document's disk holds: sectors, what is pending. -/
structure Rk where
  S : List (List Int)
  P : List (Nat × List Int)
  left : Int
  gone : Bool
  count : Int
def rcells (S P : Value) (r : Rk) : Array Value := #[S, P, .int .i64 r.left, .bool r.gone, .int .i64 r.count]
def scells (l : List (List Int)) : List Value := l.map fun s => .string (strOf s)
def qcells (l : List (Nat × List Int)) : List Value := l.flatMap fun x => [.int .i64 (x.1 : Int), .string (strOf x.2)]
structure RefAt (B D : Nat) (S P : Value) (r : Rk) (W : World) : Prop where
  bD : B ≤ D
  hD : W.heap[D]? = some (.cells (rcells S P r) 44 (0, 0))
  hS : W.ownsRow B 9 1 S r.S.length (scells r.S)
  hP : W.ownsRow B 93 2 P r.P.length (qcells r.P)
  n2 : r.S.length ≤ 32
  pl : r.P.length ≤ 1000
  sw : ∀ s ∈ r.S, s.length = 64
  pw : ∀ x ∈ r.P, x.1 < r.S.length ∧ x.2.length = 64
  lim : -1 ≤ r.left
  lim1 : r.left ≤ 9223372036854775807
  c0 : 0 ≤ r.count
  c1 : r.count ≤ 1000000
theorem RefAt.cell {B D : Nat} {S P : Value} {r : Rk} {W : World} (h : RefAt B D S P r W) (j : Nat) : W.cell? ⟨D, j, none⟩ = (rcells S P r)[j]? := cell_of_row _ _ _ _ _ _ h.hD
theorem RefAt.frozen {B D : Nat} {S P : Value} {r : Rk} {W : World} (h : RefAt B D S P r W) (j : Nat) : W.frozen? ⟨D, j, none⟩ = false := by
  have := h.hD
  simp [World.frozen?, this]
theorem RefAt.lt {B D : Nat} {S P : Value} {r : Rk} {W : World} (h : RefAt B D S P r W) : D < W.heap.size := (Array.getElem?_eq_some_iff.1 h.hD).1
theorem RefAt.keep {B D : Nat} {S P : Value} {r : Rk} {W W' : World} (h : RefAt B D S P r W) (hb : ∀ k, k < W.heap.size → W'.heap[k]? = W.heap[k]?) : RefAt B D S P r W' :=
  { h with
    hD := by rw [hb D h.lt]; exact h.hD
    hS := own_block_keeps h.hS fun g hg => hb g (h.hS.lt g hg).2
    hP := own_block_keeps h.hP fun g hg => hb g (h.hP.lt g hg).2 }
theorem RefAt.below {B D : Nat} {S P : Value} {r : Rk} {W W' : World} (h : RefAt B D S P r W) (hb : Below W.heap.size W W') : RefAt B D S P r W' := h.keep fun k hk => hb.block k hk
/-- The type of a row's block. -/
theorem own_type {w : World} {B s : Nat} {t : TypeId} {v : Value} {n : Nat} {xs : List Value} (h : w.ownsRow B t s v n xs) {g : Nat} (hg : v.ownBlock = some g) : ∃ cur, w.heap[g]? = some (.cells cur t (0, 0)) := by
  rcases h.2 with ⟨hv, _⟩ | ⟨g', cap, cur, hv, _, hh, _⟩
  · rw [hv] at hg; cases hg
  · rw [hv] at hg
    have : g' = g := by injection hg
    subst this
    exact ⟨cur, hh⟩
theorem RefAt.ne {B D : Nat} {S P : Value} {r : Rk} {W : World} (h : RefAt B D S P r W) : S.ownBlock ≠ some D ∧ P.ownBlock ≠ some D ∧ ∀ g, S.ownBlock = some g → P.ownBlock ≠ some g := by
  refine ⟨fun e => ?_, fun e => ?_, fun g e e2 => ?_⟩
  · obtain ⟨cur, hc⟩ := own_type h.hS e
    exact cells_ne hc h.hD (by decide) rfl
  · obtain ⟨cur, hc⟩ := own_type h.hP e
    exact cells_ne hc h.hD (by decide) rfl
  · obtain ⟨cur, hc⟩ := own_type h.hS e
    obtain ⟨cur2, hc2⟩ := own_type h.hP e2
    exact cells_ne hc hc2 (by decide) rfl
/-- The document's disk's blocks. -/
def Xr (D : Nat) (S P : Value) (k : Nat) : Prop := k = D ∨ S.ownBlock = some k ∨ P.ownBlock = some k
/-- What turns the program's disk leaves the document's, and the other way. -/
theorem RefAt.other {B D L N B2 D2 B' : Nat} {P S2 P2 : Value} {m : Dk} {r : Rk} {w w' : World} (h : DiskAt B D L N P m w) (h2 : RefAt B2 D2 S2 P2 r w) (hb : Bf B' (Xd D L N P) w w') : RefAt B2 D2 S2 P2 r w' := by
  have nx : ∀ g cur t, w.heap[g]? = some (.cells cur t (0, 0)) → 65 ≠ t → 5 ≠ t → 90 ≠ t → ¬ Xd D L N P g := by
    rintro g cur t hg t1 t2 t3 (e | e | e | e)
    · exact cells_ne h.hD hg t1 e.symm
    · exact cells_ne h.hL hg t2 e.symm
    · exact cells_ne h.hN hg t2 e.symm
    · obtain ⟨cur2, hc⟩ := h.row e
      exact cells_ne hc hg t3 rfl
  exact { h2 with
    hD := by rw [hb.fr D2 h2.lt (nx D2 _ _ h2.hD (by decide) (by decide) (by decide))]; exact h2.hD
    hS := own_block_keeps h2.hS fun g hg => by
      obtain ⟨cur, hc⟩ := own_type h2.hS hg
      exact hb.fr g (h2.hS.lt g hg).2 (nx g _ _ hc (by decide) (by decide) (by decide))
    hP := own_block_keeps h2.hP fun g hg => by
      obtain ⟨cur, hc⟩ := own_type h2.hP hg
      exact hb.fr g (h2.hP.lt g hg).2 (nx g _ _ hc (by decide) (by decide) (by decide)) }
theorem DiskAt.ofRef {B D L N B2 D2 B' : Nat} {P S2 P2 : Value} {m : Dk} {r : Rk} {w w' : World} (h : DiskAt B D L N P m w) (h2 : RefAt B2 D2 S2 P2 r w) (hb : Bf B' (Xr D2 S2 P2) w w') : DiskAt B D L N P m w' := by
  have hl := h.lt
  have nx : ∀ g cur t, w.heap[g]? = some (.cells cur t (0, 0)) → 44 ≠ t → 9 ≠ t → 93 ≠ t → ¬ Xr D2 S2 P2 g := by
    rintro g cur t hg t1 t2 t3 (e | e | e)
    · exact cells_ne h2.hD hg t1 e.symm
    · obtain ⟨cur2, hc⟩ := own_type h2.hS e
      exact cells_ne hc hg t2 rfl
    · obtain ⟨cur2, hc⟩ := own_type h2.hP e
      exact cells_ne hc hg t3 rfl
  exact { h with
    hD := by rw [hb.fr D hl.1 (nx _ _ _ h.hD (by decide) (by decide) (by decide))]; exact h.hD
    hL := by rw [hb.fr L hl.2.1 (nx _ _ _ h.hL (by decide) (by decide) (by decide))]; exact h.hL
    hN := by rw [hb.fr N hl.2.2 (nx _ _ _ h.hN (by decide) (by decide) (by decide))]; exact h.hN
    hP := own_block_keeps h.hP fun g hg => by
      obtain ⟨cur, hc⟩ := h.row hg
      exact hb.fr g (h.hP.lt g hg).2 (nx g _ _ hc (by decide) (by decide) (by decide)) }
/-- One cell of the document's disk turned. -/
theorem RefAt.turn {B D : Nat} {S P : Value} {r r' : Rk} {W : World} (h : RefAt B D S P r W) (j : Nat) (v : Value) (he : (rcells S P r).setIfInBounds j v = rcells S P r')
    (e1 : r'.S = r.S) (e2 : r'.P = r.P) (e3 : -1 ≤ r'.left) (e4 : r'.left ≤ 9223372036854775807) (e5 : 0 ≤ r'.count) (e6 : r'.count ≤ 1000000) :
    RefAt B D S P r' (W.setCell ⟨D, j, none⟩ v) ∧ Below B W (W.setCell ⟨D, j, none⟩ v) ∧ Fr D W (W.setCell ⟨D, j, none⟩ v) := by
  rw [setCell_eq_setRow W D j _ _ _ v h.hD, he]
  have ho : ∀ k, k ≠ D → (W.setRow D (rcells S P r')).heap[k]? = W.heap[k]? := fun k hk => setRow_other W D k _ hk
  refine ⟨?_, below_setRow (Below.refl _ _) h.bD _, ho⟩
  exact {
    bD := h.bD
    hD := setRow_heap W D _ _ _ _ h.hD
    hS := by rw [e1]; exact own_block_keeps h.hS fun g hg => ho g (fun e => h.ne.1 (by rw [hg, e]))
    hP := by rw [e2]; exact own_block_keeps h.hP fun g hg => ho g (fun e => h.ne.2.1 (by rw [hg, e]))
    n2 := by rw [e1]; exact h.n2
    pl := by rw [e2]; exact h.pl
    sw := by rw [e1]; exact h.sw
    pw := by rw [e1, e2]; exact h.pw
    lim := e3, lim1 := e4, c0 := e5, c1 := e6 }

set_option maxRecDepth 100000 in
theorem rspend_dead {B D : Nat} {S P : Value} {r : Rk} {w : World} (h : RefAt B D S P r w) (h0 : r.left = 0) :
    Calls Try.prog 47 #[.pointer (some ⟨D, 0, none⟩)] w fun e w' => e = .returned (.bool false) ∧ RefAt B D S P { r with gone := true } w' ∧ Below B w w' ∧ Fr D w w' := by
  have T := h.turn (r' := { r with gone := true }) 3 (.bool true) rfl rfl rfl h.lim h.lim1 h.c0 h.c1
  have k2 := h.cell 2
  have k3 := h.cell 3
  have k4 := h.cell 4
  have f2 := h.frozen 2
  have f3 := h.frozen 3
  have f4 := h.frozen 4
  simp only [rcells] at k2 k3 k4
  simp at k2 k3 k4
  rw [h0] at k2
  have TT := Lib.hid T
  clear T
  go_enter Try.func47, Try.ntmps47
  go_wp2
  go_ret
  exact ⟨rfl, TT.out⟩
set_option maxRecDepth 100000 in
theorem rspend_free {B D : Nat} {S P : Value} {r : Rk} {w : World} (h : RefAt B D S P r w) (h0 : r.left < 0) (hw : r.count < 1000000) :
    Calls Try.prog 47 #[.pointer (some ⟨D, 0, none⟩)] w fun e w' => e = .returned (.bool true) ∧ RefAt B D S P { r with count := r.count + 1 } w' ∧ Below B w w' ∧ Fr D w w' := by
  have w0 := h.c0
  have T := h.turn (r' := { r with count := r.count + 1 }) 4 (.int .i64 (r.count + 1)) rfl rfl rfl h.lim h.lim1 (show 0 ≤ r.count + 1 by omega) (show r.count + 1 ≤ 1000000 by omega)
  have k2 := h.cell 2
  have k3 := h.cell 3
  have k4 := h.cell 4
  have f2 := h.frozen 2
  have f3 := h.frozen 3
  have f4 := h.frozen 4
  simp only [rcells] at k2 k3 k4
  simp at k2 k3 k4
  have TT := Lib.hid T
  have hl := h.lim
  clear T
  have e0 : (r.left == 0) = false := beq_eq_false_iff_ne.2 (by omega)
  have e1 : decide (0 < r.left) = false := decide_eq_false (by omega)
  go_enter Try.func47, Try.ntmps47
  go_wp2
  go_ret
  exact ⟨rfl, TT.out⟩
set_option maxRecDepth 100000 in
theorem rspend_some {B D : Nat} {S P : Value} {r : Rk} {w : World} (h : RefAt B D S P r w) (h0 : 0 < r.left) (hw : r.count < 1000000) :
    Calls Try.prog 47 #[.pointer (some ⟨D, 0, none⟩)] w fun e w' => e = .returned (.bool true) ∧ RefAt B D S P { r with left := r.left - 1, count := r.count + 1 } w' ∧ Below B w w' ∧ Fr D w w' := by
  have w0 := h.c0
  have hx1 := h.lim1
  obtain ⟨T1, T1b, T1c⟩ := h.turn (r' := { r with left := r.left - 1 }) 2 (.int .i64 (r.left - 1)) rfl rfl rfl (show -1 ≤ r.left - 1 by omega) (show r.left - 1 ≤ 9223372036854775807 by omega) h.c0 h.c1
  have T2 := T1.turn (r' := { r with left := r.left - 1, count := r.count + 1 }) 4 (.int .i64 (r.count + 1)) rfl rfl rfl (show -1 ≤ r.left - 1 by omega) (show r.left - 1 ≤ 9223372036854775807 by omega) (show 0 ≤ r.count + 1 by omega) (show r.count + 1 ≤ 1000000 by omega)
  have k2 := h.cell 2
  have k3 := h.cell 3
  have k4 := h.cell 4
  have f2 := h.frozen 2
  have f3 := h.frozen 3
  have f4 := h.frozen 4
  simp only [rcells] at k2 k3 k4
  simp at k2 k3 k4
  have TT := Lib.hid (And.intro T2.1 (And.intro (T1b.trans T2.2.1) (show Fr D _ _ from fun k hk => (T2.2.2 k hk).trans (T1c k hk))))
  clear T1 T1b T1c T2
  generalize r.left = x at k2 h0 hx1 TT
  have e0 : (x == 0) = false := beq_eq_false_iff_ne.2 (by omega)
  have e1 : decide (0 < x) = true := decide_eq_true (by omega)
  go_enter Try.func47, Try.ntmps47
  go_wp2
  go_ret
  exact ⟨rfl, TT.out⟩
set_option maxRecDepth 100000 in
theorem rLimit_any {B D : Nat} {S P : Value} {r : Rk} {w : World} (h : RefAt B D S P r w) (k : Int) (hk0 : -9223372036854775808 ≤ k) (hk1 : k ≤ 9223372036854775807) :
    Calls Try.prog 24 #[.pointer (some ⟨D, 0, none⟩), .int .i64 k] w fun e w' => e = .returned (.tuple #[]) ∧ RefAt B D S P { r with left := max k (-1) } w' ∧ Below B w w' ∧ Fr D w w' := by
  have T := h.turn (r' := { r with left := max k (-1) }) 2 (.int .i64 (max k (-1))) rfl rfl rfl (show -1 ≤ max k (-1) by omega) (show max k (-1) ≤ 9223372036854775807 by omega) h.c0 h.c1
  have k2 := h.cell 2
  have f2 := h.frozen 2
  simp only [rcells] at k2
  simp at k2
  have TT := Lib.hid T
  clear T
  go_enter Try.func24, Try.ntmps24
  go_wp2
  all_goals
    go_end0
    exact ⟨rfl, TT.out⟩
end Go.Proofs.Yticiaiiedagalaa.dk
/- The document's disk: zeros, Read. -/
namespace Go.Proofs.Yticiaiiedagalaa.dk
open Go.PlainAid Go.ChangeShapes Go.WideShapes Go.ChangeAt Go.RowKit

set_option maxRecDepth 100000 in
theorem zeros_any (w : World) : Calls Try.prog 35 #[] w fun e w' => e = .returned (.string (strOf (List.replicate 64 0))) ∧ Below w.heap.size w w' := by
  have hm : ∀ W : World, (Instr.makeSlice 45 (.int .i64 64) (.int .i64 64)).run Try.prog W = .ok (.slice (some ⟨W.heap.size, 0, none⟩) 64 64) (W.alloc (.cells (bcells (List.replicate 64 0)).toArray 5)) := fun W => make_run 1 (by omega) W
  have hR : Rd (w.alloc (.cells (bcells (List.replicate 64 0)).toArray 5)) (some ⟨w.heap.size, 0, none⟩) 64 (List.replicate 64 0) := ⟨List.length_replicate, fun _ => ⟨_, _, rfl, (Array.getElem?_eq_some_iff.1 (heap_alloc_new w _)).1, fun i hi => by
    rw [cell_of_row _ _ _ _ _ _ (heap_alloc_new w _), List.getElem?_toArray, Nat.zero_add]
    exact bcells_at _ _ (by rw [List.length_replicate]; exact hi)⟩⟩
  have hc := conv_rd (c := 64) hR
  have hb : Below w.heap.size w (w.alloc (.cells (bcells (List.replicate 64 0)).toArray 5)) := (Below.refl _ _).alloc (Nat.le_refl _) _
  clear hR
  generalize (bcells (List.replicate 64 0)).toArray = zs at *
  generalize strOf (List.replicate 64 0) = zz at *
  go_enter Try.func35, Try.ntmps35
  go_wp2
  go_ret
  exact ⟨rfl, hb⟩
set_option maxRecDepth 100000 in
theorem rRead_dead {B D : Nat} {S P : Value} {r : Rk} {w : World} (h : RefAt B D S P r w) (hd : r.gone = true) (i : Int) :
    Calls Try.prog 41 #[.pointer (some ⟨D, 0, none⟩), .int .i64 i] w fun e w' => e = .returned (.tuple #[.slice none 0 0, .int .i64 10]) ∧ w = w' := by
  have k3 := h.cell 3
  simp only [rcells] at k3
  simp at k3
  rw [hd] at k3
  go_enter Try.func41, Try.ntmps41
  go_wp2
  go_ret2
  exact ⟨rfl, rfl⟩
/-- The rows as slices. -/
theorem own_form {w : World} {B s : Nat} {t : TypeId} {v : Value} {n : Nat} {xs : List Value} (h : w.ownsRow B t s v n xs) : ∃ p c, v = .slice p n c := by
  rcases h.2 with ⟨hv, h0⟩ | ⟨g', cap, cur, hv, _, hh, hn, _⟩
  · subst h0; exact ⟨_, _, hv⟩
  · exact ⟨_, _, hv⟩
set_option maxRecDepth 100000 in
theorem rRead_arg {B D : Nat} {S P : Value} {r : Rk} {w : World} (h : RefAt B D S P r w) (hd : r.gone = false) (i : Int) (hi : i < 0 ∨ (r.S.length : Int) ≤ i) :
    Calls Try.prog 41 #[.pointer (some ⟨D, 0, none⟩), .int .i64 i] w fun e w' => e = .returned (.tuple #[.slice none 0 0, .int .i64 1]) ∧ w = w' := by
  obtain ⟨p, c, rfl⟩ := own_form h.hS
  have k0 := h.cell 0
  have k3 := h.cell 3
  simp only [rcells] at k0 k3
  simp at k0 k3
  rw [hd] at k3
  generalize r.S.length = n at *
  rcases (show i < 0 ∨ (0 ≤ i ∧ (n : Int) ≤ i) by omega) with hi | ⟨h0, hi⟩
  · have d1 : decide (i < 0) = true := decide_eq_true hi
    go_enter Try.func41, Try.ntmps41
    go_wp2
    go_ret2
    exact ⟨rfl, rfl⟩
  · have d1 : decide (i < 0) = false := decide_eq_false (by omega)
    have d2 : decide ((n : Int) ≤ i) = true := decide_eq_true hi
    go_enter Try.func41, Try.ntmps41
    go_wp2
    go_ret2
    exact ⟨rfl, rfl⟩
end Go.Proofs.Yticiaiiedagalaa.dk
/- The document's Read. -/
namespace Go.Proofs.Yticiaiiedagalaa.dk
open Go.PlainAid Go.ChangeShapes Go.WideShapes Go.ChangeAt Go.RowKit

/-- What the document reads at sector i, with so many of what is pending seen. -/
def rat (S : List (List Int)) (p : List (Nat × List Int)) (i : Nat) : List Int := p.foldl (fun s x => if x.1 = i then x.2 else s) (S.getD i [])
theorem rat_snoc (S : List (List Int)) (p : List (Nat × List Int)) (x : Nat × List Int) (i : Nat) : rat S (p ++ [x]) i = if x.1 = i then x.2 else rat S p i := by simp [rat]
theorem rat_len {S : List (List Int)} {i : Nat} (hi : i < S.length) (hS : ∀ s ∈ S, s.length = 64) : ∀ (p : List (Nat × List Int)), (∀ x ∈ p, x.2.length = 64) → ∀ d : List Int, d.length = 64 → (p.foldl (fun s x => if x.1 = i then x.2 else s) d).length = 64
  | [], _, d, hd => hd
  | x :: p, h, d, hd => by
    rw [List.foldl_cons]
    refine rat_len hi hS p (fun y hy => h y (by simp [hy])) _ ?_
    split
    · exact h x (by simp)
    · exact hd
theorem qcells_at : ∀ (l : List (Nat × List Int)) (j : Nat) (h : j < l.length), (qcells l)[j * 2]? = some (.int .i64 ((l[j]'h).1 : Int)) ∧ (qcells l)[j * 2 + 1]? = some (.string (strOf (l[j]'h).2))
  | x :: l, 0, _ => ⟨rfl, rfl⟩
  | x :: l, j + 1, h => by
    have := qcells_at l j (by simpa using h)
    rw [show (j + 1) * 2 = j * 2 + 2 by omega, show j * 2 + 2 + 1 = j * 2 + 1 + 2 by omega]
    exact this
theorem RefAt.sec {B D : Nat} {p : Option Addr} {n c : Nat} {P : Value} {r : Rk} {W : World} (h : RefAt B D (.slice p n c) P r W) (i : Nat) (hi : i < r.S.length) : ∃ g, p = some ⟨g, 0, none⟩ ∧ n = r.S.length ∧ W.cell? ⟨g, i, none⟩ = some (.string (strOf (r.S.getD i []))) := by
  rcases h.hS.2 with ⟨hv, h0⟩ | ⟨g, cap, cur, hv, _⟩
  · omega
  · injection hv with h1 h2 h3
    refine ⟨g, h1, h2, ?_⟩
    have := h.hS.cells (g := g) (by rw [h1]; rfl) i (.string (strOf (r.S.getD i []))) (by
      unfold scells
      rw [List.getElem?_map, List.getElem?_eq_getElem hi, List.getD_eq_getElem?_getD, List.getElem?_eq_getElem hi]
      rfl)
    rw [add_off, Nat.zero_add] at this
    exact this
theorem RefAt.pnd {B D : Nat} {p : Option Addr} {n c : Nat} {S : Value} {r : Rk} {W : World} (h : RefAt B D S (.slice p n c) r W) : n = r.P.length ∧ ∀ j (hj : j < r.P.length), ∃ g, p = some ⟨g, 0, none⟩ ∧ W.cell? ⟨g, j * 2, none⟩ = some (.int .i64 ((r.P[j]'hj).1 : Int)) ∧ W.cell? ⟨g, j * 2 + 1, none⟩ = some (.string (strOf (r.P[j]'hj).2)) := by
  rcases h.hP.2 with ⟨hv, h0⟩ | ⟨g, cap, cur, hv, _⟩
  · injection hv with h1 h2 h3
    exact ⟨by omega, fun j hj => by omega⟩
  · injection hv with h1 h2 h3
    refine ⟨h2, fun j hj => ⟨g, h1, ?_⟩⟩
    obtain ⟨q1, q2⟩ := qcells_at r.P j hj
    have e1 := h.hP.cells (g := g) (by rw [h1]; rfl) _ _ q1
    have e2 := h.hP.cells (g := g) (by rw [h1]; rfl) _ _ q2
    rw [add_off, Nat.zero_add] at e1 e2
    exact ⟨e1, e2⟩

theorem rd_string (w : World) (s : ByteArray) (n : Nat) (h : s.size = n) : Rd (Lib.bytesWorld w 5 s) (some ⟨w.heap.size, 0, none⟩) n (unstr s) :=
  ⟨by rw [unstr_length, h], fun _ => ⟨_, _, rfl, by rw [Lib.bytesWorld_size]; omega, fun i hi => by
    rw [Nat.zero_add, Lib.bytesWorld_cell _ _ _ _ (by omega)]
    congr 2
    unfold unstr
    have hl : s.data.toList.length = s.size := by simp
    rw [List.getD_eq_getElem?_getD, List.getD_eq_getElem?_getD, List.getElem?_map, List.getElem?_eq_getElem (by omega)]
    rfl⟩⟩

set_option maxHeartbeats 4000000 in
set_option maxRecDepth 20000 in
theorem rRead_ok {B D : Nat} {S P : Value} {r : Rk} {w : World} (h : RefAt B D S P r w) (hd : r.gone = false) (i : Nat) (hi : i < r.S.length) :
    Calls Try.prog 41 #[.pointer (some ⟨D, 0, none⟩), .int .i64 i] w fun e w' => ∃ G c, e = .returned (.tuple #[.slice (some ⟨G, 0, none⟩) 64 c, .int .i64 0]) ∧ Rd w' (some ⟨G, 0, none⟩) 64 (unstr (strOf (rat r.S r.P i))) ∧ Below w.heap.size w w' ∧ 64 ≤ c ∧ w.heap.size ≤ G ∧ ∃ cur fr, w'.heap[G]? = some (.cells cur 5 fr) := by
  obtain ⟨p, c, rfl⟩ := own_form h.hS
  obtain ⟨q, qc, rfl⟩ := own_form h.hP
  have k0 := h.cell 0
  have k1 := h.cell 1
  have k3 := h.cell 3
  simp only [rcells] at k0 k1 k3
  simp at k0 k1 k3
  rw [hd] at k3
  obtain ⟨g, rfl, _, hsec⟩ := h.sec i hi
  have HP := Lib.hid h.pnd.2
  have hpw := Lib.hid h.pw
  have hsw := Lib.hid h.sw
  have d1 : decide ((i : Int) < 0) = false := decide_eq_false (by omega)
  have d2 : decide ((r.S.length : Int) ≤ i) = false := decide_eq_false (by omega)
  have hn15 := h.n2
  have hpl := h.pl
  have hgd : Hid (r.S.getD i [] = r.S[i]'hi) := by show r.S.getD i [] = _; rw [List.getD_eq_getElem?_getD, List.getElem?_eq_getElem hi]; rfl
  clear h
  go_enter Try.func41, Try.ntmps41
  go_wp2
  go_loopw [6, 7] (fun s x wr => ∃ (j : Nat), s = .string (strOf (rat r.S (r.P.take j) i)) ∧ x = .int .i64 (j : Int) ∧ j ≤ r.P.length ∧ wr = w) (fun _ x _ => r.P.length - (intOf x).toNat)
  case atStart => exact ⟨0, by rw [← hgd.out]; rfl, rfl, Nat.zero_le _, rfl⟩
  case round =>
    obtain ⟨j, rfl, rfl, hj, rfl⟩ := hrel
    by_cases hjn : j < r.P.length
    · have dj : decide ((j : Int) < (r.P.length : Int)) = true := decide_eq_true (by omega)
      obtain ⟨pg, rfl, c0, c1⟩ := HP.out j hjn
      have hts : Hid (rat r.S (r.P.take (j + 1)) i = if (r.P[j]'hjn).1 = i then (r.P[j]'hjn).2 else rat r.S (r.P.take j) i) := by
        show rat r.S (r.P.take (j + 1)) i = _
        rw [List.take_succ_eq_append_getElem hjn, rat_snoc]
      generalize r.P[j]'hjn = x at c0 c1 hts
      by_cases hxi : x.1 = i
      · have hx2 : Hid (rat r.S (r.P.take (j + 1)) i = x.2) := by rw [if_pos hxi] at hts; exact hts
        subst hxi
        go_wp2
        constructor
        · exact ⟨j + 1, by rw [hx2.out], by go_num, by omega, by first | rfl | trivial⟩
        · show r.P.length - ((j : Int) + 1).toNat < r.P.length - (j : Int).toNat
          omega
      · have hx2 : Hid (rat r.S (r.P.take (j + 1)) i = rat r.S (r.P.take j) i) := by rw [if_neg hxi] at hts; exact hts
        have ex : ((x.1 : Int) == (i : Int)) = false := by simp; omega
        go_wp2
        constructor
        · exact ⟨j + 1, by rw [hx2.out], by go_num, by omega, by first | rfl | trivial⟩
        · show r.P.length - ((j : Int) + 1).toNat < r.P.length - (j : Int).toNat
          omega
    · have dj : decide ((j : Int) < (r.P.length : Int)) = false := decide_eq_false (by omega)
      have htk : r.P.take j = r.P := List.take_of_length_le (by omega)
      rw [htk]
      have hl : (rat r.S r.P i).length = 64 := rat_len hi hsw.out r.P (fun x hx => (hpw.out x hx).2) _ (by
        rw [List.getD_eq_getElem?_getD, List.getElem?_eq_getElem hi]
        exact hsw.out _ (List.getElem_mem hi))
      have hs := strOf_size (rat r.S r.P i)
      rw [hl] at hs
      have hR := rd_string wr (strOf (rat r.S r.P i)) 64 hs
      have hcv := Lib.run_convert_string_bytes (P := Try.prog) wr 9 45 5 (strOf (rat r.S r.P i)) Try.underlying9 Try.underlying45 Try.underlying5
      have hnew := Lib.bytesWorld_at_new wr 5 (strOf (rat r.S r.P i))
      have hnew2 : ∃ cur fr, (Lib.bytesWorld wr 5 (strOf (rat r.S r.P i))).heap[wr.heap.size]? = some (.cells cur 5 fr) := ⟨_, _, hnew⟩
      have HNew := Lib.hid hnew2
      clear hnew hnew2
      have hb := bytes_belowd wr (strOf (rat r.S r.P i)) 5
      have hge := grownCap_ge wr (strOf (rat r.S r.P i)).size 0 5
      rw [hs] at hcv hge
      generalize hz : strOf (rat r.S r.P i) = z at *
      have HZ := Lib.hid hz
      clear hz
      generalize Lib.bytesWorld wr 5 z = w1 at *
      go_wp2
      go_ret2
      exact ⟨_, _, rfl, by rw [HZ.out]; exact hR, hb, hge, Nat.le_refl _, HNew.out⟩
end Go.Proofs.Yticiaiiedagalaa.dk
