/- The document's own disk in memory; its spend, Limit and zeros. -/
import Derived.Test.YtmnfaoihmcofiaaDR
namespace Go.Proofs.Ytmnfaoihmcofiaa.dk
open Go.PlainAid Go.ChangeShapes Go.WideShapes Go.ChangeAt Go.RowKit

/-- What the document's disk holds: sectors, what is pending. -/
structure Rk where
  S : List (List Int)
  P : List (Nat × List Int)
  left : Int
  gone : Bool
  count : Int
def rcells (S P : Value) (r : Rk) : Array Value := #[S, P, .int .i64 r.left, .bool r.gone, .int .i64 r.count]
def scells (l : List (List Int)) : List Value := l.map fun s => .string (strOf s)
def qcells (l : List (Nat × List Int)) : List Value := l.flatMap fun x => [.int .i64 (x.1 : Int), .string (strOf x.2)]
structure RefAt (B D : Nat) (S P : Value) (r : Rk) (W : World) : Prop where
  bD : B ≤ D
  hD : W.heap[D]? = some (.cells (rcells S P r) 45 (0, 0))
  hS : W.ownsRow B 9 1 S r.S.length (scells r.S)
  hP : W.ownsRow B 60 2 P r.P.length (qcells r.P)
  n2 : r.S.length ≤ 15
  pl : r.P.length ≤ 1000
  sw : ∀ s ∈ r.S, s.length = 64
  pw : ∀ x ∈ r.P, x.1 < r.S.length ∧ x.2.length = 64
  lim : -1 ≤ r.left
  lim1 : r.left ≤ 9223372036854775807
  c0 : 0 ≤ r.count
  c1 : r.count ≤ 1000000
theorem RefAt.cell {B D : Nat} {S P : Value} {r : Rk} {W : World} (h : RefAt B D S P r W) (j : Nat) : W.cell? ⟨D, j, none⟩ = (rcells S P r)[j]? := cell_of_row _ _ _ _ _ _ h.hD
theorem RefAt.frozen {B D : Nat} {S P : Value} {r : Rk} {W : World} (h : RefAt B D S P r W) (j : Nat) : W.frozen? ⟨D, j, none⟩ = false := by
  have := h.hD
  simp [World.frozen?, this]
theorem RefAt.lt {B D : Nat} {S P : Value} {r : Rk} {W : World} (h : RefAt B D S P r W) : D < W.heap.size := (Array.getElem?_eq_some_iff.1 h.hD).1
theorem RefAt.keep {B D : Nat} {S P : Value} {r : Rk} {W W' : World} (h : RefAt B D S P r W) (hb : ∀ k, k < W.heap.size → W'.heap[k]? = W.heap[k]?) : RefAt B D S P r W' :=
  { h with
    hD := by rw [hb D h.lt]; exact h.hD
    hS := own_block_keeps h.hS fun g hg => hb g (h.hS.lt g hg).2
    hP := own_block_keeps h.hP fun g hg => hb g (h.hP.lt g hg).2 }
theorem RefAt.below {B D : Nat} {S P : Value} {r : Rk} {W W' : World} (h : RefAt B D S P r W) (hb : Below W.heap.size W W') : RefAt B D S P r W' := h.keep fun k hk => hb.block k hk
/-- The type of a row's block. -/
theorem own_type {w : World} {B s : Nat} {t : TypeId} {v : Value} {n : Nat} {xs : List Value} (h : w.ownsRow B t s v n xs) {g : Nat} (hg : v.ownBlock = some g) : ∃ cur, w.heap[g]? = some (.cells cur t (0, 0)) := by
  rcases h.2 with ⟨hv, _⟩ | ⟨g', cap, cur, hv, _, hh, _⟩
  · rw [hv] at hg; cases hg
  · rw [hv] at hg
    have : g' = g := by injection hg
    subst this
    exact ⟨cur, hh⟩
theorem RefAt.ne {B D : Nat} {S P : Value} {r : Rk} {W : World} (h : RefAt B D S P r W) : S.ownBlock ≠ some D ∧ P.ownBlock ≠ some D ∧ ∀ g, S.ownBlock = some g → P.ownBlock ≠ some g := by
  refine ⟨fun e => ?_, fun e => ?_, fun g e e2 => ?_⟩
  · obtain ⟨cur, hc⟩ := own_type h.hS e
    exact cells_ne hc h.hD (by decide) rfl
  · obtain ⟨cur, hc⟩ := own_type h.hP e
    exact cells_ne hc h.hD (by decide) rfl
  · obtain ⟨cur, hc⟩ := own_type h.hS e
    obtain ⟨cur2, hc2⟩ := own_type h.hP e2
    exact cells_ne hc hc2 (by decide) rfl
/-- The document's disk's blocks. -/
def Xr (D : Nat) (S P : Value) (k : Nat) : Prop := k = D ∨ S.ownBlock = some k ∨ P.ownBlock = some k
/-- What turns the program's disk leaves the document's, and the other way. -/
theorem RefAt.other {B D L N B2 D2 B' : Nat} {P S2 P2 : Value} {m : Dk} {r : Rk} {w w' : World} (h : DiskAt B D L N P m w) (h2 : RefAt B2 D2 S2 P2 r w) (hb : Bf B' (Xd D L N P) w w') : RefAt B2 D2 S2 P2 r w' := by
  have nx : ∀ g cur t, w.heap[g]? = some (.cells cur t (0, 0)) → 53 ≠ t → 5 ≠ t → 57 ≠ t → ¬ Xd D L N P g := by
    rintro g cur t hg t1 t2 t3 (e | e | e | e)
    · exact cells_ne h.hD hg t1 e.symm
    · exact cells_ne h.hL hg t2 e.symm
    · exact cells_ne h.hN hg t2 e.symm
    · obtain ⟨cur2, hc⟩ := h.row e
      exact cells_ne hc hg t3 rfl
  exact { h2 with
    hD := by rw [hb.fr D2 h2.lt (nx D2 _ _ h2.hD (by decide) (by decide) (by decide))]; exact h2.hD
    hS := own_block_keeps h2.hS fun g hg => by
      obtain ⟨cur, hc⟩ := own_type h2.hS hg
      exact hb.fr g (h2.hS.lt g hg).2 (nx g _ _ hc (by decide) (by decide) (by decide))
    hP := own_block_keeps h2.hP fun g hg => by
      obtain ⟨cur, hc⟩ := own_type h2.hP hg
      exact hb.fr g (h2.hP.lt g hg).2 (nx g _ _ hc (by decide) (by decide) (by decide)) }
theorem DiskAt.ofRef {B D L N B2 D2 B' : Nat} {P S2 P2 : Value} {m : Dk} {r : Rk} {w w' : World} (h : DiskAt B D L N P m w) (h2 : RefAt B2 D2 S2 P2 r w) (hb : Bf B' (Xr D2 S2 P2) w w') : DiskAt B D L N P m w' := by
  have hl := h.lt
  have nx : ∀ g cur t, w.heap[g]? = some (.cells cur t (0, 0)) → 45 ≠ t → 9 ≠ t → 60 ≠ t → ¬ Xr D2 S2 P2 g := by
    rintro g cur t hg t1 t2 t3 (e | e | e)
    · exact cells_ne h2.hD hg t1 e.symm
    · obtain ⟨cur2, hc⟩ := own_type h2.hS e
      exact cells_ne hc hg t2 rfl
    · obtain ⟨cur2, hc⟩ := own_type h2.hP e
      exact cells_ne hc hg t3 rfl
  exact { h with
    hD := by rw [hb.fr D hl.1 (nx _ _ _ h.hD (by decide) (by decide) (by decide))]; exact h.hD
    hL := by rw [hb.fr L hl.2.1 (nx _ _ _ h.hL (by decide) (by decide) (by decide))]; exact h.hL
    hN := by rw [hb.fr N hl.2.2 (nx _ _ _ h.hN (by decide) (by decide) (by decide))]; exact h.hN
    hP := own_block_keeps h.hP fun g hg => by
      obtain ⟨cur, hc⟩ := h.row hg
      exact hb.fr g (h.hP.lt g hg).2 (nx g _ _ hc (by decide) (by decide) (by decide)) }
/-- One cell of the document's disk turned. -/
theorem RefAt.turn {B D : Nat} {S P : Value} {r r' : Rk} {W : World} (h : RefAt B D S P r W) (j : Nat) (v : Value) (he : (rcells S P r).setIfInBounds j v = rcells S P r')
    (e1 : r'.S = r.S) (e2 : r'.P = r.P) (e3 : -1 ≤ r'.left) (e4 : r'.left ≤ 9223372036854775807) (e5 : 0 ≤ r'.count) (e6 : r'.count ≤ 1000000) :
    RefAt B D S P r' (W.setCell ⟨D, j, none⟩ v) ∧ Below B W (W.setCell ⟨D, j, none⟩ v) ∧ Fr D W (W.setCell ⟨D, j, none⟩ v) := by
  rw [setCell_eq_setRow W D j _ _ _ v h.hD, he]
  have ho : ∀ k, k ≠ D → (W.setRow D (rcells S P r')).heap[k]? = W.heap[k]? := fun k hk => setRow_other W D k _ hk
  refine ⟨?_, below_setRow (Below.refl _ _) h.bD _, ho⟩
  exact {
    bD := h.bD
    hD := setRow_heap W D _ _ _ _ h.hD
    hS := by rw [e1]; exact own_block_keeps h.hS fun g hg => ho g (fun e => h.ne.1 (by rw [hg, e]))
    hP := by rw [e2]; exact own_block_keeps h.hP fun g hg => ho g (fun e => h.ne.2.1 (by rw [hg, e]))
    n2 := by rw [e1]; exact h.n2
    pl := by rw [e2]; exact h.pl
    sw := by rw [e1]; exact h.sw
    pw := by rw [e1, e2]; exact h.pw
    lim := e3, lim1 := e4, c0 := e5, c1 := e6 }

theorem rspend_dead {B D : Nat} {S P : Value} {r : Rk} {w : World} (h : RefAt B D S P r w) (h0 : r.left = 0) :
    Calls Try.prog 28 #[.pointer (some ⟨D, 0, none⟩)] w fun e w' => e = .returned (.bool false) ∧ RefAt B D S P { r with gone := true } w' ∧ Below B w w' ∧ Fr D w w' := by
  have T := h.turn (r' := { r with gone := true }) 3 (.bool true) rfl rfl rfl h.lim h.lim1 h.c0 h.c1
  have k2 := h.cell 2
  have k3 := h.cell 3
  have k4 := h.cell 4
  have f2 := h.frozen 2
  have f3 := h.frozen 3
  have f4 := h.frozen 4
  simp only [rcells] at k2 k3 k4
  simp at k2 k3 k4
  rw [h0] at k2
  have TT := Lib.hid T
  clear T
  go_enter Try.func28, Try.ntmps28
  go_wp2
  go_ret
  exact ⟨rfl, TT.out⟩
theorem rspend_free {B D : Nat} {S P : Value} {r : Rk} {w : World} (h : RefAt B D S P r w) (h0 : r.left < 0) (hw : r.count < 1000000) :
    Calls Try.prog 28 #[.pointer (some ⟨D, 0, none⟩)] w fun e w' => e = .returned (.bool true) ∧ RefAt B D S P { r with count := r.count + 1 } w' ∧ Below B w w' ∧ Fr D w w' := by
  have w0 := h.c0
  have T := h.turn (r' := { r with count := r.count + 1 }) 4 (.int .i64 (r.count + 1)) rfl rfl rfl h.lim h.lim1 (show 0 ≤ r.count + 1 by omega) (show r.count + 1 ≤ 1000000 by omega)
  have k2 := h.cell 2
  have k3 := h.cell 3
  have k4 := h.cell 4
  have f2 := h.frozen 2
  have f3 := h.frozen 3
  have f4 := h.frozen 4
  simp only [rcells] at k2 k3 k4
  simp at k2 k3 k4
  have TT := Lib.hid T
  have hl := h.lim
  clear T
  have e0 : (r.left == 0) = false := beq_eq_false_iff_ne.2 (by omega)
  have e1 : decide (0 < r.left) = false := decide_eq_false (by omega)
  go_enter Try.func28, Try.ntmps28
  go_wp2
  go_ret
  exact ⟨rfl, TT.out⟩
theorem rspend_some {B D : Nat} {S P : Value} {r : Rk} {w : World} (h : RefAt B D S P r w) (h0 : 0 < r.left) (hw : r.count < 1000000) :
    Calls Try.prog 28 #[.pointer (some ⟨D, 0, none⟩)] w fun e w' => e = .returned (.bool true) ∧ RefAt B D S P { r with left := r.left - 1, count := r.count + 1 } w' ∧ Below B w w' ∧ Fr D w w' := by
  have w0 := h.c0
  have hx1 := h.lim1
  obtain ⟨T1, T1b, T1c⟩ := h.turn (r' := { r with left := r.left - 1 }) 2 (.int .i64 (r.left - 1)) rfl rfl rfl (show -1 ≤ r.left - 1 by omega) (show r.left - 1 ≤ 9223372036854775807 by omega) h.c0 h.c1
  have T2 := T1.turn (r' := { r with left := r.left - 1, count := r.count + 1 }) 4 (.int .i64 (r.count + 1)) rfl rfl rfl (show -1 ≤ r.left - 1 by omega) (show r.left - 1 ≤ 9223372036854775807 by omega) (show 0 ≤ r.count + 1 by omega) (show r.count + 1 ≤ 1000000 by omega)
  have k2 := h.cell 2
  have k3 := h.cell 3
  have k4 := h.cell 4
  have f2 := h.frozen 2
  have f3 := h.frozen 3
  have f4 := h.frozen 4
  simp only [rcells] at k2 k3 k4
  simp at k2 k3 k4
  have TT := Lib.hid (And.intro T2.1 (And.intro (T1b.trans T2.2.1) (show Fr D _ _ from fun k hk => (T2.2.2 k hk).trans (T1c k hk))))
  clear T1 T1b T1c T2
  generalize r.left = x at k2 h0 hx1 TT
  have e0 : (x == 0) = false := beq_eq_false_iff_ne.2 (by omega)
  have e1 : decide (0 < x) = true := decide_eq_true (by omega)
  go_enter Try.func28, Try.ntmps28
  go_wp2
  go_ret
  exact ⟨rfl, TT.out⟩
theorem rLimit_any {B D : Nat} {S P : Value} {r : Rk} {w : World} (h : RefAt B D S P r w) (k : Int) (hk0 : -9223372036854775808 ≤ k) (hk1 : k ≤ 9223372036854775807) :
    Calls Try.prog 16 #[.pointer (some ⟨D, 0, none⟩), .int .i64 k] w fun e w' => e = .returned (.tuple #[]) ∧ RefAt B D S P { r with left := max k (-1) } w' ∧ Below B w w' ∧ Fr D w w' := by
  have T := h.turn (r' := { r with left := max k (-1) }) 2 (.int .i64 (max k (-1))) rfl rfl rfl (show -1 ≤ max k (-1) by omega) (show max k (-1) ≤ 9223372036854775807 by omega) h.c0 h.c1
  have k2 := h.cell 2
  have f2 := h.frozen 2
  simp only [rcells] at k2
  simp at k2
  have TT := Lib.hid T
  clear T
  go_enter Try.func16, Try.ntmps16
  go_wp2
  all_goals
    go_end0
    exact ⟨rfl, TT.out⟩
end Go.Proofs.Ytmnfaoihmcofiaa.dk
