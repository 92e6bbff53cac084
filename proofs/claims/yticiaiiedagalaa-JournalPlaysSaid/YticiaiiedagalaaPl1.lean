/- A disk in memory; the contracts of its small functions. -/
import Derived.Test.YticiaiiedagalaaRows
import Derived.WalkKit
import Derived.ProofKit
import Derived.OpenShut
import Derived.Handy
import Derived.PlainAid
import Derived.Deep.QuietTactic
import Derived.BigQuiet
import Derived.WalkLawsBesides
import Derived.WalkSpells
import Derived.Lib.Hide
import Derived.Laws.Rows
import Derived.Laws.CopyOwn
import Derived.Laws.MakeOwn
namespace Go.Proofs.Yticiaiiedagalaa.dk
open Go.PlainAid Go.ChangeShapes Go.WideShapes Go.ChangeAt Go.RowKit

def bcells (l : List Int) : List Value := l.map (Value.int .u8)
theorem bcells_length (l : List Int) : (bcells l).length = l.length := by simp [bcells]
theorem bcells_append (a b : List Int) : bcells (a ++ b) = bcells a ++ bcells b := by simp [bcells]
/-- A write that is pending, as cells. -/
def wcells (x : Nat × List Int) : List Value := .int .i64 (x.1 : Int) :: bcells x.2
def pcells (l : List (Nat × List Int)) : List Value := l.flatMap wcells

/-- What a disk holds. -/
structure Dk where
  n : Nat
  laid : List Int
  now : List Int
  pend : List (Nat × List Int)
  limit : Int
  dead : Bool
  writes : Int

def dcells (L N : Nat) (P : Value) (m : Dk) : Array Value :=
  #[.slice (some ⟨L, 0, none⟩) (m.n * 64) (m.n * 64), .slice (some ⟨N, 0, none⟩) (m.n * 64) (m.n * 64), P, .int .i64 m.limit, .bool m.dead, .int .i64 m.writes]

structure DiskAt (B D L N : Nat) (P : Value) (m : Dk) (W : World) : Prop where
  bD : B ≤ D
  bL : B ≤ L
  bN : B ≤ N
  dl : D ≠ L
  dn : D ≠ N
  ln : L ≠ N
  pd : P.ownBlock ≠ some D
  pl : P.ownBlock ≠ some L
  pn : P.ownBlock ≠ some N
  hD : W.heap[D]? = some (.cells (dcells L N P m) 65 (0, 0))
  hL : W.heap[L]? = some (.cells (bcells m.laid).toArray 5 (0, 0))
  hN : W.heap[N]? = some (.cells (bcells m.now).toArray 5 (0, 0))
  hP : W.ownsRow B 90 65 P m.pend.length (pcells m.pend)
  ll : m.laid.length = m.n * 64
  nl : m.now.length = m.n * 64
  n1 : 1 ≤ m.n
  n2 : m.n ≤ 65536
  pw : ∀ x ∈ m.pend, x.1 < m.n ∧ x.2.length = 64
  lim : -1 ≤ m.limit
  wr0 : 0 ≤ m.writes
  wr1 : m.writes ≤ 1000000
  lim1 : m.limit ≤ 9223372036854775807

theorem DiskAt.cell {B D L N : Nat} {P : Value} {m : Dk} {W : World} (h : DiskAt B D L N P m W) (j : Nat) : W.cell? ⟨D, j, none⟩ = (dcells L N P m)[j]? := cell_of_row _ _ _ _ _ _ h.hD
theorem DiskAt.frozen {B D L N : Nat} {P : Value} {m : Dk} {W : World} (h : DiskAt B D L N P m W) (j : Nat) : W.frozen? ⟨D, j, none⟩ = false := by
  have := h.hD
  simp [World.frozen?, this]
theorem DiskAt.lt {B D L N : Nat} {P : Value} {m : Dk} {W : World} (h : DiskAt B D L N P m W) : D < W.heap.size ∧ L < W.heap.size ∧ N < W.heap.size := by
  refine ⟨?_, ?_, ?_⟩
  · exact (Array.getElem?_eq_some_iff.1 h.hD).1
  · exact (Array.getElem?_eq_some_iff.1 h.hL).1
  · exact (Array.getElem?_eq_some_iff.1 h.hN).1
theorem own_block_keeps {w w' : World} {B s : Nat} {t : TypeId} {v : Value} {n : Nat} {xs : List Value} (h : w.ownsRow B t s v n xs) (hb : ∀ g, v.ownBlock = some g → w'.heap[g]? = w.heap[g]?) : w'.ownsRow B t s v n xs := by
  refine ⟨h.1, ?_⟩
  rcases h.2 with h' | ⟨g, cap, cur, hv, hg, hh, hn, hc, hsz, ht⟩
  · exact .inl h'
  · exact .inr ⟨g, cap, cur, hv, hg, by rw [hb g (by rw [hv]; rfl)]; exact hh, hn, hc, hsz, ht⟩
/-- What leaves the disk's blocks leaves the disk. -/
theorem DiskAt.keep {B D L N : Nat} {P : Value} {m : Dk} {W W' : World} (h : DiskAt B D L N P m W) (hb : ∀ k, k < W.heap.size → W'.heap[k]? = W.heap[k]?) : DiskAt B D L N P m W' := by
  have hl := h.lt
  exact { h with
    hD := by rw [hb D hl.1]; exact h.hD
    hL := by rw [hb L hl.2.1]; exact h.hL
    hN := by rw [hb N hl.2.2]; exact h.hN
    hP := own_block_keeps h.hP fun g hg => hb g (h.hP.lt g hg).2 }
theorem DiskAt.below {B D L N : Nat} {P : Value} {m : Dk} {W W' : World} (h : DiskAt B D L N P m W) (hb : Below W.heap.size W W') : DiskAt B D L N P m W' := h.keep fun k hk => hb.block k hk
/-- But for one block all stands as it stood. -/
def Fr (D : Nat) (w w' : World) : Prop := ∀ k, k ≠ D → w'.heap[k]? = w.heap[k]?
/-- Below B, and outside X, all stands as it stood. -/
structure Bf (B : Nat) (X : Nat → Prop) (w w' : World) : Prop where
  below : Below B w w'
  fr : ∀ k, k < w.heap.size → ¬ X k → w'.heap[k]? = w.heap[k]?
theorem Bf.refl (B : Nat) (X : Nat → Prop) (w : World) : Bf B X w w := ⟨Below.refl _ _, fun _ _ _ => rfl⟩
theorem Bf.trans {B : Nat} {X : Nat → Prop} {a b c : World} (h : Bf B X a b) (k : Bf B X b c) : Bf B X a c :=
  ⟨h.below.trans k.below, fun i hi hx => (k.fr i (Nat.lt_of_lt_of_le hi h.below.size) hx).trans (h.fr i hi hx)⟩
theorem Bf.new {B : Nat} {X : Nat → Prop} {a b : World} (h : Below a.heap.size a b) (hB : B ≤ a.heap.size) : Bf B X a b := ⟨h.mono hB, fun k hk _ => h.block k hk⟩
theorem Bf.one {B A : Nat} {X : Nat → Prop} {a b : World} (h : Below B a b) (hf : Fr A a b) (hx : X A) : Bf B X a b := ⟨h, fun k _ hk => hf k (fun e => hk (e ▸ hx))⟩
/-- A disk's blocks. -/
def Xd (D L N : Nat) (P : Value) (k : Nat) : Prop := k = D ∨ k = L ∨ k = N ∨ P.ownBlock = some k
/-- One cell of the disk's own turned. -/
theorem DiskAt.turn {B D L N : Nat} {P : Value} {m m' : Dk} {W : World} (h : DiskAt B D L N P m W) (j : Nat) (v : Value) (he : (dcells L N P m).setIfInBounds j v = dcells L N P m')
    (e1 : m'.n = m.n) (e2 : m'.laid = m.laid) (e3 : m'.now = m.now) (e4 : m'.pend = m.pend) (e5 : -1 ≤ m'.limit) (e6 : 0 ≤ m'.writes) (e7 : m'.writes ≤ 1000000) (e8 : m'.limit ≤ 9223372036854775807) :
    DiskAt B D L N P m' (W.setCell ⟨D, j, none⟩ v) ∧ Below B W (W.setCell ⟨D, j, none⟩ v) ∧ Fr D W (W.setCell ⟨D, j, none⟩ v) := by
  rw [setCell_eq_setRow W D j _ _ _ v h.hD, he]
  have ho : ∀ k, k ≠ D → (W.setRow D (dcells L N P m')).heap[k]? = W.heap[k]? := fun k hk => setRow_other W D k _ hk
  refine ⟨?_, below_setRow (Below.refl _ _) h.bD _, ho⟩
  exact {
    bD := h.bD, bL := h.bL, bN := h.bN, dl := h.dl, dn := h.dn, ln := h.ln, pd := h.pd, pl := h.pl, pn := h.pn
    hD := setRow_heap W D _ _ _ _ h.hD
    hL := by rw [ho L h.dl.symm, e2]; exact h.hL
    hN := by rw [ho N h.dn.symm, e3]; exact h.hN
    hP := by rw [e4]; exact own_block_keeps h.hP fun g hg => ho g (fun e => h.pd (by rw [hg, e]))
    ll := by rw [e2, e1]; exact h.ll
    nl := by rw [e3, e1]; exact h.nl
    n1 := by rw [e1]; exact h.n1
    n2 := by rw [e1]; exact h.n2
    pw := by rw [e4, e1]; exact h.pw
    lim := e5, wr0 := e6, wr1 := e7, lim1 := e8 }
end Go.Proofs.Yticiaiiedagalaa.dk
/- The contracts of a disk's small functions. -/
namespace Go.Proofs.Yticiaiiedagalaa.dk
open Go.PlainAid Go.ChangeShapes Go.WideShapes Go.ChangeAt Go.RowKit

theorem DiskAt.slice {B D L N : Nat} {P : Value} {m : Dk} {W : World} (h : DiskAt B D L N P m W) : ∃ p c, P = .slice p m.pend.length c := by
  rcases h.hP.2 with ⟨hv, h0⟩ | ⟨g, cap, cur, hv, _⟩
  · exact ⟨none, 0, by rw [hv, h0]⟩
  · exact ⟨some ⟨g, 0, none⟩, cap, hv⟩
theorem made_any {B D L N : Nat} {P : Value} {m : Dk} {w : World} (h : DiskAt B D L N P m w) :
    Calls Try.prog 44 #[.pointer (some ⟨D, 0, none⟩)] w fun e w' => e = .returned (.bool true) ∧ w = w' := by
  have k0 := h.cell 0
  have k1 := h.cell 1
  have k2 := h.cell 2
  have k3 := h.cell 3
  have k4 := h.cell 4
  have k5 := h.cell 5
  have f3 := h.frozen 3
  have f4 := h.frozen 4
  have f5 := h.frozen 5
  simp only [dcells] at k0 k1 k2 k3 k4 k5
  simp at k0 k1 k2 k3 k4 k5
  go_enter Try.func44, Try.ntmps44
  go_wp2
  go_ret
  exact ⟨rfl, rfl⟩
theorem made_nil (w : World) :
    Calls Try.prog 44 #[.pointer none] w fun e w' => e = .returned (.bool false) ∧ w = w' := by
  go_enter Try.func44, Try.ntmps44
  go_wp2
  go_ret
  exact ⟨rfl, rfl⟩
theorem Dead_any {B D L N : Nat} {P : Value} {m : Dk} {w : World} (h : DiskAt B D L N P m w) :
    Calls Try.prog 34 #[.pointer (some ⟨D, 0, none⟩)] w fun e w' => e = .returned (.bool m.dead) ∧ w = w' := by
  have k0 := h.cell 0
  have k1 := h.cell 1
  have k2 := h.cell 2
  have k3 := h.cell 3
  have k4 := h.cell 4
  have k5 := h.cell 5
  have f3 := h.frozen 3
  have f4 := h.frozen 4
  have f5 := h.frozen 5
  simp only [dcells] at k0 k1 k2 k3 k4 k5
  simp at k0 k1 k2 k3 k4 k5
  go_enter Try.func34, Try.ntmps34
  go_wp2_with (go_at_call 44; with_reducible refine (made_any h).mono ?_; rintro e w' ⟨rfl, rfl⟩)
  go_ret
  exact ⟨rfl, rfl⟩
theorem Dead_nil (w : World) :
    Calls Try.prog 34 #[.pointer none] w fun e w' => e = .returned (.bool true) ∧ w = w' := by
  go_enter Try.func34, Try.ntmps34
  go_wp2_with (go_at_call 44; with_reducible refine (made_nil _).mono ?_; rintro e w' ⟨rfl, rfl⟩)
  go_ret
  exact ⟨rfl, rfl⟩
theorem Size_any {B D L N : Nat} {P : Value} {m : Dk} {w : World} (h : DiskAt B D L N P m w) :
    Calls Try.prog 36 #[.pointer (some ⟨D, 0, none⟩)] w fun e w' => e = .returned (.int .i64 m.n) ∧ w = w' := by
  have k0 := h.cell 0
  have k1 := h.cell 1
  have k2 := h.cell 2
  have k3 := h.cell 3
  have k4 := h.cell 4
  have k5 := h.cell 5
  have f3 := h.frozen 3
  have f4 := h.frozen 4
  have f5 := h.frozen 5
  simp only [dcells] at k0 k1 k2 k3 k4 k5
  simp at k0 k1 k2 k3 k4 k5
  have hn1 := h.n1
  have hn2 := h.n2
  go_enter Try.func36, Try.ntmps36
  go_wp2_with (go_at_call 44; with_reducible refine (made_any h).mono ?_; rintro e w' ⟨rfl, rfl⟩)
  go_ret
  exact ⟨by go_num, rfl⟩
theorem Size_nil (w : World) :
    Calls Try.prog 36 #[.pointer none] w fun e w' => e = .returned (.int .i64 0) ∧ w = w' := by
  go_enter Try.func36, Try.ntmps36
  go_wp2_with (go_at_call 44; with_reducible refine (made_nil _).mono ?_; rintro e w' ⟨rfl, rfl⟩)
  go_ret
  exact ⟨rfl, rfl⟩
theorem Writes_any {B D L N : Nat} {P : Value} {m : Dk} {w : World} (h : DiskAt B D L N P m w) :
    Calls Try.prog 16 #[.pointer (some ⟨D, 0, none⟩)] w fun e w' => e = .returned (.int .i64 m.writes) ∧ w = w' := by
  have k0 := h.cell 0
  have k1 := h.cell 1
  have k2 := h.cell 2
  have k3 := h.cell 3
  have k4 := h.cell 4
  have k5 := h.cell 5
  have f3 := h.frozen 3
  have f4 := h.frozen 4
  have f5 := h.frozen 5
  simp only [dcells] at k0 k1 k2 k3 k4 k5
  simp at k0 k1 k2 k3 k4 k5
  go_enter Try.func16, Try.ntmps16
  go_wp2_with (go_at_call 44; with_reducible refine (made_any h).mono ?_; rintro e w' ⟨rfl, rfl⟩)
  go_ret
  exact ⟨rfl, rfl⟩
theorem Writes_nil (w : World) :
    Calls Try.prog 16 #[.pointer none] w fun e w' => e = .returned (.int .i64 0) ∧ w = w' := by
  go_enter Try.func16, Try.ntmps16
  go_wp2_with (go_at_call 44; with_reducible refine (made_nil _).mono ?_; rintro e w' ⟨rfl, rfl⟩)
  go_ret
  exact ⟨rfl, rfl⟩
theorem spend_dead {B D L N : Nat} {P : Value} {m : Dk} {w : World} (h : DiskAt B D L N P m w) (h0 : m.limit = 0) :
    Calls Try.prog 46 #[.pointer (some ⟨D, 0, none⟩)] w fun e w' => e = .returned (.bool false) ∧ DiskAt B D L N P { m with dead := true } w' ∧ Below B w w' ∧ Fr D w w' := by
  have T := h.turn (m' := { m with dead := true }) 4 (.bool true) rfl rfl rfl rfl rfl h.lim h.wr0 h.wr1 h.lim1
  have k0 := h.cell 0
  have k1 := h.cell 1
  have k2 := h.cell 2
  have k3 := h.cell 3
  have k4 := h.cell 4
  have k5 := h.cell 5
  have f3 := h.frozen 3
  have f4 := h.frozen 4
  have f5 := h.frozen 5
  simp only [dcells] at k0 k1 k2 k3 k4 k5
  simp at k0 k1 k2 k3 k4 k5
  rw [h0] at k3
  have TT := Lib.hid T
  clear T
  go_enter Try.func46, Try.ntmps46
  go_wp2
  go_ret
  exact ⟨rfl, TT.out⟩
theorem spend_free {B D L N : Nat} {P : Value} {m : Dk} {w : World} (h : DiskAt B D L N P m w) (h0 : m.limit < 0) (hw : m.writes < 1000000) :
    Calls Try.prog 46 #[.pointer (some ⟨D, 0, none⟩)] w fun e w' => e = .returned (.bool true) ∧ DiskAt B D L N P { m with writes := m.writes + 1 } w' ∧ Below B w w' ∧ Fr D w w' := by
  have w0 := h.wr0
  have T := h.turn (m' := { m with writes := m.writes + 1 }) 5 (.int .i64 (m.writes + 1)) rfl rfl rfl rfl rfl h.lim (show 0 ≤ m.writes + 1 by omega) (show m.writes + 1 ≤ 1000000 by omega) h.lim1
  have k0 := h.cell 0
  have k1 := h.cell 1
  have k2 := h.cell 2
  have k3 := h.cell 3
  have k4 := h.cell 4
  have k5 := h.cell 5
  have f3 := h.frozen 3
  have f4 := h.frozen 4
  have f5 := h.frozen 5
  simp only [dcells] at k0 k1 k2 k3 k4 k5
  simp at k0 k1 k2 k3 k4 k5
  have TT := Lib.hid T
  have hl := h.lim
  clear T
  have e0 : (m.limit == 0) = false := beq_eq_false_iff_ne.2 (by omega)
  have e1 : decide (0 < m.limit) = false := decide_eq_false (by omega)
  go_enter Try.func46, Try.ntmps46
  go_wp2
  go_ret
  exact ⟨rfl, TT.out⟩
theorem spend_some {B D L N : Nat} {P : Value} {m : Dk} {w : World} (h : DiskAt B D L N P m w) (h0 : 0 < m.limit) (hw : m.writes < 1000000) :
    Calls Try.prog 46 #[.pointer (some ⟨D, 0, none⟩)] w fun e w' => e = .returned (.bool true) ∧ DiskAt B D L N P { m with limit := m.limit - 1, writes := m.writes + 1 } w' ∧ Below B w w' ∧ Fr D w w' := by
  have w0 := h.wr0
  have hx1 := h.lim1
  obtain ⟨T1, T1b, T1c⟩ := h.turn (m' := { m with limit := m.limit - 1 }) 3 (.int .i64 (m.limit - 1)) rfl rfl rfl rfl rfl (show -1 ≤ m.limit - 1 by omega) h.wr0 h.wr1 (show m.limit - 1 ≤ 9223372036854775807 by omega)
  have T2 := T1.turn (m' := { m with limit := m.limit - 1, writes := m.writes + 1 }) 5 (.int .i64 (m.writes + 1)) rfl rfl rfl rfl rfl (show -1 ≤ m.limit - 1 by omega) (show 0 ≤ m.writes + 1 by omega) (show m.writes + 1 ≤ 1000000 by omega) (show m.limit - 1 ≤ 9223372036854775807 by omega)
  have k0 := h.cell 0
  have k1 := h.cell 1
  have k2 := h.cell 2
  have k3 := h.cell 3
  have k4 := h.cell 4
  have k5 := h.cell 5
  have f3 := h.frozen 3
  have f4 := h.frozen 4
  have f5 := h.frozen 5
  simp only [dcells] at k0 k1 k2 k3 k4 k5
  simp at k0 k1 k2 k3 k4 k5
  have TT := Lib.hid (And.intro T2.1 (And.intro (T1b.trans T2.2.1) (show Fr D _ _ from fun k hk => (T2.2.2 k hk).trans (T1c k hk))))
  clear T1 T1b T1c T2
  generalize m.limit = x at k3 h0 hx1 TT
  have e0 : (x == 0) = false := beq_eq_false_iff_ne.2 (by omega)
  have e1 : decide (0 < x) = true := decide_eq_true (by omega)
  go_enter Try.func46, Try.ntmps46
  go_wp2
  go_ret
  exact ⟨rfl, TT.out⟩
theorem Limit_any {B D L N : Nat} {P : Value} {m : Dk} {w : World} (h : DiskAt B D L N P m w) (k : Int) (hk0 : -9223372036854775808 ≤ k) (hk1 : k ≤ 9223372036854775807) :
    Calls Try.prog 23 #[.pointer (some ⟨D, 0, none⟩), .int .i64 k] w fun e w' => e = .returned (.tuple #[]) ∧ DiskAt B D L N P { m with limit := max k (-1) } w' ∧ Below B w w' ∧ Fr D w w' := by
  have T := h.turn (m' := { m with limit := max k (-1) }) 3 (.int .i64 (max k (-1))) rfl rfl rfl rfl rfl (show -1 ≤ max k (-1) by omega) h.wr0 h.wr1 (show max k (-1) ≤ 9223372036854775807 by omega)
  have k0 := h.cell 0
  have k1 := h.cell 1
  have k2 := h.cell 2
  have k3 := h.cell 3
  have k4 := h.cell 4
  have k5 := h.cell 5
  have f3 := h.frozen 3
  have f4 := h.frozen 4
  have f5 := h.frozen 5
  simp only [dcells] at k0 k1 k2 k3 k4 k5
  simp at k0 k1 k2 k3 k4 k5
  have TT := Lib.hid T
  clear T
  have CMm := Lib.hid (made_any h)
  rcases (show -1 ≤ k ∨ k < -1 by omega) with hk | hk
  · have hmx : max k (-1) = k := by omega
    rw [hmx] at TT ⊢
    clear hmx
    go_enter Try.func23, Try.ntmps23
    go_wp2_with (go_at_call 44; with_reducible refine CMm.out.mono ?_; rintro e w' ⟨rfl, rfl⟩)
    all_goals
      go_end0
      exact ⟨rfl, TT.out⟩
  · have hmx : max k (-1) = -1 := by omega
    rw [hmx] at TT ⊢
    clear hmx
    go_enter Try.func23, Try.ntmps23
    go_wp2_with (go_at_call 44; with_reducible refine CMm.out.mono ?_; rintro e w' ⟨rfl, rfl⟩)
    all_goals
      go_end0
      exact ⟨rfl, TT.out⟩
theorem Limit_nil (k : Int) (w : World) :
    Calls Try.prog 23 #[.pointer none, .int .i64 k] w fun e w' => e = .returned (.tuple #[]) ∧ w = w' := by
  go_enter Try.func23, Try.ntmps23
  go_wp2_with (go_at_call 44; with_reducible refine (made_nil _).mono ?_; rintro e w' ⟨rfl, rfl⟩)
  go_end0
  exact ⟨rfl, rfl⟩
end Go.Proofs.Yticiaiiedagalaa.dk
