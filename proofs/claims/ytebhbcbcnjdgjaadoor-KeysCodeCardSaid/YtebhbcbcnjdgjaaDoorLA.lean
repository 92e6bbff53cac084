/- A range over an iterator that keeps its state in a box; what bytes are decoded to. -/
import Derived.Test.YtebhbcbcnjdgjaaDoorFA
import Derived.RangeFuncNested
import Derived.RangeFuncLeaves
import Derived.Shelf.Abstract
import Derived.WalkKit
import Derived.OwnWalkIn
import Derived.TacticsInMore
import Derived.LoopNIn
import Derived.LoopIn
namespace Go.Proofs.YtebhbcbcnjdgjaaDoor.dk
open Go.PlainAid Go.ChangeShapes Go.WideShapes Go.ChangeAt Go.RowKit

theorem txt_le : ∀ (l A : List Int) (i : Nat) (s : List Int) (k : Nat), txt l A i = some (s, k) → i < k ∧ k ≤ i + l.length := by
  intro l A i
  induction l, A, i using txt.induct with
  | case1 A i => intro s k h; simp [txt] at h
  | case2 A i x => intro s k h; simp [txt] at h
  | case3 A i r => intro s k h; simp [txt] at h; obtain ⟨_, rfl⟩ := h; simp
  | case4 A i r h1 ih => intro s k h; simp [txt] at h; have := ih s k h; simp; omega
  | case5 A i d r h1 h2 => intro s k h; simp [txt, h1, h2] at h
  | case6 A i c d r h1 ih => intro s k h; rw [txt, if_neg h1] at h; have := ih s k h; simp at this ⊢; omega
theorem fsz_le {neg : Bool} {s : List Int} {r : Bool × List Int × Int × Nat} (h : fsz neg s = some r) : 1 ≤ r.2.2.2 ∧ r.2.2.2 ≤ s.length + 1 := by
  unfold fsz at h
  split at h
  · simp at h
  · split at h
    · simp at h
    · rename_i k hz
      have hk := zat_lt _ _ hz
      rw [List.length_drop] at hk
      split at h
      · simp at h
      · split at h
        · simp at h; subst h; dsimp only; omega
        · simp at h
theorem flipb_len (s : List Int) : (flipb s).length = s.length := by unfold flipb; rw [List.length_map]
theorem fnum_le {l : List Int} {r : Bool × List Int × Int × Nat} (h0 : l ≠ []) (h : fnum l = some r) : 1 ≤ r.2.2.2 ∧ r.2.2.2 ≤ l.length := by
  have hl : 1 ≤ l.length := by cases l <;> simp_all
  have hs : ((l.take 44).drop 1).length + 1 ≤ l.length := by rw [List.length_drop, List.length_take]; omega
  unfold fnum at h
  split at h
  · have := fsz_le h; rw [flipb_len] at this; omega
  · have := fsz_le h; omega
theorem fpart_le {l : List Int} {q : Pt} {k : Nat} (h0 : l ≠ []) (h : fpart l = some (q, k)) : 1 ≤ k ∧ k ≤ l.length := by
  have hl : 1 ≤ l.length := by cases l <;> simp_all
  unfold fpart at h
  split at h
  · simp at h; omega
  · split at h
    · simp at h; omega
    · split at h
      · simp at h; omega
      · split at h
        · simp at h; omega
        · split at h
          · cases hf : fnum l with
            | none => rw [hf] at h; simp at h
            | some r => rw [hf] at h; simp at h; have := fnum_le h0 hf; omega
          · split at h
            · cases hf : fnum l with
              | none => rw [hf] at h; simp at h
              | some r => rw [hf] at h; simp at h; have := fnum_le h0 hf; omega
            · split at h
              · cases hf : txt (l.drop 1) [] 1 with
                | none => rw [hf] at h; simp at h
                | some r =>
                  rw [hf] at h
                  simp at h
                  have := txt_le _ _ _ r.1 r.2 hf
                  rw [List.length_drop] at this
                  omega
              · split at h
                · split at h
                  · simp at h; omega
                  · simp at h
                · simp at h
/-- The parts that b's first bytes are, and what is left. -/
inductive Dc (b : List Int) : List Pt → List Int → Prop
  | nil : Dc b [] b
  | step {l : List Pt} {r : List Int} {q : Pt} {k : Nat} : Dc b l r → r ≠ [] → fpart r = some (q, k) → Dc b (l ++ [q]) (r.drop k)
def oks (l : List Pt) : List (Pt × Bool) := l.map fun q => (q, true)
/-- What is handed on behind them. -/
def nxt (r : List Int) : Pt × Bool := match fpart r with | some (q, _) => (q, true) | none => (default, false)
def SAll (b : List Int) (xs : List (Pt × Bool)) : Prop := (∃ l, Dc b l [] ∧ xs = oks l) ∨ (∃ l r, Dc b l r ∧ r ≠ [] ∧ fpart r = none ∧ xs = oks l ++ [(default, false)])
def SPart (b : List Int) (xs : List (Pt × Bool)) : Prop := ∃ l r, Dc b l r ∧ r ≠ [] ∧ xs = oks l ++ [nxt r]
theorem oks_snoc (l : List Pt) (q : Pt) : oks (l ++ [q]) = oks l ++ [(q, true)] := by simp [oks]

/-- What the iterator finds as it left it: what lay below n0, and its box. -/
structure RKeep (n0 b : Nat) (W W' : World) : Prop where
  size : W.heap.size ≤ W'.heap.size
  block : ∀ k, k < n0 ∨ k = b → W'.heap[k]? = W.heap[k]?
theorem RKeep.trans {n0 b : Nat} {A B C : World} (h : RKeep n0 b A B) (k : RKeep n0 b B C) : RKeep n0 b A C := ⟨Nat.le_trans h.size k.size, fun i hi => (k.block i hi).trans (h.block i hi)⟩
theorem RKeep.put {n0 b l : Nat} (W : World) (o : Obj) (h1 : n0 ≤ l) (h2 : l ≠ b) : RKeep n0 b W (W.putObj l o) := ⟨by simp, fun k hk => World.putObj_heap_other (by omega)⟩
/-- It abides what the loop's laws, and the iterator by its box, turn. -/
def Abd {β : Type} (B b : Nat) (t : TypeId) (I : β → World → Prop) : Prop := ∀ s W W' r, I s W → W.grownBy W' r → (∀ k, r = some k → (k = b ∧ ∃ v, Boxed W' b t v) ∨ B ≤ k ∧ ∃ o : Obj, W.heap[k]? = some o ∧ o.isCells = false) → I s W'
/-- It abides the iterator's steps. -/
def AbdBox {β : Type} (b : Nat) (t : TypeId) (J : β → World → Prop) : Prop := ∀ s A B v, J s A → A.grownBy B (some b) → Boxed B b t v → J s B
theorem Abd.put {β : Type} {B b : Nat} {t : TypeId} {I : β → World → Prop} (h : Abd B b t I) {s : β} {W : World} {l : Nat} {o : Obj} (o' : Obj) (hs : I s W) (hB : B ≤ l) (hl : W.heap[l]? = some o) (ho : o.isCells = false) : I s (W.putObj l o') :=
  h s W _ (some l) hs (grownBy_putObj' W l o') fun k e => by cases e; exact .inr ⟨hB, o, hl, ho⟩
theorem Abd.new {β : Type} {B b : Nat} {t : TypeId} {I : β → World → Prop} (h : Abd B b t I) {s : β} {W : World} (o : Obj) (hs : I s W) : I s (W.alloc o) :=
  h s W _ none hs (World.grownBy_alloc W o none) fun k e => by cases e
theorem Abd.box {β : Type} {B b : Nat} {t : TypeId} {I : β → World → Prop} (h : Abd B b t I) {s : β} {W W' : World} {v : Value} (hs : I s W) (hg : W.grownBy W' (some b)) (hv : Boxed W' b t v) : I s W' :=
  h s W W' (some b) hs hg fun k e => by cases e; exact .inl ⟨rfl, v, hv⟩
theorem grown_other {W W' : World} {b k : Nat} {o : Obj} (hg : W.grownBy W' (some b)) (hk : W.heap[k]? = some o) (hne : k ≠ b) : W'.heap[k]? = some o :=
  (hg.block k (Array.getElem?_eq_some_iff.1 hk).1 (fun e => hne (by cases e; rfl))).trans hk

theorem rangeBox {α : Type} {P : Program} {n : Nat} {g : Operand} {ps : Array Tmp} {assign body : Code} {Q : Exit → Act → World → Prop} {a : Act} {w : World} {gf : Nat} {lb : Array Value} {n0 b : Nat} {t : TypeId} {encs : α → Array Value} {S Sp : List α → Prop}
    (hg : a.eval g = .func (.func gf) #[] lb) (eg : ∀ args w, (callFunc gf args).run P w = .ok (.enter gf args) w) (hn0 : n0 ≤ w.heap.size) (hb : b < w.heap.size) (hps : ∀ x, (encs x).size = ps.size)
    (hseq : ∀ (l : Nat) (J Jx : List α → World → Prop) (W : World), Below w.heap.size w W → AbdBox b t J → AbdBox b t Jx →
      (∀ pre x A, J pre A → YieldAt Fence.wide (n - 1 - 1) P l (encs x) A fun e B => (e = .returned (.bool true) ∧ J (pre ++ [x]) B ∧ RKeep n0 b A B) ∨ (e = .returned (.bool false) ∧ Jx (pre ++ [x]) B)) →
      J [] W → CallsIn Fence.wide (n - 1) P gf (#[.func (.yield l) #[] #[]] ++ lb) W fun e B => (∃ v, e = .returned v) ∧ ((∃ xs, S xs ∧ J xs B) ∨ (∃ pre, Sp pre ∧ Jx pre B)))
    (I : List α → World → Prop) (Ix : Code → List α → World → Prop) (hI : Abd w.heap.size b t I) (hIx : ∀ c, Abd w.heap.size b t (Ix c)) (h0 : I [] w) (Ax : α → Act → World → Prop) (hAx : ∀ x a', Abd w.heap.size b t (fun (_ : Unit) W => Ax x a' W))
    (hassign : ∀ (l : Nat) (pre : List α) (x : α) (W : World) (K : Act → World → Prop), I pre W → (∀ a' W', KeepsFrom w.heap.size W W' → RKeep n0 b W W' → I pre W' → Ax x a' W' → K a' W') →
      assign.wpIn (Fence.wide.inRound l) (n - 1 - 1) P (Exit.then K (fun _ _ _ => False)) { tmps := (ps.zip (encs x)).foldl (fun t (p, v) => t.setIfInBounds p v) a.tmps, defers := [] } W)
    (hbody : ∀ (l : Nat) (pre : List α) (x : α) (a' : Act) (W : World), w.heap.size ≤ l → I pre W → Ax x a' W → body.wpIn (Fence.wide.inRound l) (n - 1 - 1) P (ownPostG w.heap.size (RKeep n0 b) I Ix (pre ++ [x]) W) a' W)
    (hdone : ∀ (D : Nat) (xs : List α) (W : World), w.heap.size ≤ D → S xs → I xs W → W.heap[D]? = some (.deferred (some [])) → Q .normal { a with defers := { target := .collected D, args := #[] } :: a.defers } W)
    (hstop : ∀ (D : Nat) (c : Code) (pre : List α) (W : World), w.heap.size ≤ D → Sp pre → Ix c pre W → W.heap[D]? = some (.deferred (some [])) → c.wpIn Fence.wide n P Q { a with defers := { target := .collected D, args := #[] } :: a.defers } W) :
    (Code.rangeFunc g ps assign body).wpIn Fence.wide n P Q a w := by
  refine wpIn_rangeFunc fun fn _ => ?_
  obtain ⟨rc, hrc⟩ : ∃ rc : LoopState → Option Code → Loop, rc = fun st pe => { state := st, pending := pe, fn, tmps := a.tmps, params := ps, assign, body, defers := w.heap.size } := ⟨_, rfl⟩
  obtain ⟨W1, hW1⟩ : ∃ W1, (w.alloc (.deferred (some []))).alloc (.loop (rc .ready none)) = W1 := ⟨_, rfl⟩
  have hsz : (w.alloc (.deferred (some []))).heap.size = w.heap.size + 1 := World.size_alloc ..
  have bl : W1.heap[w.heap.size + 1]? = some (.loop (rc .ready none)) := by
    rw [← hW1, ← hsz]; exact World.alloc_heap_new _ _
  have bd : W1.heap[w.heap.size]? = some (.deferred (some [])) := by
    rw [← hW1]; exact (Below.heap_alloc _ _ _ (by rw [hsz]; omega)).trans (World.alloc_heap_new w _)
  have bI : I [] W1 := by rw [← hW1]; exact hI.new _ (hI.new _ h0)
  have bB : Below w.heap.size w W1 := by rw [← hW1]; exact ((Below.refl _ w).alloc (Nat.le_refl _) _).alloc (by rw [hsz]; omega) _
  have hbl : w.heap.size + 1 ≠ b := by omega
  have hbd : w.heap.size ≠ b := by omega
  refine ⟨w.heap.size + 1, [{ target := .collected w.heap.size, args := #[] }], W1, { target := .fn (.func gf) lb, args := #[.func (.yield (w.heap.size + 1)) #[] #[]] }, W1, gf, #[.func (.yield (w.heap.size + 1)) #[] #[]] ++ lb, W1, ?_, ?_, fun _ _ => trivial, ?_, fun h => by simp [Fence.wide] at h, ?_⟩
  · rw [← hW1, hrc]; exact run_enterLoop_outer _ _ _ _ _
  · simp only [resolve, hg]
    simp [go_sem]
  · simp [invoke, go_sem, eg]
  · refine (hseq (w.heap.size + 1)
      (fun pre W => I pre W ∧ W.heap[w.heap.size + 1]? = some (.loop (rc .ready none)) ∧ W.heap[w.heap.size]? = some (.deferred (some [])))
      (fun pre W => ∃ c, Ix c pre W ∧ W.heap[w.heap.size + 1]? = some (.loop (rc .done (some c))) ∧ W.heap[w.heap.size]? = some (.deferred (some [])))
      W1 bB
      (fun s A B v hs hgr hv => ⟨hI.box hs.1 hgr hv, grown_other hgr hs.2.1 hbl, grown_other hgr hs.2.2 hbd⟩)
      (fun s A B v hs hgr hv => by
        obtain ⟨c, h1, h2, h3⟩ := hs
        exact ⟨c, (hIx c).box h1 hgr hv, grown_other hgr h2 hbl, grown_other hgr h3 hbd⟩)
      ?round ⟨bI, bl, bd⟩).mono ?behind
    case round =>
      rintro pre x W ⟨hi, hl, hd⟩
      have hy := run_yield (P := P) (args := encs x) hl (by rw [hrc]; exact hps x)
      rw [hrc] at hy
      refine ⟨fn, _, assign, body, hy, roundIn_of_wpIn trivial (hassign _ pre x W _ hi ?_)⟩
      intro a' V hkf hrk hiV hax
      have hl1 := hkf.same _ _ (Nat.le_succ _) hl rfl
      have hd1 := hkf.same _ _ (Nat.le_refl _) hd rfl
      refine ⟨_, run_beginRound hl1 (by rw [hrc]), ?_⟩
      have hl2 : (V.putObj (w.heap.size + 1) (.loop { rc .ready none with state := .busy })).heap[w.heap.size + 1]? = some (.loop { rc .ready none with state := .busy }) := World.putObj_heap_same (Array.getElem?_eq_some_iff.1 hl1).1
      have hd2 : (V.putObj (w.heap.size + 1) (.loop { rc .ready none with state := .busy })).heap[w.heap.size]? = some (.deferred (some [])) := (World.putObj_heap_other (by omega)).trans hd1
      have hk2 : RKeep n0 b W (V.putObj (w.heap.size + 1) (.loop { rc .ready none with state := .busy })) := hrk.trans (RKeep.put V _ (by omega) hbl)
      refine wpIn_mono (hbody _ pre x a' _ (Nat.le_succ _) (hI.put _ hiV (Nat.le_succ _) hl1 rfl) ((hAx x a').put (s := ()) _ hax (Nat.le_succ _) hl1 rfl)) ?_
      have fin : ∀ (jump : Option Code) (U : World), KeepsFrom w.heap.size (V.putObj (w.heap.size + 1) (.loop { rc .ready none with state := .busy })) U →
          ∃ U2, (Instr.endRound (w.heap.size + 1) jump).run P U = .ok (.bool jump.isNone) U2 ∧ U2 = U.putObj (w.heap.size + 1) (.loop (rc (if jump.isNone then .ready else .done) jump)) ∧
            U.heap[w.heap.size + 1]? = some (.loop { rc .ready none with state := .busy }) ∧ U2.heap[w.heap.size + 1]? = some (.loop (rc (if jump.isNone then .ready else .done) jump)) ∧ U2.heap[w.heap.size]? = some (.deferred (some [])) := fun jump U hU => by
        have h3 := hU.same _ _ (Nat.le_succ _) hl2 rfl
        have h4 := run_endRound (P := P) jump h3
        refine ⟨_, h4, by rw [hrc], h3, ?_, (World.putObj_heap_other (by omega)).trans (hU.same _ _ (Nat.le_refl _) hd2 rfl)⟩
        rw [World.putObj_heap_same (Array.getElem?_eq_some_iff.1 h3).1, hrc]
      have out : ∀ (c : Code) (U : World), KeepsFrom w.heap.size (V.putObj (w.heap.size + 1) (.loop { rc .ready none with state := .busy })) U → Ix c (pre ++ [x]) U →
          ∃ v w', (Instr.endRound (w.heap.size + 1) (some c)).run P U = .ok v w' ∧ v = .bool false ∧ ∃ c, Ix c (pre ++ [x]) w' ∧ w'.heap[w.heap.size + 1]? = some (.loop (rc .done (some c))) ∧ w'.heap[w.heap.size]? = some (.deferred (some [])) := fun c U hU hx => by
        obtain ⟨U2, h5, h6, h7, h8, h9⟩ := fin (some c) U hU
        exact ⟨_, U2, h5, rfl, c, by rw [h6]; exact (hIx c).put _ hx (Nat.le_succ _) h7 rfl, h8, h9⟩
      rintro e a3 U hp
      cases e with
      | normal =>
        obtain ⟨hU, hkU, hiU⟩ := hp
        obtain ⟨U2, h5, h6, h7, h8, h9⟩ := fin none U hU
        refine ⟨_, U2, h5, .inl ⟨rfl, ⟨by rw [h6]; exact hI.put _ hiU (Nat.le_succ _) h7 rfl, h8, h9⟩, ?_⟩⟩
        rw [h6]
        exact hk2.trans (hkU.trans (RKeep.put U _ (by omega) hbl))
      | ret =>
        obtain ⟨v, w', h5, rfl, h6⟩ := out .ret U hp.1 hp.2
        exact ⟨_, _, h5, .inr ⟨rfl, h6⟩⟩
      | exit id =>
        obtain ⟨v, w', h5, rfl, h6⟩ := out (.exit id) U hp.1 hp.2
        exact ⟨_, _, h5, .inr ⟨rfl, h6⟩⟩
      | goto t =>
        obtain ⟨v, w', h5, rfl, h6⟩ := out (.goto t) U hp.1 hp.2
        exact ⟨_, _, h5, .inr ⟨rfl, h6⟩⟩
      | panic ch => exact hp.elim
      | outgrown => exact hp.elim
    case behind =>
      rintro e W2 ⟨⟨v, rfl⟩, (⟨xs, hS, hi, hl, hk⟩ | ⟨pre, hSp, c, hi, hl, hk⟩)⟩
      · have h5 := run_endLoop (P := P) hl (by rw [hrc]; simp)
        rw [hrc] at h5
        exact ⟨none, _, h5, hdone _ xs _ (Nat.le_refl _) hS (hI.put _ hi (Nat.le_succ _) hl rfl) ((World.putObj_heap_other (by omega)).trans hk)⟩
      · have h5 := run_endLoop (P := P) hl (by rw [hrc]; simp)
        rw [hrc] at h5
        exact ⟨some c, _, h5, hstop _ c pre _ (Nat.le_refl _) hSp ((hIx c).put _ hi (Nat.le_succ _) hl rfl) ((World.putObj_heap_other (by omega)).trans hk)⟩
end Go.Proofs.YtebhbcbcnjdgjaaDoor.dk
