/- Two disks; many writes to one sector. -/
import Derived.Test.YtmnfaoihmcofiaaDI
namespace Go.Proofs.Ytmnfaoihmcofiaa.dk
open Go.PlainAid Go.ChangeShapes Go.WideShapes Go.ChangeAt Go.RowKit

/-- Two disks that share nothing. -/
structure Apart (D L N : Nat) (P : Value) (D2 L2 N2 : Nat) (P2 : Value) : Prop where
  dd : D2 ≠ D
  dl : D2 ≠ L
  dn : D2 ≠ N
  ld : L2 ≠ D
  ll : L2 ≠ L
  ln : L2 ≠ N
  nd : N2 ≠ D
  nl : N2 ≠ L
  nn : N2 ≠ N
  pp : ∀ g, P.ownBlock = some g → P2.ownBlock ≠ some g
theorem Apart.symm {D L N : Nat} {P : Value} {D2 L2 N2 : Nat} {P2 : Value} (h : Apart D L N P D2 L2 N2 P2) : Apart D2 L2 N2 P2 D L N P :=
  ⟨h.dd.symm, h.ld.symm, h.nd.symm, h.dl.symm, h.ll.symm, h.nl.symm, h.dn.symm, h.ln.symm, h.nn.symm, fun g h2 h1 => h.pp g h1 h2⟩
/-- The row of what is pending has turned, or lies new. -/
theorem Apart.move {D L N : Nat} {P P' : Value} {D2 L2 N2 : Nat} {P2 : Value} {w : World} (h : Apart D L N P D2 L2 N2 P2) (hp : ∀ g, P'.ownBlock = some g → P.ownBlock = some g ∨ w.heap.size ≤ g) (h2 : ∀ g, P2.ownBlock = some g → g < w.heap.size) : Apart D L N P' D2 L2 N2 P2 :=
  ⟨h.dd, h.dl, h.dn, h.ld, h.ll, h.ln, h.nd, h.nl, h.nn, fun g hg e => (hp g hg).elim (fun h1 => h.pp g h1 e) (fun h1 => absurd (h2 g e) (by omega))⟩
theorem Apart.gone {D L N : Nat} {P : Value} {D2 L2 N2 : Nat} {P2 : Value} (h : Apart D L N P D2 L2 N2 P2) : Apart D L N (.slice none 0 0) D2 L2 N2 P2 := { h with pp := fun g hg => by cases hg }

theorem DiskAt.row {B D L N : Nat} {P : Value} {m : Dk} {W : World} (h : DiskAt B D L N P m W) {g : Nat} (hg : P.ownBlock = some g) : ∃ cur, W.heap[g]? = some (.cells cur 57 (0, 0)) := by
  rcases h.hP.2 with ⟨hv, _⟩ | ⟨g', cap, cur, hv, _, hh, _⟩
  · rw [hv] at hg; cases hg
  · rw [hv] at hg
    have : g' = g := by injection hg
    subst this
    exact ⟨cur, hh⟩
theorem cells_ne {W : World} {a b : Nat} {c d : Array Value} {s t : TypeId} (h1 : W.heap[a]? = some (.cells c s (0, 0))) (h2 : W.heap[b]? = some (.cells d t (0, 0))) (ht : s ≠ t) : a ≠ b := by
  rintro rfl
  rw [h1] at h2
  injection h2 with h2
  injection h2 with _ h _
  exact ht h
theorem DiskAt.other {B D L N B2 D2 L2 N2 B' : Nat} {P P2 : Value} {m m2 : Dk} {w w' : World} (h : DiskAt B D L N P m w) (h2 : DiskAt B2 D2 L2 N2 P2 m2 w) (ha : Apart D L N P D2 L2 N2 P2) (hb : Bf B' (Xd D L N P) w w') : DiskAt B2 D2 L2 N2 P2 m2 w' := by
  have l2 := h2.lt
  have nD : ¬ Xd D L N P D2 := by
    rintro (e | e | e | e)
    · exact ha.dd e
    · exact ha.dl e
    · exact ha.dn e
    · obtain ⟨cur, hc⟩ := h.row e
      exact cells_ne hc h2.hD (by decide) rfl
  have nL : ¬ Xd D L N P L2 := by
    rintro (e | e | e | e)
    · exact ha.ld e
    · exact ha.ll e
    · exact ha.ln e
    · obtain ⟨cur, hc⟩ := h.row e
      exact cells_ne hc h2.hL (by decide) rfl
  have nN : ¬ Xd D L N P N2 := by
    rintro (e | e | e | e)
    · exact ha.nd e
    · exact ha.nl e
    · exact ha.nn e
    · obtain ⟨cur, hc⟩ := h.row e
      exact cells_ne hc h2.hN (by decide) rfl
  have nP : ∀ g, P2.ownBlock = some g → ¬ Xd D L N P g := by
    intro g hg
    obtain ⟨cur, hc⟩ := h2.row hg
    rintro (e | e | e | e)
    · exact cells_ne hc h.hD (by decide) e
    · exact cells_ne hc h.hL (by decide) e
    · exact cells_ne hc h.hN (by decide) e
    · exact ha.pp g e hg
  exact { h2 with
    hD := by rw [hb.fr D2 l2.1 nD]; exact h2.hD
    hL := by rw [hb.fr L2 l2.2.1 nL]; exact h2.hL
    hN := by rw [hb.fr N2 l2.2.2 nN]; exact h2.hN
    hP := own_block_keeps h2.hP fun g hg => hb.fr g (h2.hP.lt g hg).2 (nP g hg) }

/-- The disk behind writes of one byte each to sector k. -/
def ordm (k : Nat) (l : List Int) : Dk := { n := 4, laid := List.replicate 256 0, now := l.foldl (fun n v => lay n (k * 64) (pad [v])) (List.replicate 256 0), pend := l.map fun v => (k, pad [v]), limit := -1, dead := false, writes := l.length }
theorem ordm_snoc (k : Nat) (l : List Int) (v : Int) : ordm k (l ++ [v]) = { { ordm k l with writes := (ordm k l).writes + 1 } with now := lay (ordm k l).now (k * 64) (pad [v]), pend := (ordm k l).pend ++ [(k, pad [v])] } := by
  unfold ordm
  simp [-List.reduceReplicate]
theorem foldl_now_len (k : Nat) (hk : k < 4) : ∀ (l : List Int) (n : List Int), n.length = 256 → (l.foldl (fun n v => lay n (k * 64) (pad [v])) n).length = 256
  | [], n, h => h
  | v :: l, n, h => by
    rw [List.foldl_cons]
    exact foldl_now_len k hk l _ (by rw [lay_length (by rw [pad_length (by simp)]; omega)]; exact h)
theorem ordm_now_len (k : Nat) (hk : k < 4) (l : List Int) : (ordm k l).now.length = 256 := foldl_now_len k hk l _ (by rw [List.length_replicate])
/-- The last byte that was written. -/
def want (l : List Int) : Int := l.foldl (fun _ v => v) 0
theorem want_snoc (l : List Int) (v : Int) : want (l ++ [v]) = v := by simp [want]
/-- The last one that is kept. -/
def kept (kb : List Bool) (l : List Int) : Int := l.zipIdx.foldl (fun a x => if kb.getD x.2 false = true then x.1 else a) 0
theorem kept_snoc (kb : List Bool) (l : List Int) (v : Int) : kept kb (l ++ [v]) = if kb.getD l.length false = true then v else kept kb l := by
  unfold kept
  rw [List.zipIdx_append, List.foldl_append]
  simp
theorem head_pad (v : Int) : (bcells (pad [v])).toArray[0]? = some (.int .u8 v) := rfl
theorem now_head (k : Nat) (hk : k < 4) (l : List Int) : (bcells (secOf (ordm k l).now k)).toArray[0]? = some (.int .u8 (want l)) := by
  rcases List.eq_nil_or_concat l with rfl | ⟨l', v, rfl⟩
  · show (bcells (secOf (List.replicate 256 0) k)).toArray[0]? = _
    rw [secOf_rep 256 k (by omega)]
    rfl
  · rw [List.concat_eq_append, ordm_snoc, want_snoc]
    show (bcells (secOf (lay (ordm k l').now (k * 64) (pad [v])) k)).toArray[0]? = _
    rw [lay_sec (pad_length (by simp)) (by rw [ordm_now_len k hk]; omega)]
    rfl
theorem kept_head (k : Nat) (hk : k < 4) (kb : List Bool) : ∀ (n : Nat) (l : List Int), l.length = n → (keptOf kb (List.replicate 256 0) (ordm k l).pend).length = 256 ∧ (bcells (secOf (keptOf kb (List.replicate 256 0) (ordm k l).pend) k)).toArray[0]? = some (.int .u8 (kept kb l))
  | 0, l, h => by
    obtain rfl := List.length_eq_zero_iff.1 h
    refine ⟨(show (List.replicate 256 (0 : Int)).length = 256 from List.length_replicate), ?_⟩
    show (bcells (secOf (List.replicate 256 0) k)).toArray[0]? = _
    rw [secOf_rep 256 k (by omega)]
    rfl
  | n + 1, l, h => by
    rcases List.eq_nil_or_concat l with rfl | ⟨l', v, rfl⟩
    · simp at h
    rw [List.concat_eq_append] at h ⊢
    have hl : l'.length = n := by rw [List.length_append, List.length_singleton] at h; omega
    obtain ⟨h1, h2⟩ := kept_head k hk kb n l' hl
    rw [ordm_snoc, kept_snoc]
    show (keptOf kb (List.replicate 256 0) ((ordm k l').pend ++ [(k, pad [v])])).length = 256 ∧ (bcells (secOf (keptOf kb (List.replicate 256 0) ((ordm k l').pend ++ [(k, pad [v])])) k)).toArray[0]? = _
    rw [keptOf_snoc, show (ordm k l').pend.length = l'.length from List.length_map _]
    by_cases hkk : kb.getD l'.length false = true
    · rw [if_pos hkk, if_pos hkk]
      refine ⟨by rw [lay_length (by show k * 64 + (pad [v]).length ≤ _; rw [pad_length (by simp), h1]; omega)]; exact h1, ?_⟩
      show (bcells (secOf (lay _ (k * 64) (pad [v])) k)).toArray[0]? = _
      rw [lay_sec (pad_length (by simp)) (by rw [h1]; omega)]
      rfl
    · rw [if_neg hkk, if_neg hkk]
      exact ⟨h1, h2⟩
theorem foldl_nowOf_len (k : Nat) (hk : k < 4) (l1 : List Int) (h1 : l1.length = 256) : ∀ (l : List Int) (n : List Int), n.length = 256 → (nowOf l1 n (l.map fun v => (k, pad [v]))).length = 256
  | [], n, h => h
  | v :: l, n, h => by
    show (nowOf l1 (lay n (k * 64) (secOf l1 k)) (l.map _)).length = 256
    refine foldl_nowOf_len k hk l1 h1 l _ ?_
    have hs : (secOf l1 k).length = 64 := by unfold secOf; rw [List.length_take, List.length_drop]; omega
    rw [lay_length (by rw [hs]; omega)]
    exact h
theorem reopened_head (k : Nat) (hk : k < 4) (kb : List Bool) (l : List Int) : (bcells (secOf (reopened kb (ordm k l)).now k)).toArray[0]? = some (.int .u8 (kept kb l)) := by
  obtain ⟨h1, h2⟩ := kept_head k hk kb _ l rfl
  show (bcells (secOf (nowOf (keptOf kb (List.replicate 256 0) (ordm k l).pend) (ordm k l).now (ordm k l).pend) k)).toArray[0]? = _
  rcases List.eq_nil_or_concat l with rfl | ⟨l', v, rfl⟩
  · exact h2
  · rw [List.concat_eq_append] at *
    have hs : (secOf (keptOf kb (List.replicate 256 0) (ordm k (l' ++ [v])).pend) k).length = 64 := by unfold secOf; rw [List.length_take, List.length_drop]; omega
    generalize keptOf kb (List.replicate 256 0) (ordm k (l' ++ [v])).pend = l1 at h1 h2 hs ⊢
    have e : (ordm k (l' ++ [v])).pend = (l'.map fun v => (k, pad [v])) ++ [(k, pad [v])] := by show (l' ++ [v]).map _ = _; rw [List.map_append]; rfl
    rw [e, nowOf_snoc]
    show (bcells (secOf (lay _ (k * 64) (secOf l1 k)) k)).toArray[0]? = _
    rw [lay_sec hs (by rw [foldl_nowOf_len k hk l1 h1 _ _ (ordm_now_len k hk _)]; omega)]
    exact h2
end Go.Proofs.Ytmnfaoihmcofiaa.dk
