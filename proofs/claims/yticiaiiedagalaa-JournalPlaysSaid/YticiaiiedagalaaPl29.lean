/- The two disks answer alike. -/
import Derived.Test.YticiaiiedagalaaPl27
import Derived.Test.YticiaiiedagalaaPl28
namespace Go.Proofs.Yticiaiiedagalaa.dk
open Go.PlainAid Go.ChangeShapes Go.WideShapes Go.ChangeAt Go.RowKit

/-- The program's disk holds what the document's holds. -/
structure Like (n : Nat) (m : Dk) (r : Rk) : Prop where
  n1 : 1 ≤ n
  mn : m.n = n
  sn : r.S.length = n
  ll : m.laid.length = n * 64
  nl : m.now.length = n * 64
  laid : ∀ i, i < n → secOf m.laid i = r.S.getD i []
  now : ∀ i, i < n → secOf m.now i = rat r.S r.P i
  pend : m.pend = r.P
  fit : ∀ x ∈ m.pend, x.1 < n ∧ x.2.length = 64
  lim : m.limit = r.left
  dead : m.dead = r.gone
  cnt : m.writes = r.count
theorem getD_set (S : List (List Int)) (i j : Nat) (b : List Int) (hi : i < S.length) : (S.set i b).getD j [] = if i = j then b else S.getD j [] := by
  rw [List.getD_eq_getElem?_getD, List.getD_eq_getElem?_getD, List.getElem?_set]
  by_cases h : i = j
  · rw [if_pos h, if_pos h, if_pos hi]; rfl
  · rw [if_neg h, if_neg h]
theorem Like.fresh (n : Nat) (h : 1 ≤ n) : Like n (fresh n) (rfresh n) where
  n1 := h
  mn := rfl
  sn := List.length_replicate
  ll := List.length_replicate
  nl := List.length_replicate
  laid := fun i hi => by
    show secOf (List.replicate (n * 64) 0) i = (List.replicate n (List.replicate 64 0)).getD i []
    rw [secOf_rep _ _ (by omega), List.getD_eq_getElem?_getD, List.getElem?_replicate, if_pos hi]
    rfl
  now := fun i hi => by
    show secOf (List.replicate (n * 64) 0) i = (List.replicate n (List.replicate 64 0)).getD i []
    rw [secOf_rep _ _ (by omega), List.getD_eq_getElem?_getD, List.getElem?_replicate, if_pos hi]
    rfl
  pend := rfl
  fit := fun x hx => by cases hx
  lim := rfl
  dead := rfl
  cnt := rfl
theorem Like.write {n : Nat} {m : Dk} {r : Rk} (h : Like n m r) (i : Nat) (hi : i < n) (b : List Int) (hb : b.length = 64) (m1 : Dk) (r1 : Rk) (e1 : m1.n = m.n) (e2 : m1.laid = m.laid) (e3 : m1.now = m.now) (e4 : m1.pend = m.pend) (e5 : r1.S = r.S) (e7 : m1.limit = r1.left) (e8 : m1.dead = r1.gone) (e9 : m1.writes = r1.count) :
    Like n { m1 with now := lay m1.now (i * 64) b, pend := m1.pend ++ [(i, b)] } { r1 with P := r.P ++ [(i, b)] } where
  n1 := h.n1
  mn := e1.trans h.mn
  sn := by show r1.S.length = n; rw [e5]; exact h.sn
  ll := by show m1.laid.length = _; rw [e2]; exact h.ll
  nl := by show (lay m1.now (i * 64) b).length = _; rw [e3, lay_length (by rw [hb, h.nl]; omega)]; exact h.nl
  laid := fun j hj => by show secOf m1.laid j = r1.S.getD j []; rw [e2, e5]; exact h.laid j hj
  now := fun j hj => by
    show secOf (lay m1.now (i * 64) b) j = rat r1.S (r.P ++ [(i, b)]) j
    rw [e3, e5, lay_sec2 hb h.nl hi hj, rat_snoc, h.now j hj]
  pend := by show m1.pend ++ [(i, b)] = r.P ++ [(i, b)]; rw [e4, h.pend]
  fit := fun x hx => by
    have hx' : x ∈ m1.pend ++ [(i, b)] := hx
    rcases List.mem_append.1 hx' with h1 | h1
    · rw [e4] at h1; exact h.fit x h1
    · rw [List.mem_singleton.1 h1]; exact ⟨hi, hb⟩
  lim := e7
  dead := e8
  cnt := e9
theorem laid_like (n : Nat) (l : List Int) (S : List (List Int)) (hl : l.length = n * 64) (hS : S.length = n) (h : ∀ i, i < n → secOf l i = S.getD i []) : ∀ (k : Nat) (p : List (Nat × List Int)), p.length = k → (∀ x ∈ p, x.1 < n ∧ x.2.length = 64) →
    (laidOf l p).length = n * 64 ∧ ∀ i, i < n → secOf (laidOf l p) i = (rlaid S p).getD i []
  | 0, p, hp, _ => by
    obtain rfl := List.length_eq_zero_iff.1 hp
    exact ⟨hl, h⟩
  | k + 1, p, hp, hf => by
    rcases List.eq_nil_or_concat p with rfl | ⟨p', x, rfl⟩
    · simp at hp
    rw [List.concat_eq_append] at *
    have hx := hf x (by simp)
    obtain ⟨h1, h2⟩ := laid_like n l S hl hS h k p' (by rw [List.length_append, List.length_singleton] at hp; omega) (fun y hy => hf y (by simp [hy]))
    rw [laidOf_snoc, rlaid_snoc]
    refine ⟨by rw [lay_length (by rw [hx.2, h1]; omega)]; exact h1, fun i hi => ?_⟩
    rw [lay_sec2 hx.2 h1 hx.1 hi, getD_set _ _ _ _ (by rw [rlaid_length, hS]; exact hx.1), h2 i hi]
theorem kept_like (kb : List Bool) (n : Nat) (l : List Int) (S : List (List Int)) (hl : l.length = n * 64) (hS : S.length = n) (h : ∀ i, i < n → secOf l i = S.getD i []) : ∀ (k : Nat) (p : List (Nat × List Int)), p.length = k → (∀ x ∈ p, x.1 < n ∧ x.2.length = 64) →
    (keptOf kb l p).length = n * 64 ∧ ∀ i, i < n → secOf (keptOf kb l p) i = (rkept kb S p).getD i []
  | 0, p, hp, _ => by
    obtain rfl := List.length_eq_zero_iff.1 hp
    exact ⟨hl, h⟩
  | k + 1, p, hp, hf => by
    rcases List.eq_nil_or_concat p with rfl | ⟨p', x, rfl⟩
    · simp at hp
    rw [List.concat_eq_append] at *
    have hx := hf x (by simp)
    obtain ⟨h1, h2⟩ := kept_like kb n l S hl hS h k p' (by rw [List.length_append, List.length_singleton] at hp; omega) (fun y hy => hf y (by simp [hy]))
    rw [keptOf_snoc, rkept_snoc]
    by_cases hkk : kb.getD p'.length false = true
    · rw [if_pos hkk, if_pos hkk]
      refine ⟨by rw [lay_length (by rw [hx.2, h1]; omega)]; exact h1, fun i hi => ?_⟩
      rw [lay_sec2 hx.2 h1 hx.1 hi, getD_set _ _ _ _ (by rw [rkept_length kb S _ _ rfl, hS]; exact hx.1), h2 i hi]
    · rw [if_neg hkk, if_neg hkk]
      exact ⟨h1, h2⟩
/-- What is read at a sector that is not pending is what is laid. -/
theorem rat_off (S : List (List Int)) (i : Nat) : ∀ (p : List (Nat × List Int)) (d : List Int), (∀ x ∈ p, x.1 ≠ i) → p.foldl (fun s x => if x.1 = i then x.2 else s) d = d
  | [], _, _ => rfl
  | x :: p, d, h => by
    rw [List.foldl_cons, if_neg (h x (by simp))]
    exact rat_off S i p d (fun y hy => h y (by simp [hy]))
theorem now_likeZ (n : Nat) (l : List Int) (hl : l.length = n * 64) (k : Nat) (hk : k < n) : ∀ (p : List (Nat × List Int)) (now : List Int), now.length = n * 64 → (∀ x ∈ p, x.1 < n) → ((∃ x ∈ p, x.1 = k) ∨ secOf now k = secOf l k) → (nowOf l now p).length = n * 64 ∧ secOf (nowOf l now p) k = secOf l k
  | [], now, hn, _, h => by
    rcases h with ⟨x, hx, _⟩ | h
    · cases hx
    · exact ⟨hn, h⟩
  | x :: p, now, hn, hf, h => by
    have hx := hf x (by simp)
    have hsl : (secOf l x.1).length = 64 := by unfold secOf; rw [List.length_take, List.length_drop]; omega
    show (nowOf l (lay now (x.1 * 64) (secOf l x.1)) p).length = n * 64 ∧ secOf (nowOf l (lay now (x.1 * 64) (secOf l x.1)) p) k = secOf l k
    refine now_likeZ n l hl k hk p _ (by rw [lay_length (by rw [hsl, hn]; omega)]; exact hn) (fun y hy => hf y (by simp [hy])) ?_
    rw [lay_sec2 hsl hn hx hk]
    by_cases hxk : x.1 = k
    · right; rw [if_pos hxk, hxk]
    · rw [if_neg hxk]
      rcases h with ⟨y, hy, hyk⟩ | h
      · rcases List.mem_cons.1 hy with rfl | hy
        · exact absurd hyk hxk
        · exact .inl ⟨y, hy, hyk⟩
      · exact .inr h
end Go.Proofs.Yticiaiiedagalaa.dk
/- Sync and Reopen keep the two disks alike. -/
namespace Go.Proofs.Yticiaiiedagalaa.dk
open Go.PlainAid Go.ChangeShapes Go.WideShapes Go.ChangeAt Go.RowKit

theorem rat_laid (n : Nat) (S : List (List Int)) (hS : S.length = n) (i : Nat) : ∀ (k : Nat) (p : List (Nat × List Int)), p.length = k → (∀ x ∈ p, x.1 < n ∧ x.2.length = 64) → rat S p i = (rlaid S p).getD i []
  | 0, p, hp, _ => by
    obtain rfl := List.length_eq_zero_iff.1 hp
    rfl
  | k + 1, p, hp, hf => by
    rcases List.eq_nil_or_concat p with rfl | ⟨p', x, rfl⟩
    · simp at hp
    rw [List.concat_eq_append] at *
    have hx := hf x (by simp)
    rw [rat_snoc, rlaid_snoc, getD_set _ _ _ _ (by rw [rlaid_length, hS]; exact hx.1), rat_laid n S hS i k p' (by rw [List.length_append, List.length_singleton] at hp; omega) (fun y hy => hf y (by simp [hy]))]
theorem rkept_off (kb : List Bool) (n : Nat) (S : List (List Int)) (hS : S.length = n) (i : Nat) : ∀ (k : Nat) (p : List (Nat × List Int)), p.length = k → (∀ x ∈ p, x.1 < n ∧ x.2.length = 64) → (∀ x ∈ p, x.1 ≠ i) → (rkept kb S p).getD i [] = S.getD i []
  | 0, p, hp, _, _ => by
    obtain rfl := List.length_eq_zero_iff.1 hp
    rfl
  | k + 1, p, hp, hf, hi => by
    rcases List.eq_nil_or_concat p with rfl | ⟨p', x, rfl⟩
    · simp at hp
    rw [List.concat_eq_append] at *
    have hx := hf x (by simp)
    have ih := rkept_off kb n S hS i k p' (by rw [List.length_append, List.length_singleton] at hp; omega) (fun y hy => hf y (by simp [hy])) (fun y hy => hi y (by simp [hy]))
    rw [rkept_snoc]
    split
    · rw [getD_set _ _ _ _ (by rw [rkept_length kb S _ _ rfl, hS]; exact hx.1), if_neg (hi x (by simp))]
      exact ih
    · exact ih
theorem Like.sync {n : Nat} {m : Dk} {r : Rk} (h : Like n m r) (m1 : Dk) (r1 : Rk) (e1 : m1.n = m.n) (e2 : m1.laid = m.laid) (e3 : m1.now = m.now) (e4 : m1.pend = m.pend) (e7 : m1.limit = r1.left) (e8 : m1.dead = r1.gone) (e9 : m1.writes = r1.count) :
    Like n { m1 with laid := laidOf m1.laid m1.pend, pend := [] } { r1 with S := rlaid r.S r.P, P := [] } where
  n1 := h.n1
  mn := e1.trans h.mn
  sn := by show (rlaid r.S r.P).length = n; rw [rlaid_length]; exact h.sn
  ll := by show (laidOf m1.laid m1.pend).length = _; rw [e2, e4]; exact (laid_like n m.laid r.S h.ll h.sn h.laid _ m.pend rfl h.fit).1
  nl := by show m1.now.length = _; rw [e3]; exact h.nl
  laid := fun j hj => by show secOf (laidOf m1.laid m1.pend) j = (rlaid r.S r.P).getD j []; rw [e2, e4, ← h.pend]; exact (laid_like n m.laid r.S h.ll h.sn h.laid _ m.pend rfl h.fit).2 j hj
  now := fun j hj => by
    show secOf m1.now j = (rlaid r.S r.P).getD j []
    rw [e3, h.now j hj, ← h.pend]
    exact rat_laid n r.S h.sn j _ m.pend rfl h.fit
  pend := rfl
  fit := fun x hx => by cases hx
  lim := e7
  dead := e8
  cnt := e9
theorem Like.reopen {n : Nat} {m : Dk} {r : Rk} (h : Like n m r) (kb : List Bool) : Like n (reopened kb m) { r with S := rkept kb r.S r.P, P := [], gone := false, left := -1 } := by
  obtain ⟨k1, k2⟩ := kept_like kb n m.laid r.S h.ll h.sn h.laid _ m.pend rfl h.fit
  have hnow : ∀ j, j < n → (nowOf (keptOf kb m.laid m.pend) m.now m.pend).length = n * 64 ∧ secOf (nowOf (keptOf kb m.laid m.pend) m.now m.pend) j = secOf (keptOf kb m.laid m.pend) j := fun j hj => by
    refine now_likeZ n _ k1 j hj m.pend m.now h.nl (fun x hx => (h.fit x hx).1) ?_
    by_cases hex : ∃ x ∈ m.pend, x.1 = j
    · exact .inl hex
    · right
      have hno : ∀ x ∈ m.pend, x.1 ≠ j := fun x hx e => hex ⟨x, hx, e⟩
      rw [k2 j hj, rkept_off kb n r.S h.sn j _ m.pend rfl h.fit hno, h.now j hj, ← h.pend]
      exact rat_off r.S j m.pend _ hno
  exact {
    n1 := h.n1
    mn := h.mn
    sn := by show (rkept kb r.S r.P).length = n; rw [rkept_length kb r.S _ _ rfl]; exact h.sn
    ll := k1
    nl := (hnow 0 h.n1).1
    laid := fun j hj => by show secOf (keptOf kb m.laid m.pend) j = (rkept kb r.S r.P).getD j []; rw [k2 j hj, h.pend]
    now := fun j hj => by show secOf (nowOf (keptOf kb m.laid m.pend) m.now m.pend) j = (rkept kb r.S r.P).getD j []; rw [(hnow j hj).2, k2 j hj, h.pend]
    pend := rfl
    fit := fun x hx => by cases hx
    lim := rfl
    dead := rfl
    cnt := h.cnt }
end Go.Proofs.Yticiaiiedagalaa.dk
