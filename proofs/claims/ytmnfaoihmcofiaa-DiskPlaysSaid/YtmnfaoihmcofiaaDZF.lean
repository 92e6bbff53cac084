/- Sync and Reopen keep the two disks alike. -/
import Derived.Test.YtmnfaoihmcofiaaDZE
namespace Go.Proofs.Ytmnfaoihmcofiaa.dk
open Go.PlainAid Go.ChangeShapes Go.WideShapes Go.ChangeAt Go.RowKit

theorem rat_laid (n : Nat) (S : List (List Int)) (hS : S.length = n) (i : Nat) : ∀ (k : Nat) (p : List (Nat × List Int)), p.length = k → (∀ x ∈ p, x.1 < n ∧ x.2.length = 64) → rat S p i = (rlaid S p).getD i []
  | 0, p, hp, _ => by
    obtain rfl := List.length_eq_zero_iff.1 hp
    rfl
  | k + 1, p, hp, hf => by
    rcases List.eq_nil_or_concat p with rfl | ⟨p', x, rfl⟩
    · simp at hp
    rw [List.concat_eq_append] at *
    have hx := hf x (by simp)
    rw [rat_snoc, rlaid_snoc, getD_set _ _ _ _ (by rw [rlaid_length, hS]; exact hx.1), rat_laid n S hS i k p' (by rw [List.length_append, List.length_singleton] at hp; omega) (fun y hy => hf y (by simp [hy]))]
theorem rkept_off (kb : List Bool) (n : Nat) (S : List (List Int)) (hS : S.length = n) (i : Nat) : ∀ (k : Nat) (p : List (Nat × List Int)), p.length = k → (∀ x ∈ p, x.1 < n ∧ x.2.length = 64) → (∀ x ∈ p, x.1 ≠ i) → (rkept kb S p).getD i [] = S.getD i []
  | 0, p, hp, _, _ => by
    obtain rfl := List.length_eq_zero_iff.1 hp
    rfl
  | k + 1, p, hp, hf, hi => by
    rcases List.eq_nil_or_concat p with rfl | ⟨p', x, rfl⟩
    · simp at hp
    rw [List.concat_eq_append] at *
    have hx := hf x (by simp)
    have ih := rkept_off kb n S hS i k p' (by rw [List.length_append, List.length_singleton] at hp; omega) (fun y hy => hf y (by simp [hy])) (fun y hy => hi y (by simp [hy]))
    rw [rkept_snoc]
    split
    · rw [getD_set _ _ _ _ (by rw [rkept_length kb S _ _ rfl, hS]; exact hx.1), if_neg (hi x (by simp))]
      exact ih
    · exact ih
theorem Like.sync {n : Nat} {m : Dk} {r : Rk} (h : Like n m r) (m1 : Dk) (r1 : Rk) (e1 : m1.n = m.n) (e2 : m1.laid = m.laid) (e3 : m1.now = m.now) (e4 : m1.pend = m.pend) (e7 : m1.limit = r1.left) (e8 : m1.dead = r1.gone) (e9 : m1.writes = r1.count) :
    Like n { m1 with laid := laidOf m1.laid m1.pend, pend := [] } { r1 with S := rlaid r.S r.P, P := [] } where
  n1 := h.n1
  mn := e1.trans h.mn
  sn := by show (rlaid r.S r.P).length = n; rw [rlaid_length]; exact h.sn
  ll := by show (laidOf m1.laid m1.pend).length = _; rw [e2, e4]; exact (laid_like n m.laid r.S h.ll h.sn h.laid _ m.pend rfl h.fit).1
  nl := by show m1.now.length = _; rw [e3]; exact h.nl
  laid := fun j hj => by show secOf (laidOf m1.laid m1.pend) j = (rlaid r.S r.P).getD j []; rw [e2, e4, ← h.pend]; exact (laid_like n m.laid r.S h.ll h.sn h.laid _ m.pend rfl h.fit).2 j hj
  now := fun j hj => by
    show secOf m1.now j = (rlaid r.S r.P).getD j []
    rw [e3, h.now j hj, ← h.pend]
    exact rat_laid n r.S h.sn j _ m.pend rfl h.fit
  pend := rfl
  fit := fun x hx => by cases hx
  lim := e7
  dead := e8
  cnt := e9
theorem Like.reopen {n : Nat} {m : Dk} {r : Rk} (h : Like n m r) (kb : List Bool) : Like n (reopened kb m) { r with S := rkept kb r.S r.P, P := [], gone := false, left := -1 } := by
  obtain ⟨k1, k2⟩ := kept_like kb n m.laid r.S h.ll h.sn h.laid _ m.pend rfl h.fit
  have hnow : ∀ j, j < n → (nowOf (keptOf kb m.laid m.pend) m.now m.pend).length = n * 64 ∧ secOf (nowOf (keptOf kb m.laid m.pend) m.now m.pend) j = secOf (keptOf kb m.laid m.pend) j := fun j hj => by
    refine now_like n _ k1 j hj m.pend m.now h.nl (fun x hx => (h.fit x hx).1) ?_
    by_cases hex : ∃ x ∈ m.pend, x.1 = j
    · exact .inl hex
    · right
      have hno : ∀ x ∈ m.pend, x.1 ≠ j := fun x hx e => hex ⟨x, hx, e⟩
      rw [k2 j hj, rkept_off kb n r.S h.sn j _ m.pend rfl h.fit hno, h.now j hj, ← h.pend]
      exact rat_off r.S j m.pend _ hno
  exact {
    n1 := h.n1
    mn := h.mn
    sn := by show (rkept kb r.S r.P).length = n; rw [rkept_length kb r.S _ _ rfl]; exact h.sn
    ll := k1
    nl := (hnow 0 h.n1).1
    laid := fun j hj => by show secOf (keptOf kb m.laid m.pend) j = (rkept kb r.S r.P).getD j []; rw [k2 j hj, h.pend]
    now := fun j hj => by show secOf (nowOf (keptOf kb m.laid m.pend) m.now m.pend) j = (rkept kb r.S r.P).getD j []; rw [(hnow j hj).2, k2 j hj, h.pend]
    pend := rfl
    fit := fun x hx => by cases hx
    lim := rfl
    dead := rfl
    cnt := h.cnt }
end Go.Proofs.Ytmnfaoihmcofiaa.dk
