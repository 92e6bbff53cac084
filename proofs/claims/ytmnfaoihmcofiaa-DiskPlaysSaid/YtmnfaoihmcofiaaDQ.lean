/- What a sector holds behind a crash. -/
import Derived.Test.YtmnfaoihmcofiaaDP
import Derived.Test.YtmnfaoihmcofiaaDJ
namespace Go.Proofs.Ytmnfaoihmcofiaa.dk
open Go.PlainAid Go.ChangeShapes Go.WideShapes Go.ChangeAt Go.RowKit

theorem lay_other {l : List Int} {i k : Nat} {b : List Int} (hb : b.length = 64) (hl : i * 64 + 64 ≤ l.length) (h : i ≠ k) : secOf (lay l (i * 64) b) k = secOf l k := by
  unfold secOf lay
  apply List.ext_getElem?
  intro j
  by_cases hj : j < 64
  · rw [List.getElem?_take, if_pos hj, List.getElem?_take, if_pos hj, List.getElem?_drop, List.getElem?_drop]
    rcases Nat.lt_or_gt_of_ne h with h | h
    · rw [List.getElem?_append_right (by simp; omega), List.getElem?_drop]
      congr 1
      simp
      omega
    · rw [List.append_assoc, List.getElem?_append_left (by simp; omega), List.getElem?_take, if_pos (by omega)]
  · rw [List.getElem?_take, if_neg hj, List.getElem?_take, if_neg hj]
def Fit (p : List (Nat × List Int)) : Prop := ∀ x ∈ p, x.1 < 8 ∧ x.2.length = 64
theorem Fit.init {p : List (Nat × List Int)} {x : Nat × List Int} (h : Fit (p ++ [x])) : Fit p ∧ x.1 < 8 ∧ x.2.length = 64 := ⟨fun y hy => h y (by simp [hy]), h x (by simp)⟩
def hitOf (kb : List Bool) (k : Nat) (p : List (Nat × List Int)) : Bool := p.zipIdx.any fun x => decide (x.1.1 = k) && kb.getD x.2 false
theorem hitOf_snoc (kb : List Bool) (k : Nat) (p : List (Nat × List Int)) (x : Nat × List Int) : hitOf kb k (p ++ [x]) = (hitOf kb k p || (decide (x.1 = k) && kb.getD p.length false)) := by
  unfold hitOf
  rw [List.zipIdx_append, List.any_append]
  simp
theorem kept_sec (kb : List Bool) (k : Nat) (hk : k < 8) (l : List Int) (hl : l.length = 512) : ∀ (n : Nat) (p : List (Nat × List Int)), p.length = n → Fit p → (keptOf kb l p).length = 512 ∧ (hitOf kb k p = false → secOf (keptOf kb l p) k = secOf l k)
  | 0, p, h, _ => by
    obtain rfl := List.length_eq_zero_iff.1 h
    exact ⟨hl, fun _ => rfl⟩
  | n + 1, p, h, hf => by
    rcases List.eq_nil_or_concat p with rfl | ⟨p', x, rfl⟩
    · simp at h
    rw [List.concat_eq_append] at *
    have hp : p'.length = n := by rw [List.length_append, List.length_singleton] at h; omega
    obtain ⟨f1, f2, f3⟩ := hf.init
    obtain ⟨h1, h2⟩ := kept_sec kb k hk l hl n p' hp f1
    rw [keptOf_snoc, hitOf_snoc]
    by_cases hkk : kb.getD p'.length false = true
    · rw [if_pos hkk]
      refine ⟨by rw [lay_length (by rw [f3, h1]; omega)]; exact h1, fun hh => ?_⟩
      rw [hkk, Bool.and_true, Bool.or_eq_false_iff] at hh
      rw [lay_other f3 (by rw [h1]; omega) (by simpa using hh.2)]
      exact h2 hh.1
    · rw [if_neg hkk]
      refine ⟨h1, fun hh => h2 ?_⟩
      rw [Bool.or_eq_false_iff] at hh
      exact hh.1
theorem secOf_len {l : List Int} (h : l.length = 512) {k : Nat} (hk : k < 8) : (secOf l k).length = 64 := by unfold secOf; rw [List.length_take, List.length_drop]; omega
theorem now_sec (k : Nat) (hk : k < 8) (l : List Int) (hl : l.length = 512) (s : List Int) (hs : secOf l k = s) : ∀ (p : List (Nat × List Int)) (now : List Int), now.length = 512 → Fit p → ((∃ x ∈ p, x.1 = k) ∨ secOf now k = s) → secOf (nowOf l now p) k = s
  | [], now, _, _, h => by
    rcases h with ⟨x, hx, _⟩ | h
    · cases hx
    · exact h
  | x :: p, now, hn, hf, h => by
    have hx := hf x (by simp)
    have hsl := secOf_len hl hx.1
    show secOf (nowOf l (lay now (x.1 * 64) (secOf l x.1)) p) k = s
    refine now_sec k hk l hl s hs p _ (by rw [lay_length (by rw [hsl, hn]; omega)]; exact hn) (fun y hy => hf y (by simp [hy])) ?_
    by_cases hxk : x.1 = k
    · right
      subst hxk
      rw [lay_sec hsl (by rw [hn]; omega)]
      exact hs
    · rcases h with ⟨y, hy, hyk⟩ | h
      · rcases List.mem_cons.1 hy with rfl | hy
        · exact absurd hyk hxk
        · exact .inl ⟨y, hy, hyk⟩
      · right
        rw [lay_other hsl (by rw [hn]; omega) hxk]
        exact h

/-- The disk behind a (written to k, synced) and whatever was written behind it. -/
structure Kp (k : Nat) (l : List Int) (m : Dk) (j : Nat) : Prop where
  n8 : m.n = 8
  laid : m.laid = lay (List.replicate 512 0) (k * 64) (pad l)
  lim : m.limit = -1
  dead : m.dead = false
  pl : m.pend.length ≤ j
  wr : m.writes = 2 + (m.pend.length : Nat)
  now : (∃ x ∈ m.pend, x.1 = k) ∨ secOf m.now k = pad l
theorem Kp.kept {k : Nat} {l : List Int} {m : Dk} {j : Nat} (h : Kp k l m j) (hk : k < 8) (hl : l.length ≤ 64) (kb : List Bool) (hnow : m.now.length = 512) (hf : Fit m.pend) (hh : hitOf kb k m.pend = false) : secOf (reopened kb m).now k = pad l := by
  have hp := pad_length hl
  have hz : (lay (List.replicate 512 (0 : Int)) (k * 64) (pad l)).length = 512 := by rw [lay_length (by rw [hp, List.length_replicate]; omega), List.length_replicate]
  have hs : secOf (lay (List.replicate 512 (0 : Int)) (k * 64) (pad l)) k = pad l := lay_sec hp (by rw [List.length_replicate]; omega)
  obtain ⟨h1, h2⟩ := kept_sec kb k hk _ hz _ m.pend rfl hf
  show secOf (nowOf (keptOf kb m.laid m.pend) m.now m.pend) k = pad l
  rw [h.laid]
  exact now_sec k hk _ h1 _ ((h2 hh).trans hs) m.pend m.now hnow hf h.now
theorem Kp.snoc {k : Nat} {l : List Int} {m : Dk} {j : Nat} (h : Kp k l m j) (hnow : m.now.length = 512) (i : Nat) (hi : i < 8) (b : List Int) (hb : b.length ≤ 64) :
    Kp k l { { m with writes := m.writes + 1 } with now := lay m.now (i * 64) (pad b), pend := m.pend ++ [(i, pad b)] } (j + 1) where
  n8 := h.n8
  laid := h.laid
  lim := h.lim
  dead := h.dead
  pl := by show (m.pend ++ [(i, pad b)]).length ≤ j + 1; rw [List.length_append, List.length_singleton]; have := h.pl; omega
  wr := by show m.writes + 1 = 2 + ((m.pend ++ [(i, pad b)]).length : Nat); rw [List.length_append, List.length_singleton, h.wr]; omega
  now := by
    show (∃ x ∈ m.pend ++ [(i, pad b)], x.1 = k) ∨ secOf (lay m.now (i * 64) (pad b)) k = pad l
    by_cases hik : i = k
    · exact .inl ⟨(i, pad b), by simp, hik⟩
    · rcases h.now with ⟨x, hx, hxk⟩ | hn
      · exact .inl ⟨x, by simp [hx], hxk⟩
      · exact .inr (by rw [lay_other (pad_length hb) (by rw [hnow]; omega) hik]; exact hn)
theorem Kp.more {k : Nat} {l : List Int} {m : Dk} {j : Nat} (h : Kp k l m j) : Kp k l m (j + 1) := { h with pl := by have := h.pl; omega }
theorem Kp.start (k : Nat) (l : List Int) (hk : k < 8) (hl : l.length ≤ 64) : Kp k l { n := 8, laid := lay (List.replicate 512 0) (k * 64) (pad l), now := lay (List.replicate 512 0) (k * 64) (pad l), pend := [], limit := -1, dead := false, writes := 2 } 0 where
  n8 := rfl
  laid := rfl
  lim := rfl
  dead := rfl
  pl := Nat.le_refl _
  wr := rfl
  now := .inr (lay_sec (pad_length hl) (by rw [List.length_replicate]; omega))
end Go.Proofs.Ytmnfaoihmcofiaa.dk
