/- A product's digits; what Mul holds in its loops. -/
import Derived.Test.YtpnhgggdjlglnaaDoorX4
namespace Go.Proofs.YtpnhgggdjlglnaaDoor.dk
open Go.PlainAid Go.ChangeShapes Go.WideShapes Go.ChangeAt Go.RowKit

/-- The first k of F, summed up. -/
def isum (F : Nat → Int) : Nat → Int
  | 0 => 0
  | k + 1 => isum F k + F k
/-- The digits of i places, the highest ahead, and what is carried. -/
def psum (c : Nat → Int) : Nat → Int × List Int
  | 0 => (0, [])
  | i + 1 => (((psum c i).1 + c i) / 10, (48 + ((psum c i).1 + c i) % 10) :: (psum c i).2)
theorem psum_len (c : Nat → Int) : ∀ j, (psum c j).2.length = j
  | 0 => rfl
  | j + 1 => by
    show (_ :: (psum c j).2).length = _
    rw [List.length_cons, psum_len c j]
theorem psum_carry (c : Nat → Int) (hc : ∀ i, 0 ≤ c i ∧ c i ≤ 3240) : ∀ j, 0 ≤ (psum c j).1 ∧ (psum c j).1 ≤ 400
  | 0 => by
    show 0 ≤ (0 : Int) ∧ (0 : Int) ≤ 400
    omega
  | j + 1 => by
    have h1 := psum_carry c hc j
    have h2 := hc j
    show 0 ≤ ((psum c j).1 + c j) / 10 ∧ ((psum c j).1 + c j) / 10 ≤ 400
    omega
theorem psum_dig (c : Nat → Int) : ∀ j, ∀ x ∈ (psum c j).2, isDig x = true
  | 0, x, h => by cases h
  | j + 1, x, h => by
    rcases List.mem_cons.1 h with rfl | h
    · unfold isDig
      simp only [Bool.and_eq_true, decide_eq_true_eq]
      omega
    · exact psum_dig c j x h
theorem isum_range (F : Nat → Int) (hF : ∀ k, 0 ≤ F k ∧ F k ≤ 81) : ∀ k : Nat, 0 ≤ isum F k ∧ isum F k ≤ 81 * (k : Int)
  | 0 => by
    show 0 ≤ (0 : Int) ∧ (0 : Int) ≤ _
    omega
  | k + 1 => by
    have h1 := isum_range F hF k
    have h2 := hF k
    show 0 ≤ isum F k + F k ∧ isum F k + F k ≤ _
    omega
theorem digit_mul {a b : Int} (h1 : 0 ≤ a ∧ a ≤ 9) (h2 : 0 ≤ b ∧ b ≤ 9) : 0 ≤ a * b ∧ a * b ≤ 81 := by
  have := Int.mul_nonneg h1.1 h2.1
  have h3 := Int.mul_le_mul_of_nonneg_right h1.2 h2.1
  omega
/-- What two numbers' digits make at place i, k of the first one's. -/
def pF (l1 l2 : List Int) (e1 e2 : Int) (i k : Nat) : Int := dat l1 e1 (e1 + (k : Int)) * dat l2 e2 (e2 + (i : Int) - (k : Int))
def pC (l1 l2 : List Int) (e1 e2 : Int) (n1 i : Nat) : Int := isum (pF l1 l2 e1 e2 i) (min (i + 1) n1)
/-- A product's digits. -/
def pdig (d1 d2 : ByteArray) (e1 e2 : Int) : List Int := (psum (pC (unstr d1) (unstr d2) e1 e2 d1.size) (d1.size + d2.size)).2
theorem own_lt {w : World} {B : Nat} {t : TypeId} {g n c : Nat} {xs : List Value} (h : w.ownsRow B t 1 (.slice (some ⟨g, 0, none⟩) n c) n xs) : g < w.heap.size := by
  rcases h.2 with ⟨hv, _⟩ | ⟨g', cap, cur, hv, hg, hh, hn, hcm, hcs, ht⟩
  · cases hv
  · injection hv with h1 h2 h3
    have hgg : g' = g := by injection h1 with h1; injection h1 with h1 _ _; exact h1.symm
    subst hgg
    exact lt_of_block hh
structure MJ (w : World) (n1 n2 : Bool) (d1 d2 : ByteArray) (e1 e2 : Int) (g1 h1 g2 h2 G m : Nat) (l : List Int) (W : World) : Prop where
  mi : MI w n1 n2 d1 d2 e1 e2 g1 h1 g2 h2 G m l W
  r9 : W.heap[w.heap.size + 1]? = some (.cells #[.bool n2, .string d2, .int .i64 e2] 23 (0, 0))
theorem MJ.put {w : World} {n1 n2 : Bool} {d1 d2 : ByteArray} {e1 e2 : Int} {g1 h1 g2 h2 G m : Nat} {l : List Int} {W : World} (h : MJ w n1 n2 d1 d2 e1 e2 g1 h1 g2 h2 G m l W) (i : Nat) (x : Int) : MJ w n1 n2 d1 d2 e1 e2 g1 h1 g2 h2 G m (l.set i x) (W.setCell ⟨G, i, none⟩ (.int .u8 x)) := by
  have o0 := h.mi.o0
  exact ⟨h.mi.put i x, ((own_set h.mi.own i (.int .u8 x)).2.2.1 _ (by omega)).trans h.r9⟩
theorem MJ.below {w : World} {n1 n2 : Bool} {d1 d2 : ByteArray} {e1 e2 : Int} {g1 h1 g2 h2 G m : Nat} {l : List Int} {W V : World} (h : MJ w n1 n2 d1 d2 e1 e2 g1 h1 g2 h2 G m l W) (hb : Below W.heap.size W V) : MJ w n1 n2 d1 d2 e1 e2 g1 h1 g2 h2 G m l V := by
  have hk : ∀ {k : Nat} {o : Obj}, W.heap[k]? = some o → V.heap[k]? = some o := fun e => (hb.block _ (lt_of_block e)).trans e
  obtain ⟨a, b, c, d, e, f, g, i, o0, o1, o2, o3, o4⟩ := h.mi
  exact ⟨⟨own_block_keeps a fun q hq => by
    have : q = G := by injection hq with hq; exact hq.symm
    subst this
    exact hb.block _ (own_lt a), hk b, hk c, hk d, hk e, hk f, hk g, i.trans (hb.mono i.size), o0, o1, o2, o3, o4⟩, hk h.r9⟩
def mulN (a b : Nm) : Nm := fmN (a.neg != b.neg) (strOf (pdig a.dg b.dg a.ex b.ex)) (a.ex + b.ex)
def mulV (a b : Nm) : Value := if a.ok = true ∧ b.ok = true then toldN (mulN a b) else .tuple #[Nm.zero.v, .int .i64 1]
end Go.Proofs.YtpnhgggdjlglnaaDoor.dk
