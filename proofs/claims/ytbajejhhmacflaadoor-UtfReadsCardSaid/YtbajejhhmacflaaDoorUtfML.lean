/- The order by marks is the order by ranks; and what a text begins with, by its bytes laid again. -/
import Derived.Test.YtbajejhhmacflaaDoorUtfQ
namespace Go.Proofs.YtbajejhhmacflaaDoor.utf
open Go.PlainAid

/-- The document's mark of a rank: a byte that begins no character stands higher there. -/
def up (x : Int) : Int := if x < 1114112 then x else x + 983040
theorem up_lt (x y : Int) : up x < up y ↔ x < y := by unfold up; split <;> split <;> omega
theorem up_eq (x y : Int) : up x = up y ↔ x = y := by unfold up; split <;> split <;> omega
def marks (l : List Int) : List Int := (ranks l).map up
theorem lx_up : ∀ a b : List Int, lx (a.map up) (b.map up) = lx a b
  | _, [] => by simp [lx]
  | [], _ :: _ => rfl
  | a :: x, b :: y => by
    simp only [List.map_cons, lx, lx_up x y]
    have h1 : decide (up a < up b) = decide (a < b) := by simp [up_lt]
    have h2 : (up a == up b) = (a == b) := Bool.eq_iff_iff.2 (by rw [beq_iff_eq, beq_iff_eq]; exact up_eq a b)
    rw [h1, h2]
theorem lx_marks (a b : List Int) : lx (marks a) (marks b) = lx (ranks a) (ranks b) := lx_up _ _
theorem marks_nil : marks [] = [] := rfl
theorem marks_step {l : List Int} (h : Oct l) (hn : l ≠ []) : marks l = up (rk l).1 :: marks (l.drop (rk l).2.toNat) := by
  unfold marks
  rw [ranks_step h hn]
  rfl

/-- The document's way: the bytes begin with those of r. -/
theorem nxl_of_take {l : List Int} {r : Int} (hr : IsRune r) (h : l.take (enc r).length = enc r) : nxl l = (r, ((enc r).length : Int)) := by
  have e : l.take (enc r).length ++ l.drop (enc r).length = l := List.take_append_drop _ _
  have k : min (enc r).length l.length = (enc r).length := by
    have := congrArg List.length h
    rw [List.length_take] at this
    exact this
  have n := nxl_enc hr (l.drop (enc r).length)
  rw [show enc r ++ l.drop (enc r).length = l by
    conv => lhs; rw [← h]
    rw [show (l.take (enc r).length).length = (enc r).length by rw [List.length_take]; exact k]
    exact e] at n
  exact n
end Go.Proofs.YtbajejhhmacflaaDoor.utf
