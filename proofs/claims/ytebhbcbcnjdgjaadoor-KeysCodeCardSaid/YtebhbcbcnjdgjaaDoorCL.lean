/- The part that bytes begin with: the document's answer. -/
import Derived.Test.YtebhbcbcnjdgjaaDoorCJ
import Derived.Test.YtebhbcbcnjdgjaaDoorCK
namespace Go.Proofs.YtebhbcbcnjdgjaaDoor.dk
open Go.PlainAid Go.ChangeShapes Go.WideShapes Go.ChangeAt Go.RowKit

theorem zat_take_some {A : List Int} {k m : Nat} (h : zat A = some k) (hk : k < m) : zat (A.take m) = some k := by
  have e := List.take_append_drop m A
  cases hz : zat (A.take m) with
  | some j =>
    have := zat_app_some _ (A.drop m) j hz
    rw [e, h] at this
    exact this.symm
  | none =>
    have := zat_app_none _ (A.drop m) hz
    rw [e, h] at this
    have hl := zat_lt _ _ h
    have hm : (A.take m).length = min m A.length := List.length_take ..
    cases hd : zat (A.drop m) with
    | none => rw [hd] at this; simp at this
    | some j => rw [hd] at this; simp at this; omega
theorem zat_take_none {A : List Int} {m : Nat} (h : ∀ k, zat A = some k → m ≤ k) : zat (A.take m) = none := by
  cases hz : zat (A.take m) with
  | none => rfl
  | some j =>
    have h1 := zat_app_some _ (A.drop m) j hz
    rw [List.take_append_drop] at h1
    have h2 := zat_lt _ _ hz
    have := h j h1
    rw [List.length_take] at h2
    omega
theorem fsz_take (neg : Bool) (s : List Int) : fsz neg (s.take 43) = fsz neg s := by
  have e : (s.take 43).drop 2 = (s.drop 2).take 41 := by rw [List.drop_take]
  by_cases hl : s.length < 2
  · rw [List.take_of_length_le (by omega)]
  · have hl2 : ¬ (s.take 43).length < 2 := by rw [List.length_take]; omega
    have g : ∀ i, i < 43 → (s.take 43).getD i 0 = s.getD i 0 := fun i hi => by
      rw [List.getD_eq_getElem?_getD, List.getD_eq_getElem?_getD, List.getElem?_take, if_pos hi]
    cases hz : zat (s.drop 2) with
    | none =>
      rw [fsz_short hz, fsz_short (by rw [e]; exact zat_take_none (fun k h => by rw [hz] at h; cases h))]
    | some k =>
      by_cases hk : k < 41
      · have h1 : zat ((s.take 43).drop 2) = some k := by rw [e]; exact zat_take_some hz hk
        by_cases h0 : k = 0
        · rw [fsz_none (S := s) (by rw [hz, h0]), fsz_none (S := s.take 43) (by rw [h1, h0])]
        · have hd : digs (s.take 43) k = digs s k := by
            unfold digs
            rw [e, List.take_take, Nat.min_eq_left (by omega)]
          rw [fsz_val neg hz h0 (by omega), fsz_val neg h1 h0 (by omega), hd, g 0 (by omega), g 1 (by omega)]
      · rw [fsz_short (by rw [e]; exact zat_take_none (fun j h => by rw [hz] at h; injection h with h; omega)), fsz_val neg hz (by omega) (by omega)]
        have hlt := zat_lt _ _ hz
        have hd : (digs s k).length = k := by rw [digs, List.length_map, List.length_take]; omega
        have : dsane neg (digs s k) (s.getD 0 0 * 256 + s.getD 1 0 - 1000 - k) = false := by
          unfold dsane
          rw [if_neg (by omega), hd, decide_eq_false (by omega)]
          simp
        rw [this]
        simp
theorem fnum_neg (l : List Int) (h : l.getD 0 0 = 48) : fnum l = fsz true (flipb (l.drop 1)) := by
  unfold fnum
  rw [if_pos h, show (l.take 44).drop 1 = (l.drop 1).take 43 by rw [List.drop_take]]
  have : flipb ((l.drop 1).take 43) = (flipb (l.drop 1)).take 43 := by unfold flipb; exact List.map_take ..
  rw [this, fsz_take]
theorem fnum_pos (l : List Int) (h : ¬ l.getD 0 0 = 48) : fnum l = fsz false (l.drop 1) := by
  unfold fnum
  rw [if_neg h, show (l.take 44).drop 1 = (l.drop 1).take 43 by rw [List.drop_take], fsz_take]
theorem cell_alloc_old {W : World} {a : Addr} {v : Value} (h : W.cell? a = some v) (o : Obj) : (W.alloc o).cell? a = some v := by
  rw [← h]
  simp only [World.cell?, Below.heap_alloc W o a.block (World.block_lt_of_cell? _ _ h)]
theorem fsz_low {neg : Bool} {s : List Int} {r : Bool × List Int × Int × Nat} (h : fsz neg s = some r) : 4 ≤ r.2.2.2 ∧ True := by
  unfold fsz at h
  split at h
  · simp at h
  · split at h
    · simp at h
    · split at h
      · simp at h
      · split at h
        · simp at h; subst h; exact ⟨by dsimp only; omega, trivial⟩
        · simp at h
end Go.Proofs.YtebhbcbcnjdgjaaDoor.dk
