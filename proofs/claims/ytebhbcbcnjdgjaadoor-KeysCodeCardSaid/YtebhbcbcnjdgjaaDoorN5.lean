/- A number, decoded, of whatever capacity. -/
import Derived.Test.YtebhbcbcnjdgjaaDoorN4
namespace Go.Proofs.YtebhbcbcnjdgjaaDoor.dk
open Go.PlainAid Go.ChangeShapes Go.WideShapes Go.ChangeAt Go.RowKit

set_option maxHeartbeats 8000000 in
set_option maxRecDepth 100000 in
theorem firstNumber_one (w : World) (g off : Nat) (l : List Int) (hR : Rd w (some ⟨g, off, none⟩) 1 l) :
    Calls Tryd.prog 49 #[.slice (some ⟨g, off, none⟩) 1 1] w (NPost w (fnum l)) := by
  have hlen := hR.1
  have hd : (l.take 44).drop 1 = [] := List.drop_eq_nil_of_le (by rw [List.length_take]; omega)
  have hf : fnum l = none := by
    unfold fnum
    rw [hd]
    split
    · rfl
    · rfl
  rw [hf]
  have hbw : Below w.heap.size w (w.alloc (.cells pzero 43)) := (Below.refl _ _).alloc (Nat.le_refl _) _
  have hrow := heap_alloc_new w (.cells pzero 43)
  obtain ⟨wa, hwa⟩ : ∃ wa, wa = w.alloc (.cells pzero 43) := ⟨_, rfl⟩
  rw [← hwa] at hrow hbw
  have hsz : wa.heap.size = w.heap.size + 1 := by rw [hwa, box_size]
  have HCl := Lib.hid (Clone_any wa g off 0 0 [] ⟨rfl, fun h => absurd h (by omega)⟩ (by omega))
  have HRow := Lib.hid hrow
  have HBw := Lib.hid hbw
  have HSz := Lib.hid hsz
  have HR := Lib.hid hR
  have HWa := Lib.hid hwa
  unfold pzero at HWa HRow
  clear hR hrow hbw hsz hwa hf hd
  have hmin : min (1 : Int) 44 = 1 := by decide
  go_enter Tryd.func49, Tryd.ntmps49
  go_wp2_with fail
  rw [← HWa.out]
  with_reducible refine HCl.out.mono ?_
  clear HCl
  rintro e w1 ⟨p1, c1, rfl, ho1, hb1⟩
  have a0 := (HR.out.below (HBw.out.trans (hb1.mono (by have := HSz.out; omega)))).cell 0 (by omega)
  rw [Nat.add_zero] at a0
  have hrow1 := (hb1.block w.heap.size (by have := HSz.out; omega)).trans HRow.out
  have HBw1 := Lib.hid (HBw.out.trans (hb1.mono (by have := HSz.out; omega)))
  rw [HSz.out] at ho1 hb1
  have hfl := flip_own w1 (w.heap.size + 1) c1 p1 [] ho1 (fun x hx => by cases hx) (by decide)
  rw [show ([] : List Int).length = 0 from rfl] at hfl
  have HFl := Lib.hid hfl
  clear hfl
  have HRow1 := Lib.hid hrow1
  clear ho1 hrow1 hb1 HRow HBw HWa
  by_cases h48 : l.getD 0 0 = 48
  · rw [h48] at a0
    go_wp2_with fail
    with_reducible refine HFl.out.mono ?_
    rintro e w2 ⟨rfl, ho2, hb2⟩
    have HI := Lib.hid (And.intro ((hb2.block w.heap.size (Nat.lt_succ_self _)).trans HRow1.out) (HBw1.out.trans (hb2.mono (Nat.le_succ _))))
    clear ho2 hb2 HFl HRow1 HBw1
    obtain ⟨⟨z0, z1, z2, z3, z4, z5, z6⟩, y0, y1, y2, y3, y4, y5, y6⟩ := row7 HI.out.1
    have hS := set7 (v0 := .int .i64 0) (v1 := .bool false) (v2 := .bool false) (v3 := .string ⟨#[]⟩) (v4 := .int .i64 0) (v5 := .string ⟨#[]⟩) (v6 := .int .i64 0) HI.out.1 (Nat.le_refl _) HI.out.2
    have HS := Lib.hid hS
    clear hS HI
    go_wp2_with fail
    refine bodyPost_ret (results_row_tmp rfl _ _ w.heap.size _ _ _ _ rfl HS.out.1 Tryd.underlying43 rfl (by kernel_rfl)) rfl ⟨HS.out.2, rfl⟩
  · have f48 : (l.getD 0 0 == 48) = false := beq_eq_false_iff_ne.2 h48
    generalize l.getD 0 0 = x0 at a0 f48 h48
    have HI := Lib.hid (And.intro HRow1.out HBw1.out)
    clear HFl HRow1 HBw1
    obtain ⟨⟨z0, z1, z2, z3, z4, z5, z6⟩, y0, y1, y2, y3, y4, y5, y6⟩ := row7 HI.out.1
    have hS := set7 (v0 := .int .i64 0) (v1 := .bool false) (v2 := .bool false) (v3 := .string ⟨#[]⟩) (v4 := .int .i64 0) (v5 := .string ⟨#[]⟩) (v6 := .int .i64 0) HI.out.1 (Nat.le_refl _) HI.out.2
    have HS := Lib.hid hS
    clear hS HI
    go_wp2_with fail
    refine bodyPost_ret (results_row_tmp rfl _ _ w.heap.size _ _ _ _ rfl HS.out.1 Tryd.underlying43 rfl (by kernel_rfl)) rfl ⟨HS.out.2, rfl⟩
theorem firstNumber_full (w : World) (g off n c : Nat) (l : List Int) (hR : Rd w (some ⟨g, off, none⟩) n l) (hy : Bys l) (h1 : 1 ≤ n) (hnc : n ≤ c) (hn : n ≤ 100000) :
    Calls Tryd.prog 49 #[.slice (some ⟨g, off, none⟩) n c] w (NPost w (fnum l)) := by
  by_cases h : 2 ≤ c
  · exact firstNumber_any w g off n c l hR hy h1 hnc hn h
  · obtain rfl : c = 1 := by omega
    obtain rfl : n = 1 := by omega
    exact firstNumber_one w g off l hR
end Go.Proofs.YtebhbcbcnjdgjaaDoor.dk
