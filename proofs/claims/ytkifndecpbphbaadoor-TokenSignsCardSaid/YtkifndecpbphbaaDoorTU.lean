/- TokenSigns. -/
import Derived.Test.YtkifndecpbphbaaDoorTS
namespace Go.Proofs.YtkifndecpbphbaaDoor.dk
open Go.PlainAid Go.ChangeShapes Go.WideShapes Go.ChangeAt Go.RowKit

theorem sg_cell (i : Nat) (hi : i < 28) : (sgs.map Value.string)[i]? = some (.string (sg i)) := by
  have h : i < sgs.size := hi
  rw [Array.getElem?_map, Array.getElem?_eq_getElem h]
  unfold sg
  rw [Array.getD_eq_getD_getElem?, Array.getElem?_eq_getElem h]
  rfl
theorem sg_lit : (#[.string ⟨#[36]⟩, .string ⟨#[64]⟩, .string ⟨#[46]⟩, .string ⟨#[44]⟩, .string ⟨#[58]⟩, .string ⟨#[59]⟩, .string ⟨#[63]⟩, .string ⟨#[42]⟩, .string ⟨#[91]⟩, .string ⟨#[93]⟩, .string ⟨#[40]⟩, .string ⟨#[41]⟩, .string ⟨#[123]⟩, .string ⟨#[125]⟩, .string ⟨#[60]⟩, .string ⟨#[62]⟩, .string ⟨#[33]⟩, .string ⟨#[61]⟩, .string ⟨#[43]⟩, .string ⟨#[45]⟩, .string ⟨#[46, 46]⟩, .string ⟨#[61, 61]⟩, .string ⟨#[33, 61]⟩, .string ⟨#[60, 61]⟩, .string ⟨#[62, 61]⟩, .string ⟨#[38, 38]⟩, .string ⟨#[124, 124]⟩, .string ⟨#[58, 61]⟩] : Array Value) = sgs.map Value.string := by kernel_rfl
theorem sg_one (i : Nat) (hi : i < 28) : (allL (unstr (sg i))).2 = 0 ∧ (allL (unstr (sg i))).1.length = 1 ∧ ((allL (unstr (sg i))).1.getD 0 default).1.kind = 4 ∧ strOf ((allL (unstr (sg i))).1.getD 0 default).1.s = sg i ∧ isNameL (unstr (sg i)) = false ∧ (sg i).size ≤ 2 := by
  have h := one_all ⟨i, hi⟩
  unfold sgOne at h
  simpa [and_assoc] using h
theorem sg_two (i j : Nat) (hi : i < 28) (hj : j < 28) : (allL (unstr (sg i ++ ⟨#[32]⟩ ++ sg j))).2 = 0 ∧ (allL (unstr (sg i ++ ⟨#[32]⟩ ++ sg j))).1.length = 2 ∧ strOf ((allL (unstr (sg i ++ ⟨#[32]⟩ ++ sg j))).1.getD 0 default).1.s = sg i ∧ strOf ((allL (unstr (sg i ++ ⟨#[32]⟩ ++ sg j))).1.getD 1 default).1.s = sg j ∧ ((allL (unstr (sg i ++ ⟨#[32]⟩ ++ sg j))).1.getD 1 default).1.kind = 4 := by
  have h := two_all ⟨i, hi⟩ ⟨j, hj⟩
  unfold sgTwo at h
  simpa [and_assoc] using h
theorem idx28 (a : Int) : ∃ i : Nat, i < 28 ∧ (bits .and .i64 a 65535).tmod 28 = (i : Int) := by
  rw [andm65535, Int.tmod_eq_emod_of_nonneg (by omega)]
  exact ⟨(a % 65536 % 28).toNat, by omega, by omega⟩
set_option maxRecDepth 100000 in
set_option maxHeartbeats 4000000 in
theorem signs_any (w : World) (a b : Int) (hF : utf.Forms w) (mx : Int) (hm : w.cell? ⟨1, 0, none⟩ = some (.int .i64 mx)) :
    Calls Tryd.prog 7 #[.int .i64 a, .int .i64 b] w fun e w' => e = .returned (.bool true) ∧ Below w.heap.size w w' := by
  obtain ⟨i, hi, ha⟩ := idx28 a
  obtain ⟨j, hj, hb⟩ := idx28 b
  have HAw := Lib.hid (awake_any w hF mx hm)
  obtain ⟨o1, o2, o3, o4, o5, o6⟩ := sg_one i hi
  have hsj := (sg_one j hj).2.2.2.2.2
  obtain ⟨t1, t2, t3, t4, t5⟩ := sg_two i j hi hj
  have hA1 := fun v (h : Below w.heap.size w v) => All_any v (sg i) (hF.below h hF.size) (by omega) mx ((h.cell (World.block_lt_of_cell? _ _ hm)).trans hm)
  have hA2 := fun v (h : Below w.heap.size w v) => All_any v (sg i ++ ⟨#[32]⟩ ++ sg j) (hF.below h hF.size) (by rw [ByteArray.size_append, ByteArray.size_append]; show (sg i).size + 1 + (sg j).size ≤ _; omega) mx ((h.cell (World.block_lt_of_cell? _ _ hm)).trans hm)
  have hI := fun v (h : Below w.heap.size w v) => IsName_any v (sg i) (hF.below h hF.size) (by omega)
  rw [o5] at hI
  have HX1 := Lib.hid (And.intro o1 (And.intro o2 (And.intro o3 o4)))
  have HX2 := Lib.hid (And.intro t1 (And.intro t2 (And.intro t3 (And.intro t4 t5))))
  generalize allL (unstr (sg i)) = r1 at HX1 hA1
  generalize allL (unstr (sg i ++ ⟨#[32]⟩ ++ sg j)) = r2 at HX2 hA2
  obtain ⟨l1, e1⟩ := r1
  obtain ⟨l2, e2⟩ := r2
  have HA1 := Lib.hid hA1
  have HA2 := Lib.hid hA2
  have HI := Lib.hid hI
  have HC : Hid (∀ (v : World) (k : Nat), k < 28 → (v.alloc (.cells #[.string ⟨#[36]⟩, .string ⟨#[64]⟩, .string ⟨#[46]⟩, .string ⟨#[44]⟩, .string ⟨#[58]⟩, .string ⟨#[59]⟩, .string ⟨#[63]⟩, .string ⟨#[42]⟩, .string ⟨#[91]⟩, .string ⟨#[93]⟩, .string ⟨#[40]⟩, .string ⟨#[41]⟩, .string ⟨#[123]⟩, .string ⟨#[125]⟩, .string ⟨#[60]⟩, .string ⟨#[62]⟩, .string ⟨#[33]⟩, .string ⟨#[61]⟩, .string ⟨#[43]⟩, .string ⟨#[45]⟩, .string ⟨#[46, 46]⟩, .string ⟨#[61, 61]⟩, .string ⟨#[33, 61]⟩, .string ⟨#[60, 61]⟩, .string ⟨#[62, 61]⟩, .string ⟨#[38, 38]⟩, .string ⟨#[124, 124]⟩, .string ⟨#[58, 61]⟩] 9)).cell? ⟨v.heap.size, k, none⟩ = some (.string (sg k))) := fun v k hk => by
    rw [cell_of_row _ _ k _ _ _ (heap_alloc_new v _), sg_lit]
    exact sg_cell k hk
  have hz : (sg i).size + 1 ≤ 9223372036854775807 ∧ (sg i).size + 1 + (sg j).size ≤ 9223372036854775807 := by omega
  have hz1 := hz.1
  have hz2 := hz.2
  clear o1 o2 o3 o4 o5 o6 t1 t2 t3 t4 t5 hA1 hA2 hI hF hm hz hsj
  go_enter Tryd.func7, Tryd.ntmps7
  go_wp2_with fail
  with_reducible refine HAw.out.mono ?_
  rintro e w1 ⟨rfl, hb1⟩
  go_upto_region 3 with fail
  have hci := HC.out w1 i hi
  have hcj := HC.out w1 j hj
  have hbW : Below w.heap.size w (w1.alloc (.cells #[.string ⟨#[36]⟩, .string ⟨#[64]⟩, .string ⟨#[46]⟩, .string ⟨#[44]⟩, .string ⟨#[58]⟩, .string ⟨#[59]⟩, .string ⟨#[63]⟩, .string ⟨#[42]⟩, .string ⟨#[91]⟩, .string ⟨#[93]⟩, .string ⟨#[40]⟩, .string ⟨#[41]⟩, .string ⟨#[123]⟩, .string ⟨#[125]⟩, .string ⟨#[60]⟩, .string ⟨#[62]⟩, .string ⟨#[33]⟩, .string ⟨#[61]⟩, .string ⟨#[43]⟩, .string ⟨#[45]⟩, .string ⟨#[46, 46]⟩, .string ⟨#[61, 61]⟩, .string ⟨#[33, 61]⟩, .string ⟨#[60, 61]⟩, .string ⟨#[62, 61]⟩, .string ⟨#[38, 38]⟩, .string ⟨#[124, 124]⟩, .string ⟨#[58, 61]⟩] 9)) := hb1.alloc hb1.size _
  have HBW := Lib.hid hbW
  clear hb1 hbW HC
  generalize w1.alloc (.cells #[.string ⟨#[36]⟩, .string ⟨#[64]⟩, .string ⟨#[46]⟩, .string ⟨#[44]⟩, .string ⟨#[58]⟩, .string ⟨#[59]⟩, .string ⟨#[63]⟩, .string ⟨#[42]⟩, .string ⟨#[91]⟩, .string ⟨#[93]⟩, .string ⟨#[40]⟩, .string ⟨#[41]⟩, .string ⟨#[123]⟩, .string ⟨#[125]⟩, .string ⟨#[60]⟩, .string ⟨#[62]⟩, .string ⟨#[33]⟩, .string ⟨#[61]⟩, .string ⟨#[43]⟩, .string ⟨#[45]⟩, .string ⟨#[46, 46]⟩, .string ⟨#[61, 61]⟩, .string ⟨#[33, 61]⟩, .string ⟨#[60, 61]⟩, .string ⟨#[62, 61]⟩, .string ⟨#[38, 38]⟩, .string ⟨#[124, 124]⟩, .string ⟨#[58, 61]⟩] 9) = W2 at hci hcj HBW ⊢
  go_wp2_with fail
  with_reducible refine (HA1.out _ HBW.out).mono ?_
  rintro e w3 ⟨p, c, rfl, hown, hb3⟩
  obtain ⟨h1, h2, h3, h4⟩ := HX1.out
  dsimp only at h1 h2 h3 h4 hown
  have hr := owned_rdT hown
  rw [h2] at hr
  subst h1
  have HR1 := Lib.hid hr
  have HB3 := Lib.hid (HBW.out.trans (hb3.mono HBW.out.size))
  have HK1 := Lib.hid (And.intro h3 h4)
  clear hown hr hb3 HX1 h3 h4 hci hcj HBW
  go_wp2_with fail
  with_reducible refine (HA2.out _ HB3.out).mono ?_
  rintro e w4 ⟨p2, c2, rfl, hown, hb4⟩
  obtain ⟨g1, g2, g3, g4, g5⟩ := HX2.out
  dsimp only at g1 g2 g3 g4 g5 hown
  have hr2 := owned_rdT hown
  rw [g2] at hr2
  subst g1
  have hr1 := HR1.out.below hb4
  obtain ⟨q1, rfl⟩ := hr1.form (by decide)
  obtain ⟨q2, rfl⟩ := hr2.form (by decide)
  have c1 := (hr1.seven 0 (by decide)).1
  have c3 := (hr1.seven 0 (by decide)).2.1
  have d1 := (hr2.seven 0 (by decide)).2.1
  have d2 := (hr2.seven 1 (by decide)).2.1
  have d3 := (hr2.seven 1 (by decide)).1
  rw [HK1.out.1] at c1
  rw [HK1.out.2] at c3
  rw [g3] at d1
  rw [g4] at d2
  rw [g5] at d3
  have HB4 := Lib.hid (HB3.out.trans (hb4.mono HB3.out.size))
  clear hown hr1 hr2 hb4 HX2 HK1 HR1 g3 g4 g5 HB3
  go_wp2_with fail
  with_reducible refine (HI.out _ HB4.out).mono ?_
  rintro e w5 ⟨rfl, hb5⟩
  have HB5 := Lib.hid (HB4.out.trans (hb5.mono HB4.out.size))
  clear hb5 HB4
  go_wp2_with fail
  go_ret
  exact ⟨rfl, HB5.out⟩
end Go.Proofs.YtkifndecpbphbaaDoor.dk
