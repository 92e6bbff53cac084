/- A number's part laid; Encode of one number. -/
import Derived.Test.YtebhbcbcnjdgjaaDoorG
namespace Go.Proofs.YtebhbcbcnjdgjaaDoor.dk
open Go.PlainAid Go.ChangeShapes Go.WideShapes Go.ChangeAt Go.RowKit

theorem dsane_dig {neg : Bool} {l : List Int} {ex : Int} (h : dsane neg l ex = true) (h0 : l ≠ []) : l.length ≤ 40 ∧ (∀ x ∈ l, isDig x = true) ∧ 0 ≤ (l.length : Int) + ex + 1000 ∧ (l.length : Int) + ex + 1000 ≤ 65535 := by
  unfold dsane at h
  rw [if_neg (fun e => h0 (List.length_eq_zero_iff.1 e))] at h
  simp only [Bool.and_eq_true, decide_eq_true_eq] at h
  obtain ⟨⟨⟨⟨⟨h1, _⟩, _⟩, h2⟩, h3⟩, h4⟩ := h
  exact ⟨h1, List.all_eq_true.1 h2, by omega, by omega⟩
set_option maxHeartbeats 4000000 in
set_option maxRecDepth 100000 in
theorem laid_num (w : World) (B m c : Nat) (p : Option Addr) (b : List Int) (neg : Bool) (dg : ByteArray) (ex : Int) (hown : w.ownsRow B 5 1 (.slice p m c) m (bcells b)) (hm : b.length = m) (hm2 : b.length ≤ 100000) (hB : B ≤ w.heap.size) (h0 : 0 < dg.size) (h40 : dg.size ≤ 40) (hdig : ∀ x ∈ unstr dg, isDig x = true) (he0 : 0 ≤ (dg.size : Int) + ex + 1000) (he1 : (dg.size : Int) + ex + 1000 ≤ 65535) :
    Calls Tryd.prog 24 #[.slice p m c, .agg (npart neg dg ex)] w (OPost B w (b ++ nbytes neg (unstr dg) ((dg.size : Int) + ex + 1000))) := by
  have hb : Below w.heap.size w (w.alloc (.cells (npart neg dg ex) 43)) := (Below.refl _ _).alloc (Nat.le_refl _) _
  have ho : (w.alloc (.cells (npart neg dg ex) 43)).ownsRow B 5 1 (.slice p m c) m (bcells b) := owned_keeps hown fun k hk => hb.block k (hown.lt k hk).2
  have HL := Lib.hid (laidNumber_any _ B m c p b neg dg ex ho hm hm2 (Nat.le_trans hB hb.size) h0 h40 hdig he0 he1)
  have HB := Lib.hid (hb.mono hB)
  generalize b ++ nbytes neg (unstr dg) ((dg.size : Int) + ex + 1000) = L at HL ⊢
  unfold npart at HL HB ⊢
  clear hown hb ho hdig
  go_enter Tryd.func24, Tryd.ntmps24
  go_wp2_with fail
  with_reducible refine HL.out.mono ?_
  rintro e w2 ⟨p2, c2, rfl, ho2, hb2⟩
  have hFin : Hid (OPost B w L (.returned (.slice p2 L.length c2)) w2) := ⟨p2, c2, rfl, ho2, HB.out.trans hb2⟩
  clear ho2 hb2 HL
  go_wp2_with fail
  go_ret
  exact hFin.out
set_option maxHeartbeats 4000000 in
set_option maxRecDepth 100000 in
theorem Encode_num (w : World) (g c : Nat) (neg : Bool) (dg : ByteArray) (ex : Int) (hr : w.heap[g]? = some (.cells (npart neg dg ex) 43 (0, 0))) (h0 : 0 < dg.size) (hs : dsane neg (unstr dg) ex = true) :
    Calls Tryd.prog 10 #[.slice (some ⟨g, 0, none⟩) 1 c] w fun e w' => ∃ p2 c2, e = .returned (.tuple #[.slice p2 (nbytes neg (unstr dg) ((dg.size : Int) + ex + 1000)).length c2, .int .i64 0]) ∧ w'.ownsRow w.heap.size 5 1 (.slice p2 (nbytes neg (unstr dg) ((dg.size : Int) + ex + 1000)).length c2) (nbytes neg (unstr dg) ((dg.size : Int) + ex + 1000)).length (bcells (nbytes neg (unstr dg) ((dg.size : Int) + ex + 1000))) ∧ Below w.heap.size w w' := by
  obtain ⟨h40, hdig, he0, he1⟩ := dsane_dig hs (fun e => by have := unstr_length dg; rw [e] at this; simp at this; omega)
  rw [unstr_length] at h40 he0 he1
  obtain ⟨wz, hwz⟩ : ∃ wz, wz = w.alloc (.cells #[] 5) := ⟨_, rfl⟩
  have hrowz : RowB w.heap.size [] wz := by rw [hwz]; exact heap_alloc_new _ _
  have hbz : Below w.heap.size w wz := by rw [hwz]; exact (Below.refl _ _).alloc (Nat.le_refl _) _
  have hrz := (hbz.block g (Array.getElem?_eq_some_iff.1 hr).1).trans hr
  have k : ∀ j, wz.cell? ⟨g, j, none⟩ = (npart neg dg ex)[j]? := fun j => cell_of_row _ _ _ _ _ _ hrz
  have k0 := k 0
  have k1 := k 1
  have k2 := k 2
  have k3 := k 3
  have k4 := k 4
  have k5 := k 5
  have k6 := k 6
  unfold npart at k0 k1 k2 k3 k4 k5 k6
  simp at k0 k1 k2 k3 k4 k5 k6
  have HS := Lib.hid (fun (v : World) => sane_num v neg dg ex (by omega))
  rw [hs] at HS
  have hLA : ∀ (v : World), v.ownsRow w.heap.size 5 1 (.slice (some ⟨w.heap.size, 0, none⟩) 0 0) 0 (bcells []) → w.heap.size ≤ v.heap.size → Calls Tryd.prog 24 #[.slice (some ⟨w.heap.size, 0, none⟩) 0 0, .agg (npart neg dg ex)] v (OPost w.heap.size v (nbytes neg (unstr dg) ((dg.size : Int) + ex + 1000))) := fun v h hv => laid_num v w.heap.size 0 0 _ [] neg dg ex h rfl (by simp) hv h0 h40 hdig he0 he1
  have HLA := Lib.hid hLA
  have Hz := Lib.hid hrowz
  have HBz := Lib.hid hbz
  generalize nbytes neg (unstr dg) ((dg.size : Int) + ex + 1000) = L at HLA ⊢
  unfold npart at HS HLA
  have HWz := Lib.hid hwz
  clear hr hrz k hdig hs hLA hrowz hbz hwz
  go_enter Tryd.func10, Tryd.ntmps10
  go_wp2_with fail
  go_loopw [4, 13] (fun v4 v13 wr => (v13 = .int .i64 0 ∧ v4 = .slice (some ⟨w.heap.size, 0, none⟩) 0 0 ∧ wr = wz) ∨ (∃ p2 c2, v13 = .int .i64 1 ∧ v4 = .slice p2 L.length c2 ∧ Hid (wr.ownsRow w.heap.size 5 1 (.slice p2 L.length c2) L.length (bcells L) ∧ Below w.heap.size w wr))) (fun _ v13 _ => 1 - (intOf v13).toNat)
  case atStart => exact .inl ⟨rfl, rfl, HWz.out.symm⟩
  case round =>
    rcases hrel with ⟨rfl, rfl, rfl⟩ | ⟨p2, c2, rfl, rfl, HO⟩
    · clear HWz
      obtain ⟨w5, hw5⟩ : ∃ w5, w5 = wr.alloc (.cells #[.int .i64 2, .bool false, .bool neg, .string dg, .int .i64 ex, .string ⟨#[]⟩, .int .i64 0] 43) := ⟨_, rfl⟩
      have h5 : w5.heap[wr.heap.size]? = some (.cells #[.int .i64 2, .bool false, .bool neg, .string dg, .int .i64 ex, .string ⟨#[]⟩, .int .i64 0] 43 (0, 0)) := by rw [hw5]; exact heap_alloc_new _ _
      have hb5 : Below wr.heap.size wr w5 := by rw [hw5]; exact (Below.refl _ _).alloc (Nat.le_refl _) _
      have HS5 := HS.out w5
      rw [hw5] at HS5
      have HSS := Lib.hid HS5
      have H5 := Lib.hid h5
      have HB5 := Lib.hid hb5
      have HW5 := Lib.hid hw5
      clear h5 hb5 HS5 hw5
      go_wp2_with fail
      with_reducible refine HSS.out.mono ?_
      rintro e w6 ⟨rfl, hb6⟩
      rw [← HW5.out] at hb6
      have h6 := (hb6.block _ (Array.getElem?_eq_some_iff.1 H5.out).1).trans H5.out
      have q : ∀ j, w6.cell? ⟨wr.heap.size, j, none⟩ = #[.int .i64 2, .bool false, .bool neg, .string dg, .int .i64 ex, .string ⟨#[]⟩, .int .i64 0][j]? := fun j => cell_of_row _ _ _ _ _ _ h6
      have q0 := q 0
      have q1 := q 1
      have q2 := q 2
      have q3 := q 3
      have q4 := q 4
      have q5 := q 5
      have q6 := q 6
      simp at q0 q1 q2 q3 q4 q5 q6
      have hb16 := HB5.out.trans (hb6.mono HB5.out.size)
      have hrow6 := (hb16.block _ Hz.out.lt).trans Hz.out
      have hsz6 : w.heap.size ≤ w6.heap.size := Nat.le_trans HBz.out.size hb16.size
      have HL6 := Lib.hid (HLA.out w6 (row_owned (k := 0) hrow6 rfl (Nat.le_refl _) (by omega)) hsz6)
      have HB6 := Lib.hid (HBz.out.trans (hb16.mono HBz.out.size))
      clear HSS H5 HB5 hb6 h6 q hb16 hrow6 HW5 k0 k1 k2 k3 k4 k5 k6
      go_wp2_with fail
      with_reducible refine HL6.out.mono ?_
      clear HL6
      rintro e w7 ⟨p2, c2, rfl, ho7, hb7⟩
      have HN : Hid (w7.ownsRow w.heap.size 5 1 (.slice p2 L.length c2) L.length (bcells L) ∧ Below w.heap.size w w7) := ⟨ho7, HB6.out.trans hb7⟩
      clear ho7 hb7
      go_wp2_with fail
      constructor
      · exact .inr ⟨p2, c2, rfl, rfl, HN.out⟩
      · show 1 - (1 : Int).toNat < 1 - (0 : Int).toNat
        decide
    · go_wp2_with fail
      go_ret2
      exact ⟨p2, c2, rfl, HO.out⟩
end Go.Proofs.YtebhbcbcnjdgjaaDoor.dk
