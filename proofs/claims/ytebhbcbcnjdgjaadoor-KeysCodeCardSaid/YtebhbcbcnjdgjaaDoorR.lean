/- Encode of any parts. -/
import Derived.Test.YtebhbcbcnjdgjaaDoorQ
namespace Go.Proofs.YtebhbcbcnjdgjaaDoor.dk
open Go.PlainAid Go.ChangeShapes Go.WideShapes Go.ChangeAt Go.RowKit

instance : Inhabited Pt := ⟨⟨0, false, false, ⟨#[]⟩, 0, ⟨#[]⟩, 0⟩⟩
/-- Parts, as they lie in memory. -/
def RdP (w : World) (p : Option Addr) (n : Nat) (l : List Pt) : Prop := l.length = n ∧ (0 < n → ∃ g off, p = some ⟨g, off, none⟩ ∧ g < w.heap.size ∧ ∀ i, i < n → ∀ j, j < 7 → w.cell? ⟨g, off + i * 7 + j, none⟩ = (parr (l.getD i default))[j]?)
theorem RdP.below {w w' : World} {B : Nat} {p : Option Addr} {n : Nat} {l : List Pt} (h : RdP w p n l) (hb : Below B w w') (hB : w.heap.size ≤ B) : RdP w' p n l := by
  refine ⟨h.1, fun h0 => ?_⟩
  obtain ⟨g, off, rfl, hg, hc⟩ := h.2 h0
  refine ⟨g, off, rfl, Nat.lt_of_lt_of_le hg hb.size, fun i hi j hj => ?_⟩
  rw [← hc i hi j hj]
  have := hb.block g (by omega)
  simp only [World.cell?, this]
/-- Parts' bytes. -/
def encOf (l : List Pt) : List Int := (l.map penc).flatten
theorem encOf_app (a b : List Pt) : encOf (a ++ b) = encOf a ++ encOf b := by unfold encOf; rw [List.map_append, List.flatten_append]
theorem take_get (l : List Pt) (j : Nat) (h : j < l.length) : l.take (j + 1) = l.take j ++ [l.getD j default] := by
  rw [List.take_add_one, List.getElem?_eq_getElem h, List.getD_eq_getElem?_getD, List.getElem?_eq_getElem h]
  rfl
theorem encOf_succ (l : List Pt) (j : Nat) (h : j < l.length) : encOf (l.take (j + 1)) = encOf (l.take j) ++ penc (l.getD j default) := by
  rw [take_get l j h, encOf_app]
  simp [encOf]
theorem encOf_len : ∀ (l : List Pt), (∀ q ∈ l, psane q = true ∧ q.s.size ≤ 1000) → (encOf l).length ≤ 4000 * l.length
  | [], _ => by simp [encOf]
  | q :: l, h => by
    have ih := encOf_len l (fun x hx => h x (List.mem_cons_of_mem _ hx))
    have h1 := h q (List.mem_cons_self ..)
    have h2 := penc_len q h1.1 h1.2
    have e : encOf (q :: l) = penc q ++ encOf l := rfl
    rw [e, List.length_append, List.length_cons]
    omega
/-- What Encode answers. -/
def EPost (w : World) (n : Nat) (l : List Pt) (e : Ending) (w' : World) : Prop :=
  Below w.heap.size w w' ∧
  ((n ≤ 16 ∧ l.all psane = true ∧ ∃ p2 c2, e = .returned (.tuple #[.slice p2 (encOf l).length c2, .int .i64 0]) ∧ w'.ownsRow w.heap.size 5 1 (.slice p2 (encOf l).length c2) (encOf l).length (bcells (encOf l))) ∨
   (¬ (n ≤ 16 ∧ l.all psane = true) ∧ e = .returned (.tuple #[.slice none 0 0, .int .i64 (if n ≤ 16 then 1 else 4)])))
set_option maxHeartbeats 8000000 in
set_option maxRecDepth 100000 in
theorem Encode_any (w : World) (n c : Nat) (p : Option Addr) (l : List Pt) (mx : Int) (hR : RdP w p n l) (hs : ∀ q ∈ l, q.s.size ≤ 1000 ∧ q.dg.size ≤ 1000) (h0 : 0 < w.heap.size) (hmx : w.cell? ⟨0, 0, none⟩ = some (.int .i64 mx)) :
    Calls Tryd.prog 10 #[.slice p n c] w (EPost w n l) := by
  by_cases hn : n ≤ 16
  · have dn : decide ((16 : Int) < (n : Int)) = false := decide_eq_false (by omega)
    have dnn : decide (16 < n) = false := decide_eq_false (by omega)
    obtain ⟨wz, hwz⟩ : ∃ wz, wz = w.alloc (.cells #[] 5) := ⟨_, rfl⟩
    have hrowz : RowB w.heap.size [] wz := by rw [hwz]; exact heap_alloc_new _ _
    have hbz : Below w.heap.size w wz := by rw [hwz]; exact (Below.refl _ _).alloc (Nat.le_refl _) _
    have hoz := row_owned (B := w.heap.size) (k := 0) hrowz rfl (Nat.le_refl _) (by omega)
    have HZ := Lib.hid hoz
    have HBz := Lib.hid hbz
    have HWz := Lib.hid hwz
    have HR := Lib.hid hR
    have HS := Lib.hid hs
    have HM := Lib.hid hmx
    have H0 := Lib.hid h0
    have HN := Lib.hid hn
    clear hR hs hmx h0 hrowz hbz hoz hwz hn
    go_enter Tryd.func10, Tryd.ntmps10
    go_wp2_with fail
    go_loopw [4, 13] (fun v4 v13 wr => ∃ (j : Nat) (p2 : Option Addr) (c2 : Nat), v13 = .int .i64 j ∧ j ≤ n ∧ v4 = .slice p2 (encOf (l.take j)).length c2 ∧ Hid ((∀ q ∈ l.take j, psane q = true) ∧ wr.ownsRow w.heap.size 5 1 (.slice p2 (encOf (l.take j)).length c2) (encOf (l.take j)).length (bcells (encOf (l.take j))) ∧ Below w.heap.size w wr)) (fun _ v13 _ => n - (intOf v13).toNat)
    case atStart => exact ⟨0, some ⟨w.heap.size, 0, none⟩, 0, rfl, Nat.zero_le _, rfl, Lib.hid ⟨fun q hq => by simp at hq, HWz.out ▸ HZ.out, HWz.out ▸ HBz.out⟩⟩
    case round =>
      obtain ⟨j, p2, c2, rfl, hj, rfl, HI⟩ := hrel
      clear HWz HZ HBz
      by_cases hjn : j < n
      · have dj : decide ((j : Int) < (n : Int)) = true := decide_eq_true (by omega)
        have djn : decide (j < n) = true := decide_eq_true hjn
        obtain ⟨hlen, hcs⟩ := HR.out
        obtain ⟨g, off, rfl, hg, hc⟩ := hcs (by omega)
        have hcj := hc j hjn
        obtain ⟨hps, hown, hbel⟩ := HI.out
        obtain ⟨q, hq⟩ : ∃ q, l.getD j default = q := ⟨_, rfl⟩
        have hqm : q ∈ l := by rw [← hq, List.getD_eq_getElem?_getD, List.getElem?_eq_getElem (by omega)]; exact List.getElem_mem _
        obtain ⟨hq1, hq2⟩ := HS.out q hqm
        rw [hq] at hcj
        have hnn := HN.out
        have hlb : (encOf (l.take j)).length ≤ 100000 := by
          have := encOf_len (l.take j) (fun x hx => ⟨hps x hx, (HS.out x (List.mem_of_mem_take hx)).1⟩)
          rw [List.length_take] at this
          omega
        have esucc := encOf_succ l j (by omega)
        rw [hq] at esucc
        have hall : psane q = false → l.all psane = false := fun h => by
          rw [List.all_eq_false]
          exact ⟨q, hqm, by rw [h]; decide⟩
        have hps2 : psane q = true → ∀ x ∈ l.take (j + 1), psane x = true := fun h x hx => by
          rw [take_get l j (by omega), List.mem_append] at hx
          rcases hx with hx | hx
          · exact hps x hx
          · rw [List.mem_singleton.1 hx, hq]; exact h
        have hLA : ∀ (v : World), Below wr.heap.size wr v → psane q = true → Calls Tryd.prog 24 #[.slice p2 (encOf (l.take j)).length c2, .agg (parr q)] v (OPost w.heap.size v (encOf (l.take j) ++ penc q)) := fun v hv hsn => by
          have ho : v.ownsRow w.heap.size 5 1 (.slice p2 (encOf (l.take j)).length c2) (encOf (l.take j)).length (bcells (encOf (l.take j))) := owned_keeps hown fun k hk => hv.block k (hown.lt k hk).2
          exact laid_any q hsn hq1 mx v w.heap.size _ c2 p2 _ ho rfl hlb (Nat.le_trans hbel.size hv.size) H0.out (by rw [cell_kept (hbel.trans (hv.mono hbel.size)) H0.out]; exact HM.out)
        have hSA : ∀ (v : World), Calls Tryd.prog 23 #[.agg (parr q)] v fun e w' => e = .returned (.bool (psane q)) ∧ Below v.heap.size v w' := fun v => sane_any v q (by omega)
        have hcw : ∀ (v : World), Below wr.heap.size wr v → ∀ i, i < 7 → v.cell? ⟨g, off + j * 7 + i, none⟩ = (parr q)[i]? := fun v hv i hi => by
          have h1 := (hbel.trans (hv.mono hbel.size)).block g hg
          rw [← hcj i hi]
          simp only [World.cell?, h1]
        rw [← esucc] at hLA
        generalize psane q = sn at hall hps2 hLA hSA
        generalize hL2 : encOf (l.take (j + 1)) = L2 at hLA
        have HL2 := Lib.hid hL2
        clear hL2
        generalize (encOf (l.take j)).length = n1 at hLA ⊢
        obtain ⟨k, x, neg, dg, ex, s, i⟩ := q
        unfold parr at hLA hSA hcw
        dsimp only at hLA hSA hcw
        have k0 := hcw wr (Below.refl _ _) 0 (by omega)
        have k1 := hcw wr (Below.refl _ _) 1 (by omega)
        have k2 := hcw wr (Below.refl _ _) 2 (by omega)
        have k3 := hcw wr (Below.refl _ _) 3 (by omega)
        have k4 := hcw wr (Below.refl _ _) 4 (by omega)
        have k5 := hcw wr (Below.refl _ _) 5 (by omega)
        have k6 := hcw wr (Below.refl _ _) 6 (by omega)
        simp at k0 k1 k2 k3 k4 k5 k6
        obtain ⟨w5, hw5⟩ : ∃ w5, w5 = wr.alloc (.cells #[.int .i64 k, .bool x, .bool neg, .string dg, .int .i64 ex, .string s, .int .i64 i] 43) := ⟨_, rfl⟩
        have h5 : w5.heap[wr.heap.size]? = some (.cells #[.int .i64 k, .bool x, .bool neg, .string dg, .int .i64 ex, .string s, .int .i64 i] 43 (0, 0)) := by rw [hw5]; exact heap_alloc_new _ _
        have hb5 : Below wr.heap.size wr w5 := by rw [hw5]; exact (Below.refl _ _).alloc (Nat.le_refl _) _
        have HSS := Lib.hid (hSA w5)
        rw [hw5] at HSS
        have H5 := Lib.hid h5
        have HB5 := Lib.hid hb5
        have HW5 := Lib.hid hw5
        have HLA := Lib.hid hLA
        have HAll := Lib.hid hall
        have HPs := Lib.hid hps2
        have HBl := Lib.hid hbel
        clear h5 hb5 hw5 hLA hall hps2 hSA hcw hown hps hbel hqm hq1 hq2 hcj hc hlen hcs hg hnn hlb esucc
        go_wp2_with fail
        with_reducible refine HSS.out.mono ?_
        clear HSS
        rintro e w6 ⟨rfl, hb6⟩
        rw [← HW5.out] at hb6
        have h6 := (hb6.block _ (Array.getElem?_eq_some_iff.1 H5.out).1).trans H5.out
        have q := fun j => cell_of_row _ _ j _ _ _ h6
        have q0 := q 0
        have q1 := q 1
        have q2 := q 2
        have q3 := q 3
        have q4 := q 4
        have q5 := q 5
        have q6 := q 6
        simp at q0 q1 q2 q3 q4 q5 q6
        have hb16 := HB5.out.trans (hb6.mono HB5.out.size)
        have HB6 := Lib.hid (HBl.out.trans (hb16.mono HBl.out.size))
        cases sn with
        | false =>
          have hF := HAll.out rfl
          clear hb6 h6 q hb16 HW5 H5 HB5 k0 k1 k2 k3 k4 k5 k6 HLA
          go_wp2_with fail
          go_ret2
          refine ⟨HB6.out, .inr ⟨fun h => ?_, ?_⟩⟩
          · rw [hF] at h; exact absurd h.2 (by decide)
          · rw [if_pos HN.out]; rfl
        | true =>
          have HL6 := Lib.hid (HLA.out w6 hb16 rfl)
          clear HLA hb6 h6 q hb16 HW5 H5 HB5 k0 k1 k2 k3 k4 k5 k6
          go_wp2_with fail
          with_reducible refine HL6.out.mono ?_
          clear HL6
          rintro e w7 ⟨p3, c3, rfl, ho7, hb7⟩
          have HN2 := Lib.hid (And.intro ho7 (HB6.out.trans hb7))
          clear ho7 hb7
          have hnn := HN.out
          go_wp2_with fail
          exact ⟨⟨j + 1, p3, c3, by go_num, by omega, by rw [HL2.out], Lib.hid ⟨HPs.out trivial, by rw [HL2.out]; exact HN2.out.1, HN2.out.2⟩⟩, by show n - ((j : Int) + 1).toNat < n - (j : Int).toNat; omega⟩
      · have dj : decide ((j : Int) < (n : Int)) = false := decide_eq_false (by omega)
        have djn : decide (j < n) = false := decide_eq_false hjn
        obtain rfl : j = n := by omega
        have hlen := HR.out.1
        have et : l.take j = l := by rw [← hlen, List.take_length]
        rw [et] at HI ⊢
        go_wp2_with fail
        go_ret2
        exact ⟨HI.out.2.2, .inl ⟨HN.out, List.all_eq_true.2 HI.out.1, p2, c2, rfl, HI.out.2.1⟩⟩
  · have dn : decide ((16 : Int) < (n : Int)) = true := decide_eq_true (by omega)
    have dnn : decide (16 < n) = true := decide_eq_true (by omega)
    go_enter Tryd.func10, Tryd.ntmps10
    go_wp2_with fail
    go_ret2
    exact ⟨Below.refl _ _, .inr ⟨fun h => hn h.1, by rw [if_neg hn]; rfl⟩⟩
end Go.Proofs.YtebhbcbcnjdgjaaDoor.dk
