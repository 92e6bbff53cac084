/- An argument of the document's parts, opened. -/
import Derived.Test.YtebhbcbcnjdgjaaDoorU
import Derived.Test.YtebhbcbcnjdgjaaDoorM
import Derived.Deep.Slices
import Derived.Shelf.Vars
namespace Go.Proofs.YtebhbcbcnjdgjaaDoor.dk
open Go.PlainAid Go.ChangeShapes Go.WideShapes Go.ChangeAt Go.RowKit
open Go.Deep (open_slice choose_lt add_add)

theorem cPart7 : Tryd.prog.cellsOf 46 = 7 := by kernel_rfl
theorem cDec3 : Tryd.prog.cellsOf 25 = 3 := by kernel_rfl
theorem cInt : Tryd.prog.cellsOf 3 = 1 := by kernel_rfl
theorem cBool : Tryd.prog.cellsOf 4 = 1 := by kernel_rfl
theorem cStr : Tryd.prog.cellsOf 9 = 1 := by kernel_rfl
theorem partFields : ∃ f0 f1 f2 f3 f4 : Field, Tryd.prog.underlying 46 = some (.struct #[f0, f1, f2, f3, f4]) ∧ f0.type = 3 ∧ f1.type = 4 ∧ f2.type = 25 ∧ f3.type = 9 ∧ f4.type = 3 ∧ f0.offset = 0 ∧ f1.offset = 1 ∧ f2.offset = 2 ∧ f3.offset = 5 ∧ f4.offset = 6 :=
  ⟨_, _, _, _, _, Tryd.underlying46, rfl, rfl, rfl, rfl, rfl, rfl, rfl, rfl, rfl, rfl⟩
theorem decFields : ∃ f0 f1 f2 : Field, Tryd.prog.underlying 25 = some (.struct #[f0, f1, f2]) ∧ f0.type = 4 ∧ f1.type = 9 ∧ f2.type = 3 ∧ f0.offset = 0 ∧ f1.offset = 1 ∧ f2.offset = 2 :=
  ⟨_, _, _, Tryd.underlying25, rfl, rfl, rfl, rfl, rfl, rfl⟩
set_option maxRecDepth 20000 in
theorem open_parts {H : Type} {enc : TypeId × Value → H} {W : World} {v : Value} {d : DataW H} {p : List MemPlace}
    (hsl : ∃ a n c, v = .slice a n c) (hj : DataW.Trod enc Tryd.prog W 0 (fun _ => true) true 22 v d p) :
    ∃ (a : Option Addr) (n c : Nat) (l : List Pt), v = .slice a n c ∧ RdP W a n l := by
  obtain ⟨a0, n0, c0, rfl⟩ := hsl
  obtain ⟨fuel, hf⟩ := hj
  have hf' : DataW.trod enc Tryd.prog W 0 (fun _ => true) true fuel 22 [.slice a0 n0 c0] = some (d, p) := hf
  rcases open_slice Tryd.underlying22 hf' with ⟨hcs, hx⟩ | ⟨a, n, c, m, fl, Ds, Pl, hcs, _, hl, _, hm, _, hx⟩
  · rw [(List.cons.inj hcs).1]
    exact ⟨none, 0, 0, [], rfl, rfl, fun h => absurd h (by omega)⟩
  · rw [(List.cons.inj hcs).1]
    simp only [if_true] at hm
    rcases Nat.eq_zero_or_pos n with rfl | hn0
    · exact ⟨some a, 0, c, [], rfl, rfl, fun h => absurd h (by omega)⟩
    obtain ⟨b, off, spot⟩ := a
    have hsp : spot = none := by
      obtain ⟨cs', h1, _⟩ := hx 0 (by omega)
      rw [cPart7] at h1
      obtain ⟨_, hlen, hcell⟩ := World.cells?_some h1
      have e0 := hcell 0 (by omega)
      rw [List.getElem?_eq_getElem (by omega)] at e0
      simpa [Addr.add] using World.cell?_spot e0
    subst hsp
    have each : ∀ i, i < n → ∃ q : Pt, b < W.heap.size ∧ ∀ j, j < 7 → W.cell? ⟨b, off + i * 7 + j, none⟩ = (parr q)[j]? := by
      intro i hi
      obtain ⟨cs', h1, h2⟩ := hx i (by omega)
      rw [cPart7] at h1
      obtain ⟨_, hlen, hcell⟩ := World.cells?_some h1
      obtain ⟨f0, f1, f2, f3, f4, hu, t0, t1, t2, t3, t4, o0, o1, o2, o3, o4⟩ := partFields
      obtain ⟨xs, k, hk, hxy, _, hxl, hfd⟩ := DataW.trod_struct hu h2
      match xs, hxl, cs', hlen with
      | [y0, y1, y2, y3, y4], _, [v0, v1, v2, v3, v4, v5, v6], _ =>
        have g0 := hfd 0 f0 rfl
        have g1 := hfd 1 f1 rfl
        have g2 := hfd 2 f2 rfl
        have g3 := hfd 3 f3 rfl
        have g4 := hfd 4 f4 rfl
        rw [t0, o0, cInt] at g0
        rw [t1, o1, cBool] at g1
        rw [t2, o2, cDec3] at g2
        rw [t3, o3, cStr] at g3
        rw [t4, o4, cInt] at g4
        simp at g0 g1 g2 g3 g4
        obtain ⟨f20, f21, f22, hu2, t20, t21, t22, o20, o21, o22⟩ := decFields
        obtain ⟨xs2, k2, hk2, hxy2, _, hxl2, hfd2⟩ := DataW.trod_struct hu2 g2
        match xs2, hxl2 with
        | [z0, z1, z2], _ =>
          have g20 := hfd2 0 f20 rfl
          have g21 := hfd2 1 f21 rfl
          have g22 := hfd2 2 f22 rfl
          rw [t20, o20, cBool] at g20
          rw [t21, o21, cStr] at g21
          rw [t22, o22, cInt] at g22
          simp at g20 g21 g22
          obtain ⟨x0, hv0, _, w0⟩ := DataW.trod_int Tryd.underlying3 g0
          obtain ⟨x1, hv1, _⟩ := DataW.trod_bool Tryd.underlying4 g1
          obtain ⟨x2, hv2, _⟩ := DataW.trod_bool Tryd.underlying4 g20
          obtain ⟨x3, hv3, _⟩ := DataW.trod_string Tryd.underlying9 g21
          obtain ⟨x4, hv4, _, w4⟩ := DataW.trod_int Tryd.underlying3 g22
          obtain ⟨x5, hv5, _⟩ := DataW.trod_string Tryd.underlying9 g3
          obtain ⟨x6, hv6, _, w6⟩ := DataW.trod_int Tryd.underlying3 g4
          obtain rfl := (List.cons.inj hv0).1
          obtain rfl := (List.cons.inj hv1).1
          obtain rfl := (List.cons.inj hv2).1
          obtain rfl := (List.cons.inj hv3).1
          obtain rfl := (List.cons.inj hv4).1
          obtain rfl := (List.cons.inj hv5).1
          obtain rfl := (List.cons.inj hv6).1
          have e0 := hcell 0 (by omega)
          rw [add_add, add_off, ← Nat.add_assoc] at e0
          refine ⟨⟨x0, x1, x2, x3, x4, x5, x6⟩, World.block_lt_of_cell? _ _ e0, fun j hj => ?_⟩
          have ej := hcell j (by omega)
          rw [add_add, add_off, ← Nat.add_assoc] at ej
          rw [ej, ← Array.getElem?_toList]
          rfl
    obtain ⟨os, hos⟩ := choose_lt each
    refine ⟨_, n, c, (List.range n).map os, rfl, by simp, fun h0 => ⟨b, off, rfl, (hos 0 h0).1, fun i hi j hj => ?_⟩⟩
    rw [(hos i hi).2 j hj]
    congr 2
    rw [List.getD_eq_getElem?_getD, List.getElem?_map, List.getElem?_range hi]
    rfl
theorem maxLen_cell (w : World) (h : w.ShapedOpen Tryd.prog) : ∃ m, w.cell? ⟨0, 0, none⟩ = some (.int .i64 m) :=
  Go.Proofs.cell_of_shapedOpen_int (zero := #[.int .i64 0]) (t := 3) h (of_decide_eq_true (by kernel_rfl)) (by kernel_rfl) rfl (by kernel_rfl) (by kernel_rfl) Tryd.underlying3
end Go.Proofs.YtebhbcbcnjdgjaaDoor.dk
