/- An argument of values opened; the part of a value. -/
import Derived.Test.YtebhbcbcnjdgjaaDoorLF
namespace Go.Proofs.YtebhbcbcnjdgjaaDoor.dk
open Go.PlainAid Go.ChangeShapes Go.WideShapes Go.ChangeAt Go.RowKit
open Go.Deep (open_slice choose_lt add_add)

theorem cVal8 : Tryd.prog.cellsOf 29 = 8 := by kernel_rfl
theorem valFields : ∃ f0 f1 f2 f3 f4 f5 : Field, Tryd.prog.underlying 29 = some (.struct #[f0, f1, f2, f3, f4, f5]) ∧ f0.type = 3 ∧ f1.type = 4 ∧ f2.type = 25 ∧ f3.type = 9 ∧ f0.offset = 0 ∧ f1.offset = 1 ∧ f2.offset = 2 ∧ f3.offset = 5 :=
  ⟨_, _, _, _, _, _, Tryd.underlying29, rfl, rfl, rfl, rfl, rfl, rfl, rfl, rfl⟩
set_option maxRecDepth 20000 in
theorem open_val {H : Type} {enc : TypeId × Value → H} {W : World} {base : Nat} {v : Value} {d : DataW H} {p : List MemPlace}
    (hv : Value.okWide Tryd.prog W .any base 29 v) (hj : DataW.Trod enc Tryd.prog W 0 (fun _ => true) true 29 v d p) :
    ∃ (k : Int) (b neg : Bool) (dg : ByteArray) (ex : Int) (s : ByteArray) (x6 x7 : Value), v = .agg #[.int .i64 k, .bool b, .bool neg, .string dg, .int .i64 ex, .string s, x6, x7] := by
  obtain ⟨f0, f1, f2, f3, f4, f5, hu, t0, t1, t2, t3, o0, o1, o2, o3⟩ := valFields
  unfold Value.okWide at hv
  rw [hu] at hv
  obtain ⟨cs, rfl, hsz, _⟩ := hv
  rw [cVal8] at hsz
  obtain ⟨fuel, hf⟩ := hj
  have hf' : DataW.trod enc Tryd.prog W 0 (fun _ => true) true fuel 29 cs.toList = some (d, p) := hf
  obtain ⟨xs, k, hk, hxy, _, hxl, hfd⟩ := DataW.trod_struct hu hf'
  obtain ⟨l⟩ := cs
  match xs, hxl, l, hsz with
  | [y0, y1, y2, y3, y4, y5], _, [v0, v1, v2, v3, v4, v5, v6, v7], _ =>
    have g0 := hfd 0 f0 rfl
    have g1 := hfd 1 f1 rfl
    have g2 := hfd 2 f2 rfl
    have g3 := hfd 3 f3 rfl
    rw [t0, o0, cInt] at g0
    rw [t1, o1, cBool] at g1
    rw [t2, o2, cDec3] at g2
    rw [t3, o3, cStr] at g3
    simp at g0 g1 g2 g3
    obtain ⟨f20, f21, f22, hu2, t20, t21, t22, o20, o21, o22⟩ := decFields
    obtain ⟨xs2, k2, hk2, hxy2, _, hxl2, hfd2⟩ := DataW.trod_struct hu2 g2
    match xs2, hxl2 with
    | [z0, z1, z2], _ =>
      have g20 := hfd2 0 f20 rfl
      have g21 := hfd2 1 f21 rfl
      have g22 := hfd2 2 f22 rfl
      rw [t20, o20, cBool] at g20
      rw [t21, o21, cStr] at g21
      rw [t22, o22, cInt] at g22
      simp at g20 g21 g22
      obtain ⟨x0, hv0, _, w0⟩ := DataW.trod_int Tryd.underlying3 g0
      obtain ⟨x1, hv1, _⟩ := DataW.trod_bool Tryd.underlying4 g1
      obtain ⟨x2, hv2, _⟩ := DataW.trod_bool Tryd.underlying4 g20
      obtain ⟨x3, hv3, _⟩ := DataW.trod_string Tryd.underlying9 g21
      obtain ⟨x4, hv4, _, w4⟩ := DataW.trod_int Tryd.underlying3 g22
      obtain ⟨x5, hv5, _⟩ := DataW.trod_string Tryd.underlying9 g3
      obtain rfl := (List.cons.inj hv0).1
      obtain rfl := (List.cons.inj hv1).1
      obtain rfl := (List.cons.inj hv2).1
      obtain rfl := (List.cons.inj hv3).1
      obtain rfl := (List.cons.inj hv4).1
      obtain rfl := (List.cons.inj hv5).1
      exact ⟨x0, x1, x2, x3, x4, x5, v6, v7, rfl⟩
/-- A value's part. -/
def scal (k : Int) (b neg : Bool) (dg : ByteArray) (ex : Int) (s : ByteArray) : Pt × Bool :=
  if k = 0 then (⟨0, false, false, ⟨#[]⟩, 0, ⟨#[]⟩, 0⟩, true) else if k = 1 then (⟨1, b, false, ⟨#[]⟩, 0, ⟨#[]⟩, 0⟩, true) else
  if k = 2 then (⟨2, false, neg, dg, ex, ⟨#[]⟩, 0⟩, true) else if k = 3 then (⟨3, false, false, ⟨#[]⟩, 0, s, 0⟩, true) else (⟨0, false, false, ⟨#[]⟩, 0, ⟨#[]⟩, 0⟩, false)
set_option maxHeartbeats 2000000 in
set_option maxRecDepth 100000 in
theorem Scalar_ours (w : World) (k : Int) (b neg : Bool) (dg : ByteArray) (ex : Int) (s : ByteArray) (x6 x7 : Value) :
    Calls Tryd.prog 15 #[.agg #[.int .i64 k, .bool b, .bool neg, .string dg, .int .i64 ex, .string s, x6, x7]] w fun e w' => e = .returned (.tuple #[.agg (parr (scal k b neg dg ex s).1), .bool (scal k b neg dg ex s).2]) ∧ Below w.heap.size w w' := by
  have hsz : ∀ cs : Array Value, (w.alloc (.cells cs 29)).heap.size = w.heap.size + 1 := fun cs => box_size w _
  have hB : ∀ cs ds : Array Value, Below w.heap.size w ((w.alloc (.cells cs 29)).alloc (.cells ds 43)) := fun cs ds => ((Below.refl _ _).alloc (Nat.le_refl _) _).alloc (by rw [hsz]; omega) _
  have hN : ∀ cs ds : Array Value, ((w.alloc (.cells cs 29)).alloc (.cells ds 43)).heap[w.heap.size + 1]? = some (.cells ds 43 (0, 0)) := fun cs ds => by
    have := heap_alloc_new (w.alloc (.cells cs 29)) (.cells ds 43)
    rw [hsz] at this
    exact this
  by_cases h0 : k = 0
  · subst h0
    clear hsz
    go_enter Tryd.func15, Tryd.ntmps15
    go_wp2_with fail
    refine bodyPost_ret (results_row_tmp rfl _ _ (w.heap.size + 1) _ _ _ _ rfl (hN _ _) Tryd.underlying43 rfl (by kernel_rfl)) rfl ⟨rfl, hB _ _⟩
  have f0 : (k == 0) = false := beq_eq_false_iff_ne.2 h0
  by_cases h1 : k = 1
  · subst h1
    clear hsz
    go_enter Tryd.func15, Tryd.ntmps15
    go_wp2_with fail
    refine bodyPost_ret (results_row_tmp rfl _ _ (w.heap.size + 1) _ _ _ _ rfl (hN _ _) Tryd.underlying43 rfl (by kernel_rfl)) rfl ⟨rfl, hB _ _⟩
  have f1 : (k == 1) = false := beq_eq_false_iff_ne.2 h1
  by_cases h2 : k = 2
  · subst h2
    clear hsz
    go_enter Tryd.func15, Tryd.ntmps15
    go_wp2_with fail
    refine bodyPost_ret (results_row_tmp rfl _ _ (w.heap.size + 1) _ _ _ _ rfl (hN _ _) Tryd.underlying43 rfl (by kernel_rfl)) rfl ⟨rfl, hB _ _⟩
  have f2 : (k == 2) = false := beq_eq_false_iff_ne.2 h2
  by_cases h3 : k = 3
  · subst h3
    clear hsz
    go_enter Tryd.func15, Tryd.ntmps15
    go_wp2_with fail
    refine bodyPost_ret (results_row_tmp rfl _ _ (w.heap.size + 1) _ _ _ _ rfl (hN _ _) Tryd.underlying43 rfl (by kernel_rfl)) rfl ⟨rfl, hB _ _⟩
  have f3 : (k == 3) = false := beq_eq_false_iff_ne.2 h3
  rw [show scal k b neg dg ex s = (⟨0, false, false, ⟨#[]⟩, 0, ⟨#[]⟩, 0⟩, false) by unfold scal; rw [if_neg h0, if_neg h1, if_neg h2, if_neg h3]]
  clear hsz
  go_enter Tryd.func15, Tryd.ntmps15
  go_wp2_with fail
  refine bodyPost_ret (results_row_tmp rfl _ _ (w.heap.size + 1) _ _ _ _ rfl (hN _ _) Tryd.underlying43 rfl (by kernel_rfl)) rfl ⟨rfl, hB _ _⟩
set_option maxHeartbeats 2000000 in
set_option maxRecDepth 100000 in
theorem Scalar_ref (w : World) (k : Int) (b neg : Bool) (dg : ByteArray) (ex : Int) (s : ByteArray) (x6 x7 : Value) :
    Calls Tryd.prog 16 #[.agg #[.int .i64 k, .bool b, .bool neg, .string dg, .int .i64 ex, .string s, x6, x7]] w fun e w' => e = .returned (.tuple #[.agg (parr (scal k b neg dg ex s).1), .bool (scal k b neg dg ex s).2]) ∧ Below w.heap.size w w' := by
  have hsz : ∀ cs : Array Value, (w.alloc (.cells cs 29)).heap.size = w.heap.size + 1 := fun cs => box_size w _
  have hB : ∀ cs ds : Array Value, Below w.heap.size w ((w.alloc (.cells cs 29)).alloc (.cells ds 46)) := fun cs ds => ((Below.refl _ _).alloc (Nat.le_refl _) _).alloc (by rw [hsz]; omega) _
  have hN : ∀ cs ds : Array Value, ((w.alloc (.cells cs 29)).alloc (.cells ds 46)).heap[w.heap.size + 1]? = some (.cells ds 46 (0, 0)) := fun cs ds => by
    have := heap_alloc_new (w.alloc (.cells cs 29)) (.cells ds 46)
    rw [hsz] at this
    exact this
  by_cases h0 : k = 0
  · subst h0
    clear hsz
    go_enter Tryd.func16, Tryd.ntmps16
    go_wp2_with fail
    refine bodyPost_ret (results_row_tmp rfl _ _ (w.heap.size + 1) _ _ _ _ rfl (hN _ _) Tryd.underlying46 rfl (by kernel_rfl)) rfl ⟨rfl, hB _ _⟩
  have f0 : (k == 0) = false := beq_eq_false_iff_ne.2 h0
  by_cases h1 : k = 1
  · subst h1
    clear hsz
    go_enter Tryd.func16, Tryd.ntmps16
    go_wp2_with fail
    refine bodyPost_ret (results_row_tmp rfl _ _ (w.heap.size + 1) _ _ _ _ rfl (hN _ _) Tryd.underlying46 rfl (by kernel_rfl)) rfl ⟨rfl, hB _ _⟩
  have f1 : (k == 1) = false := beq_eq_false_iff_ne.2 h1
  by_cases h2 : k = 2
  · subst h2
    clear hsz
    go_enter Tryd.func16, Tryd.ntmps16
    go_wp2_with fail
    refine bodyPost_ret (results_row_tmp rfl _ _ (w.heap.size + 1) _ _ _ _ rfl (hN _ _) Tryd.underlying46 rfl (by kernel_rfl)) rfl ⟨rfl, hB _ _⟩
  have f2 : (k == 2) = false := beq_eq_false_iff_ne.2 h2
  by_cases h3 : k = 3
  · subst h3
    clear hsz
    go_enter Tryd.func16, Tryd.ntmps16
    go_wp2_with fail
    refine bodyPost_ret (results_row_tmp rfl _ _ (w.heap.size + 1) _ _ _ _ rfl (hN _ _) Tryd.underlying46 rfl (by kernel_rfl)) rfl ⟨rfl, hB _ _⟩
  have f3 : (k == 3) = false := beq_eq_false_iff_ne.2 h3
  rw [show scal k b neg dg ex s = (⟨0, false, false, ⟨#[]⟩, 0, ⟨#[]⟩, 0⟩, false) by unfold scal; rw [if_neg h0, if_neg h1, if_neg h2, if_neg h3]]
  clear hsz
  go_enter Tryd.func16, Tryd.ntmps16
  go_wp2_with fail
  refine bodyPost_ret (results_row_tmp rfl _ _ (w.heap.size + 1) _ _ _ _ rfl (hN _ _) Tryd.underlying46 rfl (by kernel_rfl)) rfl ⟨rfl, hB _ _⟩
end Go.Proofs.YtebhbcbcnjdgjaaDoor.dk
