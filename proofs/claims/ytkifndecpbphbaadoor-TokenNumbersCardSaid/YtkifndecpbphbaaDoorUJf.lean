/- What the row's list gives: the table of forms lies in its variable. -/
import Derived.Test.YtkifndecpbphbaaDoorUtfS
import Derived.LaidLaws
import Derived.LaidMore
import Derived.Test.YtkifndecpbphbaaDoorUJd
import Derived.Carry
import Derived.SizedLaws
namespace Go.Proofs.YtkifndecpbphbaaDoor.utf
open Go.PlainAid Go.ChangeShapes Go.WideShapes Go.ChangeAt Go.RowKit

set_option maxRecDepth 100000 in
theorem gForms : Tryd.prog.globalNamed "orangery/utf.forms" = some 0 := by kernel_rfl
set_option maxRecDepth 100000 in
theorem tForms : (Tryd.prog.globals[0]?).map (·.type) = some 61 := by kernel_rfl
set_option maxRecDepth 100000 in
theorem cForm : Tryd.prog.cellsOf 60 = 5 := by kernel_rfl
set_option maxRecDepth 100000 in
theorem cForms : Tryd.prog.cellsOf 61 = 40 := by kernel_rfl
set_option maxRecDepth 100000 in
theorem cByte : Tryd.prog.cellsOf 5 = 1 := by kernel_rfl
set_option maxRecDepth 100000 in
theorem cInt : Tryd.prog.cellsOf 3 = 1 := by kernel_rfl

section
variable {H : Type} {enc : TypeId × Value → H} {W : World} {base : Nat} {sp : Nat → Bool} {held : Bool} {fuel : Nat}

set_option maxRecDepth 100000 in
theorem one_int {T : TypeId} {k : IntKind} {c : List Value} {n : Int} {p : List MemPlace} (hT : Tryd.prog.underlying T = some (.int k)) (h : DataW.trod enc Tryd.prog W base sp held fuel T c = some (.lit (.int k n), p)) : c = [.int k n] := by
  obtain ⟨m, e1, e2, _⟩ := DataW.trod_int hT h
  simp only [Prod.mk.injEq, DataW.lit.injEq, Lit.int.injEq, true_and] at e2
  rw [e1, e2.1]

set_option maxRecDepth 100000 in
theorem form_cells {cs : List Value} {a b c d e : Int} {p : List MemPlace}
    (h : DataW.trod enc Tryd.prog W base sp held fuel 60 cs = some (.agg [.lit (.int .u8 a), .lit (.int .u8 b), .lit (.int .i64 c), .lit (.int .u8 d), .lit (.int .u8 e)], p)) :
    cs = [.int .u8 a, .int .u8 b, .int .i64 c, .int .u8 d, .int .u8 e] := by
  obtain ⟨xs, n, _, hx, hl, hlen, hf⟩ := DataW.trod_struct Tryd.underlying60 h
  rw [cForm] at hl
  match cs, hl, xs, hlen with
  | [c0, c1, c2, c3, c4], _, [x0, x1, x2, x3, x4], _ =>
    simp only [Prod.mk.injEq, List.map_cons, List.map_nil, DataW.agg.injEq, List.cons.injEq, and_true] at hx
    obtain ⟨⟨h0, h1, h2, h3, h4⟩, _⟩ := hx
    have f0 : DataW.trod enc Tryd.prog W base sp held n 5 (([c0, c1, c2, c3, c4].drop 0).take (Tryd.prog.cellsOf 5)) = some x0 := hf 0 _ rfl
    have f1 : DataW.trod enc Tryd.prog W base sp held n 5 (([c0, c1, c2, c3, c4].drop 1).take (Tryd.prog.cellsOf 5)) = some x1 := hf 1 _ rfl
    have f2 : DataW.trod enc Tryd.prog W base sp held n 3 (([c0, c1, c2, c3, c4].drop 2).take (Tryd.prog.cellsOf 3)) = some x2 := hf 2 _ rfl
    have f3 : DataW.trod enc Tryd.prog W base sp held n 5 (([c0, c1, c2, c3, c4].drop 3).take (Tryd.prog.cellsOf 5)) = some x3 := hf 3 _ rfl
    have f4 : DataW.trod enc Tryd.prog W base sp held n 5 (([c0, c1, c2, c3, c4].drop 4).take (Tryd.prog.cellsOf 5)) = some x4 := hf 4 _ rfl
    rw [cByte] at f0 f1 f3 f4
    rw [cInt] at f2
    obtain ⟨x0, q0⟩ := x0
    obtain ⟨x1, q1⟩ := x1
    obtain ⟨x2, q2⟩ := x2
    obtain ⟨x3, q3⟩ := x3
    obtain ⟨x4, q4⟩ := x4
    subst h0 h1 h2 h3 h4
    have g0 := one_int Tryd.underlying5 f0
    have g1 := one_int Tryd.underlying5 f1
    have g2 := one_int Tryd.underlying3 f2
    have g3 := one_int Tryd.underlying5 f3
    have g4 := one_int Tryd.underlying5 f4
    have k0 : c0 = _ := (List.cons.inj g0).1
    have k1 : c1 = _ := (List.cons.inj g1).1
    have k2 : c2 = _ := (List.cons.inj g2).1
    have k3 : c3 = _ := (List.cons.inj g3).1
    have k4 : c4 = _ := (List.cons.inj g4).1
    rw [k0, k1, k2, k3, k4]

set_option maxRecDepth 100000 in
theorem chunk {α : Type} (l : List α) (k : Nat) : l.drop (5 * k) = (l.drop (k * 5)).take 5 ++ l.drop (5 * (k + 1)) := by
  rw [show l.drop (5 * (k + 1)) = (l.drop (k * 5)).drop 5 by rw [List.drop_drop]; congr 1; omega, List.take_append_drop]
  congr 1
  omega

set_option maxRecDepth 100000 in
theorem forms_cells {cs : List Value} {p : List MemPlace} (h : DataW.trod enc Tryd.prog W base sp held fuel 61 cs = some (Rows.laid_orangery_utf_forms, p)) : cs = formsCells.toList := by
  obtain ⟨xs, n, _, hx, hl, hlen, hel⟩ := DataW.trod_array Tryd.underlying61 h
  rw [cForms] at hl
  match xs, hlen with
  | [x0, x1, x2, x3, x4, x5, x6, x7], _ =>
    unfold Rows.laid_orangery_utf_forms at hx
    simp only [Prod.mk.injEq, List.map_cons, List.map_nil, DataW.agg.injEq, List.cons.injEq, and_true] at hx
    obtain ⟨⟨h0, h1, h2, h3, h4, h5, h6, h7⟩, _⟩ := hx
    obtain ⟨x0, q0⟩ := x0
    obtain ⟨x1, q1⟩ := x1
    obtain ⟨x2, q2⟩ := x2
    obtain ⟨x3, q3⟩ := x3
    obtain ⟨x4, q4⟩ := x4
    obtain ⟨x5, q5⟩ := x5
    obtain ⟨x6, q6⟩ := x6
    obtain ⟨x7, q7⟩ := x7
    subst h0 h1 h2 h3 h4 h5 h6 h7
    have e0 := form_cells (hel 0 (by decide))
    have e1 := form_cells (hel 1 (by decide))
    have e2 := form_cells (hel 2 (by decide))
    have e3 := form_cells (hel 3 (by decide))
    have e4 := form_cells (hel 4 (by decide))
    have e5 := form_cells (hel 5 (by decide))
    have e6 := form_cells (hel 6 (by decide))
    have e7 := form_cells (hel 7 (by decide))
    rw [cForm] at e0 e1 e2 e3 e4 e5 e6 e7
    have c0 := chunk cs 0
    rw [e0, chunk cs 1, e1, chunk cs 2, e2, chunk cs 3, e3, chunk cs 4, e4, chunk cs 5, e5, chunk cs 6, e6, chunk cs 7, e7, List.drop_of_length_le (show cs.length ≤ 5 * (7 + 1) by omega)] at c0
    exact c0
end

set_option maxRecDepth 100000 in
theorem forms_of_var {W : World} {cs : Array Value} (h : W.var? Tryd.prog "orangery/utf.forms" = some cs) (hc : cs.toList = formsCells.toList) : Forms W := by
  unfold World.var? at h
  rw [gForms] at h
  simp only [Option.bind_some] at h
  match hb : W.heap[0]?, h with
  | some (.cells c t fr), h =>
    simp only [Option.some.injEq] at h
    subst h
    exact ⟨t, fr, by rw [hb]; congr 2; exact Array.toList_inj.1 hc⟩

set_option maxRecDepth 100000 in
theorem forms_of_laid {W : World} (h : laidMetH Tryd.prog [("orangery/utf.forms", Rows.laid_orangery_utf_forms)] W) : Forms W := by
  rw [MakeChecks.laidMetH_plain _ _ _ (by kernel_rfl)] at h
  obtain ⟨ps, ⟨g0, t0, cs0, f0, p0, q0, hg0, ht0, hv0, hd0, _, _⟩, _, _⟩ := h
  obtain rfl := Option.some.inj (gForms.symm.trans hg0)
  obtain rfl := Option.some.inj (tForms.symm.trans ht0)
  exact forms_of_var hv0 (forms_cells hd0)
end Go.Proofs.YtkifndecpbphbaaDoor.utf
/- What serves every row's frame: arguments of bytes opened; what was read before the call reads the same behind it. -/
namespace Go.Proofs.YtkifndecpbphbaaDoor.utf
open Go.PlainAid Go.ChangeShapes Go.WideShapes Go.ChangeAt Go.RowKit

theorem laidOut : laidOutB Tryd.prog = true := by kernel_rfl

theorem trodAll_below {H : Type} {enc : TypeId × Value → H} {W W' : World} (hb : Below W.heap.size W W') :
    ∀ {ts : List TypeId} {vs : List Value} {ds : List (DataW H)} {ps : List MemPlace}, DataW.TrodAll enc Tryd.prog W 0 (fun _ => true) true ts vs ds ps →
    (∀ t ∈ ts, Tryd.prog.readableRec t = true ∧ t < Tryd.prog.types.size) → (∀ x ∈ ps, x.block < W.heap.size) →
    DataW.TrodAll enc Tryd.prog W' 0 (fun b => decide (b < W.heap.size)) true ts vs ds ps
  | [], [], [], _, h, _, _ => h
  | t :: ts, v :: vs, d :: ds, ps, h, hr, hlt => by
    obtain ⟨p, q, h1, h2, rfl⟩ := h
    have hk := hr t (List.mem_cons_self ..)
    exact ⟨p, q, Below.trod laidOut hk.1 hk.2 h1 hb (fun x hx => hlt x (List.mem_append_left _ hx)), trodAll_below hb h2 (fun t' ht' => hr t' (List.mem_cons_of_mem _ ht')) (fun x hx => hlt x (List.mem_append_right _ hx)), rfl⟩

theorem cByte1 : Tryd.prog.cellsOf 5 = 1 := by kernel_rfl
theorem bytesByte : Tryd.prog.bytesOf 5 = 1 := by kernel_rfl
/-- An argument of bytes: nil, or a slice; what it reads as. -/
theorem open_bytes {H : Type} {enc : TypeId × Value → H} {W : World} {v : Value} {d : DataW H} {p : List MemPlace} (hsl : ∃ a n c, v = .slice a n c)
    (hj : DataW.Trod enc Tryd.prog W 0 (fun _ => true) true 33 v d p) :
    (v = .slice none 0 0 ∧ d = .nil) ∨ ∃ (a : Addr) (n c : Nat) (el sp : List (DataW H)) (l : List Int), v = .slice (some a) n c ∧ d = .slice el sp ∧ el.length = n ∧ l.length = n ∧ Oct l ∧ Bs W v l := by
  obtain ⟨a0, n0, c0, rfl⟩ := hsl
  obtain ⟨fuel, hf⟩ := hj
  have hf' : DataW.trod enc Tryd.prog W 0 (fun _ => true) true fuel 33 [.slice a0 n0 c0] = some (d, p) := hf
  rcases open_ints Tryd.underlying33 Tryd.underlying5 cByte1 hf' with ⟨hcs, hx⟩ | ⟨a, n, c, zs, hcs, _, hl, hm, hz, hx, hcell, hwf⟩
  · refine .inl ⟨?_, (Prod.mk.inj hx).1⟩
    exact (List.cons.inj hcs).1
  · have hv : Value.slice a0 n0 c0 = .slice (some a) n c := (List.cons.inj hcs).1
    have hd : d = .slice (lits .u8 (zs.take n)) (lits .u8 (zs.drop n)) := (Prod.mk.inj hx).1
    simp only [if_true] at hz
    have hln : (zs.take n).length = n := by simp; omega
    have hO : Oct (zs.take n) := by
      intro x hx
      have := hwf x (List.mem_of_mem_take hx)
      simpa [Lit.wf, IntKind.min, IntKind.max, IntKind.signed, IntKind.bits] using this
    refine .inr ⟨a, n, c, _, _, zs.take n, hv, hd, by simp [lits]; omega, hln, hO, ?_⟩
    rw [hv]
    by_cases h0 : n = 0
    · subst h0; exact .inl ⟨_, _, rfl, rfl⟩
    obtain ⟨b, off, rfl, hc⟩ := ints_at hcell (by omega)
    refine .inr ⟨b, off, c, by rw [hln], by omega, by omega, ?_, fun i hi => ?_⟩
    · exact block_lt_of_cell (hc 0 (by omega))
    · rw [hc i (by omega)]
      congr 2
      unfold gl
      rw [List.getD_eq_getElem?_getD, List.getD_eq_getElem?_getD, List.getElem?_take, if_pos (by omega)]
/-- .. in one form. -/
theorem open_bytes1 {H : Type} {enc : TypeId × Value → H} {W : World} {v : Value} {d : DataW H} {p : List MemPlace} (hsl : ∃ a n c, v = .slice a n c)
    (hj : DataW.Trod enc Tryd.prog W 0 (fun _ => true) true 33 v d p) :
    ∃ (a : Option Addr) (n c : Nat) (l : List Int), v = .slice a n c ∧ l.length = n ∧ (a = none → n = 0 ∧ c = 0) ∧ Oct l ∧ Bs W v l ∧ (n = 0 ∨ ∃ el sp, d = .slice el sp ∧ el.length = n) := by
  rcases open_bytes hsl hj with ⟨rfl, rfl⟩ | ⟨a, n, c, el, sp, l, rfl, rfl, hel, hl, hO, hB⟩
  · exact ⟨none, 0, 0, [], rfl, rfl, (fun _ => ⟨rfl, rfl⟩), (fun x hx => by simp at hx), .inl ⟨_, _, rfl, rfl⟩, .inl rfl⟩
  · exact ⟨some a, n, c, l, rfl, hl, (fun h => by cases h), hO, hB, .inr ⟨el, sp, rfl, hel⟩⟩
theorem bytes_sized {H : Type} {ts : List TypeId} {ds : List (DataW H)} {j n : Nat} {d : DataW H} (hsz : (DataW.weightsEach Tryd.prog ts ds).all (· ≤ reachBytes) = true) (ht : ts[j]? = some 33) (hd : ds[j]? = some d)
    (h : n = 0 ∨ ∃ el sp, d = .slice el sp ∧ el.length = n) : n ≤ 140737488351232 := by
  rcases h with rfl | ⟨el, sp, rfl, hel⟩
  · omega
  · have := sized_slice hsz ht hd Tryd.underlying33
    rw [bytesByte] at this
    unfold reachBytes at this
    omega
theorem string_sized {H : Type} {ts : List TypeId} {ds : List (DataW H)} {j : Nat} {t : TypeId} {s : ByteArray} (hsz : (DataW.weightsEach Tryd.prog ts ds).all (· ≤ reachBytes) = true) (ht : ts[j]? = some t) (hd : ds[j]? = some (.lit (.string s.data.toList))) : s.size ≤ 140737488351232 := by
  have := sized_string hsz ht hd
  unfold reachBytes at this
  simpa using this
theorem u8_range {x : Int} (h : (Lit.int .u8 x).wf = true) : 0 ≤ x ∧ x ≤ 255 := by
  simpa [Lit.wf, IntKind.min, IntKind.max, IntKind.signed, IntKind.bits] using h
theorem i32_range {x : Int} (h : (Lit.int .i32 x).wf = true) : -2147483648 ≤ x ∧ x ≤ 2147483647 := by
  simpa [Lit.wf, IntKind.min, IntKind.max, IntKind.signed, IntKind.bits] using h
end Go.Proofs.YtkifndecpbphbaaDoor.utf
