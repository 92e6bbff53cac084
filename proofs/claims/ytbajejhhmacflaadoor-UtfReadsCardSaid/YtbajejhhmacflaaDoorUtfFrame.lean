/- What serves every row's frame: arguments of bytes opened; what was read before the call reads the same behind it. -/
import Derived.Test.YtbajejhhmacflaaDoorUtfR
import Derived.Test.YtbajejhhmacflaaDoorUtfLaid
import Derived.Carry
import Derived.SizedLaws
namespace Go.Proofs.YtbajejhhmacflaaDoor.utf
open Go.PlainAid Go.ChangeShapes Go.WideShapes Go.ChangeAt Go.RowKit

theorem laidOut : laidOutB Tryd.prog = true := by kernel_rfl

theorem trodAll_below {H : Type} {enc : TypeId × Value → H} {W W' : World} (hb : Below W.heap.size W W') :
    ∀ {ts : List TypeId} {vs : List Value} {ds : List (DataW H)} {ps : List MemPlace}, DataW.TrodAll enc Tryd.prog W 0 (fun _ => true) true ts vs ds ps →
    (∀ t ∈ ts, Tryd.prog.readableRec t = true ∧ t < Tryd.prog.types.size) → (∀ x ∈ ps, x.block < W.heap.size) →
    DataW.TrodAll enc Tryd.prog W' 0 (fun b => decide (b < W.heap.size)) true ts vs ds ps
  | [], [], [], _, h, _, _ => h
  | t :: ts, v :: vs, d :: ds, ps, h, hr, hlt => by
    obtain ⟨p, q, h1, h2, rfl⟩ := h
    have hk := hr t (List.mem_cons_self ..)
    exact ⟨p, q, Below.trod laidOut hk.1 hk.2 h1 hb (fun x hx => hlt x (List.mem_append_left _ hx)), trodAll_below hb h2 (fun t' ht' => hr t' (List.mem_cons_of_mem _ ht')) (fun x hx => hlt x (List.mem_append_right _ hx)), rfl⟩

theorem cByte1 : Tryd.prog.cellsOf 5 = 1 := by kernel_rfl
theorem bytesByte : Tryd.prog.bytesOf 5 = 1 := by kernel_rfl
/-- An argument of bytes: nil, or a slice; what it reads as. -/
theorem open_bytes {H : Type} {enc : TypeId × Value → H} {W : World} {v : Value} {d : DataW H} {p : List MemPlace} (hsl : ∃ a n c, v = .slice a n c)
    (hj : DataW.Trod enc Tryd.prog W 0 (fun _ => true) true 22 v d p) :
    (v = .slice none 0 0 ∧ d = .nil) ∨ ∃ (a : Addr) (n c : Nat) (el sp : List (DataW H)) (l : List Int), v = .slice (some a) n c ∧ d = .slice el sp ∧ el.length = n ∧ l.length = n ∧ Oct l ∧ Bs W v l := by
  obtain ⟨a0, n0, c0, rfl⟩ := hsl
  obtain ⟨fuel, hf⟩ := hj
  have hf' : DataW.trod enc Tryd.prog W 0 (fun _ => true) true fuel 22 [.slice a0 n0 c0] = some (d, p) := hf
  rcases open_ints Tryd.underlying22 Tryd.underlying5 cByte1 hf' with ⟨hcs, hx⟩ | ⟨a, n, c, zs, hcs, _, hl, hm, hz, hx, hcell, hwf⟩
  · refine .inl ⟨?_, (Prod.mk.inj hx).1⟩
    exact (List.cons.inj hcs).1
  · have hv : Value.slice a0 n0 c0 = .slice (some a) n c := (List.cons.inj hcs).1
    have hd : d = .slice (lits .u8 (zs.take n)) (lits .u8 (zs.drop n)) := (Prod.mk.inj hx).1
    simp only [if_true] at hz
    have hln : (zs.take n).length = n := by simp; omega
    have hO : Oct (zs.take n) := by
      intro x hx
      have := hwf x (List.mem_of_mem_take hx)
      simpa [Lit.wf, IntKind.min, IntKind.max, IntKind.signed, IntKind.bits] using this
    refine .inr ⟨a, n, c, _, _, zs.take n, hv, hd, by simp [lits]; omega, hln, hO, ?_⟩
    rw [hv]
    by_cases h0 : n = 0
    · subst h0; exact .inl ⟨_, _, rfl, rfl⟩
    obtain ⟨b, off, rfl, hc⟩ := ints_at hcell (by omega)
    refine .inr ⟨b, off, c, by rw [hln], by omega, by omega, ?_, fun i hi => ?_⟩
    · exact block_lt_of_cell (hc 0 (by omega))
    · rw [hc i (by omega)]
      congr 2
      unfold gl
      rw [List.getD_eq_getElem?_getD, List.getD_eq_getElem?_getD, List.getElem?_take, if_pos (by omega)]
/-- .. in one form. -/
theorem open_bytes1 {H : Type} {enc : TypeId × Value → H} {W : World} {v : Value} {d : DataW H} {p : List MemPlace} (hsl : ∃ a n c, v = .slice a n c)
    (hj : DataW.Trod enc Tryd.prog W 0 (fun _ => true) true 22 v d p) :
    ∃ (a : Option Addr) (n c : Nat) (l : List Int), v = .slice a n c ∧ l.length = n ∧ (a = none → n = 0 ∧ c = 0) ∧ Oct l ∧ Bs W v l ∧ (n = 0 ∨ ∃ el sp, d = .slice el sp ∧ el.length = n) := by
  rcases open_bytes hsl hj with ⟨rfl, rfl⟩ | ⟨a, n, c, el, sp, l, rfl, rfl, hel, hl, hO, hB⟩
  · exact ⟨none, 0, 0, [], rfl, rfl, (fun _ => ⟨rfl, rfl⟩), (fun x hx => by simp at hx), .inl ⟨_, _, rfl, rfl⟩, .inl rfl⟩
  · exact ⟨some a, n, c, l, rfl, hl, (fun h => by cases h), hO, hB, .inr ⟨el, sp, rfl, hel⟩⟩
theorem bytes_sized {H : Type} {ts : List TypeId} {ds : List (DataW H)} {j n : Nat} {d : DataW H} (hsz : (DataW.weightsEach Tryd.prog ts ds).all (· ≤ reachBytes) = true) (ht : ts[j]? = some 22) (hd : ds[j]? = some d)
    (h : n = 0 ∨ ∃ el sp, d = .slice el sp ∧ el.length = n) : n ≤ 140737488351232 := by
  rcases h with rfl | ⟨el, sp, rfl, hel⟩
  · omega
  · have := sized_slice hsz ht hd Tryd.underlying22
    rw [bytesByte] at this
    unfold reachBytes at this
    omega
theorem string_sized {H : Type} {ts : List TypeId} {ds : List (DataW H)} {j : Nat} {t : TypeId} {s : ByteArray} (hsz : (DataW.weightsEach Tryd.prog ts ds).all (· ≤ reachBytes) = true) (ht : ts[j]? = some t) (hd : ds[j]? = some (.lit (.string s.data.toList))) : s.size ≤ 140737488351232 := by
  have := sized_string hsz ht hd
  unfold reachBytes at this
  simpa using this
theorem u8_range {x : Int} (h : (Lit.int .u8 x).wf = true) : 0 ≤ x ∧ x ≤ 255 := by
  simpa [Lit.wf, IntKind.min, IntKind.max, IntKind.signed, IntKind.bits] using h
theorem i32_range {x : Int} (h : (Lit.int .i32 x).wf = true) : -2147483648 ≤ x ∧ x ≤ 2147483647 := by
  simpa [Lit.wf, IntKind.min, IntKind.max, IntKind.signed, IntKind.bits] using h
end Go.Proofs.YtbajejhhmacflaaDoor.utf
