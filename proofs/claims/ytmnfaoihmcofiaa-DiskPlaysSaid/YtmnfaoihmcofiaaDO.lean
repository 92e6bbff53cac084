/- An argument of things that are done, opened. -/
import Derived.Test.YtmnfaoihmcofiaaDFrameB
import Derived.Deep.Slices
namespace Go.Proofs.Ytmnfaoihmcofiaa.dk
open Go.PlainAid Go.ChangeShapes Go.WideShapes Go.ChangeAt Go.RowKit
open Go.Deep (open_slice choose_lt add_add)

/-- One thing that is done, as its cells tell it. -/
structure Opc where
  what : Int
  at_ : Int
  ba : Option Addr
  bn : Nat
  bc : Nat
  b : List Int
  ka : Option Addr
  kn : Nat
  kc : Nat
  k : List Bool
instance : Inhabited Opc := ⟨⟨0, 0, none, 0, 0, [], none, 0, 0, []⟩⟩

/-- Bytes below B. -/
def Rb (B : Nat) (W : World) (p : Option Addr) (n : Nat) (l : List Int) : Prop := l.length = n ∧ (0 < n → ∃ b off, p = some ⟨b, off, none⟩ ∧ b < B ∧ ∀ i, i < n → W.cell? ⟨b, off + i, none⟩ = some (.int .u8 (l.getD i 0)))
theorem Rb.below {B : Nat} {W W' : World} {p : Option Addr} {n : Nat} {l : List Int} (h : Rb B W p n l) (hb : Below B W W') : Rb B W' p n l := by
  refine ⟨h.1, fun h0 => ?_⟩
  obtain ⟨b, off, e, hlt, hc⟩ := h.2 h0
  exact ⟨b, off, e, hlt, fun i hi => by rw [hb.cell hlt]; exact hc i hi⟩
theorem Rb.rd {B : Nat} {W : World} {p : Option Addr} {n : Nat} {l : List Int} (h : Rb B W p n l) (hB : B ≤ W.heap.size) : Rd W p n l := by
  refine ⟨h.1, fun h0 => ?_⟩
  obtain ⟨b, off, e, hlt, hc⟩ := h.2 h0
  exact ⟨b, off, e, by omega, hc⟩
theorem Rd.rb {W : World} {p : Option Addr} {n : Nat} {l : List Int} (h : Rd W p n l) : Rb W.heap.size W p n l := h

structure OpAt (B : Nat) (W : World) (b x : Nat) (o : Opc) : Prop where
  lt : b < B
  c0 : W.cell? ⟨b, x, none⟩ = some (.int .i64 o.what)
  c1 : W.cell? ⟨b, x + 1, none⟩ = some (.int .i64 o.at_)
  c2 : W.cell? ⟨b, x + 2, none⟩ = some (.slice o.ba o.bn o.bc)
  c3 : W.cell? ⟨b, x + 3, none⟩ = some (.slice o.ka o.kn o.kc)
  w0 : (Lit.int .i64 o.what).wf = true
  w1 : (Lit.int .i64 o.at_).wf = true
  by_ : ∀ y ∈ o.b, 0 ≤ y ∧ y ≤ 255
  rb : Rb B W o.ba o.bn o.b
  kb : Kb B W o.ka o.kn o.k
theorem OpAt.below {B : Nat} {W W' : World} {b x : Nat} {o : Opc} (h : OpAt B W b x o) (hb : Below B W W') : OpAt B W' b x o :=
  ⟨h.lt, by rw [hb.cell h.lt]; exact h.c0, by rw [hb.cell h.lt]; exact h.c1, by rw [hb.cell h.lt]; exact h.c2, by rw [hb.cell h.lt]; exact h.c3, h.w0, h.w1, h.by_, h.rb.below hb, h.kb.below hb⟩
def OpsAt (B : Nat) (W : World) (q : Option Addr) (n : Nat) (os : Nat → Opc) : Prop := 0 < n → ∃ b off, q = some ⟨b, off, none⟩ ∧ ∀ i, i < n → OpAt B W b (off + i * 4) (os i)
theorem OpsAt.below {B : Nat} {W W' : World} {q : Option Addr} {n : Nat} {os : Nat → Opc} (h : OpsAt B W q n os) (hb : Below B W W') : OpsAt B W' q n os := fun h0 => by
  obtain ⟨b, off, e, hc⟩ := h h0
  exact ⟨b, off, e, fun i hi => (hc i hi).below hb⟩

theorem trod_slice_form {H : Type} {enc : TypeId × Value → H} {W : World} {t e : TypeId} {fuel : Nat} {v : Value} {x : DataW H × List MemPlace} (ht : Try.prog.underlying t = some (.slice e))
    (h : DataW.trod enc Try.prog W 0 (fun _ => true) true fuel t [v] = some x) : ∃ a n c, v = .slice a n c := by
  rcases DataW.trod_slice ht h with ⟨hcs, _⟩ | ⟨a, len, cap, elems, rest, n, _, hcs, _⟩
  · exact ⟨_, _, _, (List.cons.inj hcs).1⟩
  · exact ⟨_, _, _, (List.cons.inj hcs).1⟩
theorem cOp4 : Try.prog.cellsOf 35 = 4 := by kernel_rfl
theorem cSB : Try.prog.cellsOf 32 = 1 := by kernel_rfl
theorem cSK : Try.prog.cellsOf 33 = 1 := by kernel_rfl
theorem cInt : Try.prog.cellsOf 3 = 1 := by kernel_rfl
theorem opFields : ∃ f0 f1 f2 f3 : Field, Try.prog.underlying 35 = some (.struct #[f0, f1, f2, f3]) ∧ f0.type = 3 ∧ f1.type = 3 ∧ f2.type = 32 ∧ f3.type = 33 ∧ f0.offset = 0 ∧ f1.offset = 1 ∧ f2.offset = 2 ∧ f3.offset = 3 :=
  ⟨_, _, _, _, Try.underlying35, rfl, rfl, rfl, rfl, rfl, rfl, rfl, rfl⟩
theorem open_ops {H : Type} {enc : TypeId × Value → H} {W : World} {v : Value} {d : DataW H} {p : List MemPlace}
    (hsl : ∃ a n c, v = .slice a n c) (hj : DataW.Trod enc Try.prog W 0 (fun _ => true) true 22 v d p) :
    ∃ (a : Option Addr) (n c : Nat) (os : Nat → Opc), v = .slice a n c ∧ OpsAt W.heap.size W a n os := by
  obtain ⟨a0, n0, c0, rfl⟩ := hsl
  obtain ⟨fuel, hf⟩ := hj
  have hf' : DataW.trod enc Try.prog W 0 (fun _ => true) true fuel 22 [.slice a0 n0 c0] = some (d, p) := hf
  rcases open_slice Try.underlying22 hf' with ⟨hcs, hx⟩ | ⟨a, n, c, m, fl, Ds, Pl, hcs, _, hl, _, hm, _, hx⟩
  · rw [(List.cons.inj hcs).1]
    exact ⟨none, 0, 0, fun _ => default, rfl, fun h => absurd h (by omega)⟩
  · rw [(List.cons.inj hcs).1]
    simp only [if_true] at hm
    rcases Nat.eq_zero_or_pos n with rfl | hn0
    · exact ⟨some a, 0, c, fun _ => default, rfl, fun h => absurd h (by omega)⟩
    obtain ⟨b, off, spot⟩ := a
    have hsp : spot = none := by
      obtain ⟨cs', h1, _⟩ := hx 0 (by omega)
      rw [cOp4] at h1
      obtain ⟨_, hlen, hcell⟩ := World.cells?_some h1
      have e0 := hcell 0 (by omega)
      rw [List.getElem?_eq_getElem (by omega)] at e0
      simpa [Addr.add] using World.cell?_spot e0
    subst hsp
    have each : ∀ i, i < n → ∃ o : Opc, OpAt W.heap.size W b (off + i * 4) o := by
      intro i hi
      obtain ⟨cs', h1, h2⟩ := hx i (by omega)
      rw [cOp4] at h1
      obtain ⟨_, hlen, hcell⟩ := World.cells?_some h1
      obtain ⟨f0, f1, f2, f3, hu, t0, t1, t2, t3, o0, o1, o2, o3⟩ := opFields
      obtain ⟨xs, k, hk, hxy, _, hxl, hfd⟩ := DataW.trod_struct hu h2
      match xs, hxl, cs', hlen with
      | [y0, y1, y2, y3], _, [v0, v1, v2, v3], _ =>
        have g0 := hfd 0 f0 rfl
        have g1 := hfd 1 f1 rfl
        have g2 := hfd 2 f2 rfl
        have g3 := hfd 3 f3 rfl
        rw [t0, o0, cInt] at g0
        rw [t1, o1, cInt] at g1
        rw [t2, o2, cSB] at g2
        rw [t3, o3, cSK] at g3
        simp at g0 g1 g2 g3
        have e0 := hcell 0 (by omega)
        have e1 := hcell 1 (by omega)
        have e2 := hcell 2 (by omega)
        have e3 := hcell 3 (by omega)
        rw [add_add] at e0 e1 e2 e3
        obtain ⟨x0, hv0, _, w0⟩ := DataW.trod_int Try.underlying3 g0
        obtain ⟨x1, hv1, _, w1⟩ := DataW.trod_int Try.underlying3 g1
        obtain rfl := (List.cons.inj hv0).1
        obtain rfl := (List.cons.inj hv1).1
        obtain ⟨ba', bn', bc', rfl⟩ := trod_slice_form Try.underlying32 g2
        obtain ⟨ka', kn', kc', rfl⟩ := trod_slice_form Try.underlying33 g3
        obtain ⟨ba, bn, bc, bl, hbv, hby, hR, _⟩ := open_bytesR ⟨_, _, _, rfl⟩ (d := y2.1) (p := y2.2) ⟨k, g2⟩
        obtain ⟨ka, kn, kc, kl, hkv, hK, _⟩ := open_boolsR ⟨_, _, _, rfl⟩ (d := y3.1) (p := y3.2) ⟨k, g3⟩
        rw [hbv] at e2
        rw [hkv] at e3
        rw [add_off, ← Nat.add_assoc] at e0 e1 e2 e3
        exact ⟨⟨x0, x1, ba, bn, bc, bl, ka, kn, kc, kl⟩, ⟨World.block_lt_of_cell? _ _ e0, e0, e1, e2, e3, w0, w1, hby, hR.rb, hK⟩⟩
    obtain ⟨os, hos⟩ := choose_lt each
    exact ⟨_, n, c, os, rfl, fun h0 => ⟨b, off, rfl, hos⟩⟩
end Go.Proofs.Ytmnfaoihmcofiaa.dk
