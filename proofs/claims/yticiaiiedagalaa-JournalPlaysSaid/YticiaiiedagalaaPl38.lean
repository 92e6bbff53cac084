/- Both logs: opened, appended to, reset, and what they told compared. -/
import Derived.Test.YticiaiiedagalaaPl37
import Derived.Test.YticiaiiedagalaaPl20
import Derived.Deep.Slices
namespace Go.Proofs.Yticiaiiedagalaa.dk
open Go.PlainAid Go.ChangeShapes Go.WideShapes Go.ChangeAt Go.RowKit

/-- Open, of both, one behind the other. -/
def OpenTwo (w : World) (B D L N B2 D2 n fr kn k : Nat) (kz : Int) (W : World) : Prop := Calls Try.prog 13 #[.pointer (some ⟨D, 0, none⟩), .int .i64 (fr : Int), .int .i64 kz] W fun e W' => ∃ (va vx : Value) (ec : Int), (e = .returned (.tuple #[va, vx, .int .i64 ec]) ∧ Below W.heap.size W W') ∧
  Calls Try.prog 14 #[.pointer (some ⟨D2, 0, none⟩), .int .i64 (fr : Int), .int .i64 kz] W' fun e W'' => ∃ (vb vy : Value), e = .returned (.tuple #[vb, vy, .int .i64 ec]) ∧ Below W.heap.size W W'' ∧ Js w B D L N B2 D2 n fr kn k true ec va vb vx vy W''
theorem both_open {w : World} {B D L N B2 D2 n fr kn k : Nat} {W : World} (h : Jt w B D L N B2 D2 n k true W) (kz : Int) (hkz : kz < 1 ∨ (kz = kn ∧ 1 ≤ kn ∧ fr + kn ≤ n)) : OpenTwo w B D L N B2 D2 n fr kn k kz W := by
  have hh := h
  obtain ⟨P, S2, P2, m, r, hx, ha⟩ := h
  have hd := ha rfl
  have hdr : r.gone = false := by rw [← hx.l.dead, hd]
  rcases hkz with hkz | ⟨rfl, hk1, hkn⟩
  · refine (Open_arg hx.d hd fr kz hkz).mono ?_
    rintro e W' ⟨rfl, rfl⟩
    refine ⟨_, _, _, ⟨rfl, Below.refl _ _⟩, (rOpen_arg hx.rr hdr fr kz hkz).mono ?_⟩
    rintro e W' ⟨rfl, rfl⟩
    exact ⟨_, _, rfl, Below.refl _ _, hh, .inl ⟨by omega, rfl, rfl⟩, Recs.nil _ _ _⟩
  · have hmn : m.n = n := hx.l.mn
    have hsn : r.S.length = n := hx.l.sn
    have hF := hx.l.rF hx.y fr
    by_cases hs : sesOf m.now fr kn = 4294967295
    · refine (Open_full hx.d hd hx.y.n fr kn hk1 (by omega) hs).mono ?_
      rintro e W' ⟨rfl, hb⟩
      refine ⟨_, _, _, ⟨rfl, hb⟩, (rOpen_full (hx.rr.below hb) hdr fr kn hk1 (by omega) (fun i _ => hx.l.rBys hx.y fr i) (by rw [hF]; exact hs)).mono ?_⟩
      rintro e W'' ⟨rfl, hb2⟩
      have hb3 := hb.trans (hb2.mono hb.size)
      exact ⟨_, _, rfl, hb3, hh.below hb3, .inl ⟨by omega, rfl, rfl⟩, Recs.nil _ _ _⟩
    · refine (Open_ok hx.d hd hx.y.n fr kn hk1 (by omega) hs).mono ?_
      rintro e W' ⟨A, p, cc, vs, rfl, hA, hlg, hrc, hb⟩
      refine ⟨_, _, _, ⟨rfl, hb⟩, (rOpen_ok (hx.rr.below hb) hdr fr kn hk1 (by omega) (fun i _ => hx.l.rBys hx.y fr i) (by rw [hF]; exact hs)).mono ?_⟩
      rintro e W'' ⟨A2, q, cc2, vs2, rfl, hA2, hlg2, hrc2, hb2⟩
      have hb3 := hb.trans (hb2.mono hb.size)
      have et : tellN (rF r fr) kn = toldOf m.now fr kn := by rw [hF]; rfl
      have es : gr2 fS (rF r fr) kn = sesOf m.now fr kn := by rw [hF]; rfl
      rw [et] at hlg2 hrc2
      rw [es] at hlg2
      rw [et]
      have hlt := hx.d.lt
      have hWB := hx.d.base
      have hRB : B2 ≤ W.heap.size := Nat.le_of_lt (Nat.lt_of_le_of_lt hx.rr.bD hx.rr.lt)
      exact ⟨_, _, rfl, hb3, hh.below hb3, .inr ⟨rfl, A, A2, logOf D fr kn m.now, rfl, rfl, Nat.le_trans hWB hA, Nat.le_trans hRB (Nat.le_trans hb.size hA2), hlg.below hb2, hlg2, logOf_ok D fr kn m.now hs⟩,
        ⟨p, q, cc, cc2, (toldOf m.now fr kn).2.2, vs, vs2, W.heap.size, rfl, rfl, by have := (told_bd m.now fr kn).2.1; have := hx.rr.n2; omega, hlt.2.1, hlt.2.2, hrc.below hb2, hrc2.base hb.size⟩⟩
/-- What was told, compared. -/
theorem both_same {L N : Nat} {vx vy : Value} {W : World} (h : Recs L N vx vy W) : Calls Try.prog 15 #[vx, vy] W fun e W' => e = .returned (.bool true) ∧ ∃ y, W' = W.drewN y := by
  obtain ⟨px, py, cx, cy, R, vs, vs2, B3, rfl, rfl, e3, e4, e5, h6, h7⟩ := h
  exact Same_any W px py R.length cx cy _ (h6.rr (Nat.le_refl _)) (h7.rr (Nat.le_refl _)) e3
/-- Append, of both: the bytes are made, laid, made again and laid. -/
def AppTwo (T1 T : World → Prop) (va vb : Value) (kk : Nat) (c : Int) (W : World) : Prop := Calls Try.prog 28 #[.int .i64 (kk : Int), .int .u8 c] W fun e W1 => ∃ v1 : Value, (e = .returned v1 ∧ T1 W1) ∧
  ∃ ec : Int, Calls Try.prog 27 #[va, v1] W1 fun e W2 => (e = .returned (.int .i64 ec) ∧ T1 W2) ∧
  Calls Try.prog 28 #[.int .i64 (kk : Int), .int .u8 c] W2 fun e W3 => ∃ v3 : Value, (e = .returned v3 ∧ T1 W3) ∧
  Calls Try.prog 29 #[vb, v3] W3 fun e W4 => e = .returned (.int .i64 ec) ∧ T W4
theorem T7_A : ∀ t ∈ T7, t ∈ TA := fun _ ht => List.mem_append_left _ ht
theorem TL_A : ∀ t ∈ TL, t ∈ TA := fun _ ht => List.mem_append_right _ ht
theorem both_append {w : World} {B D L N B2 D2 n fr kn k ob : Nat} {al : Bool} {va vb vx vy : Value} {oc : Array Value} {W : World} (h : Jo w B D L N B2 D2 n fr kn k al 0 va vb vx vy ob oc W) (hk : k < 800) (h1 : w.heap.size ≤ B) (h2 : w.heap.size ≤ B2) (hfr : fr ≤ 100) (hkn : kn ≤ 40) (kk : Nat) (hkk : kk ≤ 255) (c : Int) :
    AppTwo (OAt ob oc) (Jo w B D L N B2 D2 n fr kn (k + 7) false 0 va vb vx vy ob oc) va vb kk c W := by
  obtain ⟨⟨⟨P, S2, P2, m, r, hx, _⟩, hg, hc⟩, ho⟩ := h
  rcases hg with ⟨h0, _⟩ | ⟨_, A, A2, g, rfl, rfl, hBA, hBA2, hlg, hlg2, hok⟩
  · exact absurd rfl h0
  have hwk := hx.wk
  have hpk := hx.pk
  have hpl := hok.pl
  have hgn := hok.n
  have hgf := hok.frm
  have hbl := bsOf_len kk c
  obtain ⟨k1, k2, k3, k4, k5⟩ := append_ok (m := m) hok hx.y (bsOf_bys kk c) (by rw [hbl]; omega)
  refine (bytes2_any W kk c (by omega)).mono ?_
  rintro e W1 ⟨G, rfl, hG, hr1, hb1⟩
  have hx1 := hx.below hb1
  have hl1 := hlg.below hb1
  refine ⟨_, ⟨rfl, ho.below hb1⟩, (appendOf g m (bsOf kk c)).2.2, (Append_any hx1.d hl1 hok.d hBA (some ⟨G, 0, none⟩) kk kk (bsOf kk c) (src_row hx.d hG hr1 hbl) (Nat.le_refl _) (by omega) (fun e => by cases e) (fun a e => by cases e; rfl) (by omega) (by omega) (by omega) (by omega) hok.num hok.ses).mono ?_⟩
  rintro e W2 ⟨P', rfl, hd2, hl2, hf2⟩
  have f2 : Ff L N T7 W1 W2 := Ff.lk hx1.d hl1 hf2
  have hr2 := hx1.rr.ff f2 (by decide) (by decide) (by decide)
  have hlr2 := (hlg2.below hb1).ff f2 (by decide)
  refine ⟨⟨rfl, (ho.below hb1).ff f2 (by decide)⟩, (bytes2_any W2 kk c (by omega)).mono ?_⟩
  rintro e W3 ⟨G3, rfl, hG3, hr3, hb3⟩
  have ho3 := ((ho.below hb1).ff f2 (by decide)).below hb3
  have hA := rAppend_any (hr2.below hb3) hx.l (hlr2.below hb3) rfl hBA2 G3 0 kk kk (bsOf kk c) (hr3.rd hbl) ⟨_, hr3⟩ (Nat.le_refl _) hkk (by show g.n ≤ 40; omega) (by show g.place ≤ g.n; omega) (by show g.frm ≤ 1000; omega) (by omega) (by omega) hok.num hok.ses
  rw [appendOf_d] at hA
  refine ⟨_, ⟨rfl, ho3⟩, hA.mono ?_⟩
  rintro e W4 ⟨S', P2', r', rfl, hr4, hl4, hlg4, hb4, ht4⟩
  have hb12 : Below B W W2 := (hb1.mono hx.d.base).trans hf2.below
  have hb24 : Below B2 W2 W4 := (hb3.mono (Nat.le_of_lt (Nat.lt_of_le_of_lt hr2.bD hr2.lt))).trans hb4
  have ht24 : Tf TL W2 W4 := (Tf.new hb3).trans ht4
  have fA : Ff L N TA W W4 := ((Ff.new hb1).trans (f2.wide T7_A)).trans (ht24.ff.wide TL_A)
  exact ⟨rfl, ⟨⟨_, _, _, _, _, hx.step h1 h2 hd2 hb12 hr4 hb24 ht24 hl4 k2 (by omega) (by omega), fun e => by cases e⟩, .inr ⟨rfl, A, A2, _, rfl, rfl, hBA, hBA2, hl2.tf ht24 (by decide), hlg4, k1⟩, hc.ff fA (by decide) (by decide)⟩, ho.ff fA (by decide)⟩
/-- Reset, of both. -/
theorem both_reset {w : World} {B D L N B2 D2 n fr kn k ob : Nat} {al : Bool} {va vb vx vy : Value} {oc : Array Value} {W : World} (h : Jo w B D L N B2 D2 n fr kn k al 0 va vb vx vy ob oc W) (h1 : w.heap.size ≤ B) (h2 : w.heap.size ≤ B2) :
    Twice 25 26 #[va] #[vb] (.tuple #[]) (OAt ob oc) (Jo w B D L N B2 D2 n fr kn k false 0 va vb vx vy ob oc) W := by
  obtain ⟨⟨⟨P, S2, P2, m, r, hx, _⟩, hg, hc⟩, ho⟩ := h
  rcases hg with ⟨h0, _⟩ | ⟨_, A, A2, g, rfl, rfl, hBA, hBA2, hlg, hlg2, hok⟩
  · exact absurd rfl h0
  refine (Reset_any hlg hBA).mono ?_
  rintro e W1 ⟨rfl, hl1, hb1, hf1⟩
  have t1 : Tf [76] W W1 := fun k cur t hk ht => hf1 k (row_ne hk hlg (by rintro rfl; exact ht (by decide)))
  have hlr1 := hlg2.tf t1 (by decide)
  have f1 : Ff L N TA W W1 := t1.ff.wide (by decide)
  refine ⟨⟨rfl, ho.ff f1 (by decide)⟩, (rReset_any hlr1 hBA2).mono ?_⟩
  rintro e W2 ⟨rfl, hl2, hb2, hf2⟩
  have t2 : Tf [85] W1 W2 := fun k cur t hk ht => hf2 k (row_ne hk hlr1 (by rintro rfl; exact ht (by decide)))
  have f2 : Ff L N TA W W2 := f1.trans (t2.ff.wide (by decide))
  have hd2 : DiskAt B D L N P m W2 := (hx.d.tf t1 (by decide) (by decide) (by decide)).tf t2 (by decide) (by decide) (by decide)
  have hr2 : RefAt B2 D2 S2 P2 r W2 := (hx.rr.ff (L := L) (N := N) t1.ff (by decide) (by decide) (by decide)).ff (L := L) (N := N) t2.ff (by decide) (by decide) (by decide)
  exact ⟨rfl, ⟨⟨_, _, _, _, _, { hx with d := hd2, rr := hr2, b := (hx.b.trans (hb1.mono h1)).trans (hb2.mono h2) }, fun e => by cases e⟩, .inr ⟨rfl, A, A2, { g with place := 0 }, rfl, rfl, hBA, hBA2, hl1.tf t2 (by decide), hl2, { hok with pl := Nat.zero_le _ }⟩, hc.ff f2 (by decide) (by decide)⟩, ho.ff f2 (by decide)⟩
/-- Room, of both. -/
theorem both_room {w : World} {B D L N B2 D2 n fr kn k : Nat} {al : Bool} {va vb vx vy : Value} {W : World} (h : Js w B D L N B2 D2 n fr kn k al 0 va vb vx vy W) (hkn : kn ≤ 40) : ∃ rm : Int, (Calls Try.prog 30 #[va] W fun e W' => e = .returned (.int .i64 rm) ∧ ∃ y', W' = W.drewN y') ∧ (∀ y, Calls Try.prog 31 #[vb] (W.drewN y) fun e W' => e = .returned (.int .i64 rm) ∧ ∃ y', W' = (W.drewN y).drewN y') := by
  rcases h.g with ⟨h0, _⟩ | ⟨_, A, A2, g, rfl, rfl, hBA, hBA2, hlg, hlg2, hok⟩
  · exact absurd rfl h0
  have hpl := hok.pl
  have hgn := hok.n
  exact ⟨(g.n : Int) - g.place, Room_any hlg (by omega) (by omega), fun y => rRoom_any (g := { g with d := D2 }) (hlg2.below (below_drewN (Below.refl _ _) _)) (by show g.n ≤ 1000000; omega) (by show g.place ≤ 1000000; omega)⟩
end Go.Proofs.Yticiaiiedagalaa.dk
/- An argument of things that are done with a log, opened; small. -/
namespace Go.Proofs.Yticiaiiedagalaa.dk
open Go.PlainAid Go.ChangeShapes Go.WideShapes Go.ChangeAt Go.RowKit
open Go.Deep (open_slice choose_lt add_add)

/-- One thing that is done, as its cells tell it. -/
structure Opc where
  what : Int
  at_ : Int
  ch : Int
  ba : Option Addr
  bn : Nat
  bc : Nat
  b : List Int
  ka : Option Addr
  kn : Nat
  kc : Nat
  k : List Bool
instance : Inhabited Opc := ⟨⟨0, 0, 0, none, 0, 0, [], none, 0, 0, []⟩⟩

structure OpAt (B : Nat) (W : World) (b x : Nat) (o : Opc) : Prop where
  lt : b < B
  c0 : W.cell? ⟨b, x, none⟩ = some (.int .i64 o.what)
  c1 : W.cell? ⟨b, x + 1, none⟩ = some (.int .i64 o.at_)
  c2 : W.cell? ⟨b, x + 2, none⟩ = some (.int .u8 o.ch)
  c3 : W.cell? ⟨b, x + 3, none⟩ = some (.slice o.ba o.bn o.bc)
  c4 : W.cell? ⟨b, x + 4, none⟩ = some (.slice o.ka o.kn o.kc)
  w0 : (Lit.int .i64 o.what).wf = true
  w1 : (Lit.int .i64 o.at_).wf = true
  by_ : ∀ y ∈ o.b, 0 ≤ y ∧ y ≤ 255
  rb : Rb B W o.ba o.bn o.b
  kb : Kb B W o.ka o.kn o.k
theorem OpAt.below {B : Nat} {W W' : World} {b x : Nat} {o : Opc} (h : OpAt B W b x o) (hb : Below B W W') : OpAt B W' b x o :=
  ⟨h.lt, by rw [hb.cell h.lt]; exact h.c0, by rw [hb.cell h.lt]; exact h.c1, by rw [hb.cell h.lt]; exact h.c2, by rw [hb.cell h.lt]; exact h.c3, by rw [hb.cell h.lt]; exact h.c4, h.w0, h.w1, h.by_, h.rb.below hb, h.kb.below hb⟩
def OpsAt (B : Nat) (W : World) (q : Option Addr) (n : Nat) (os : Nat → Opc) : Prop := 0 < n → ∃ b off, q = some ⟨b, off, none⟩ ∧ ∀ i, i < n → OpAt B W b (off + i * 5) (os i)
theorem OpsAt.below {B : Nat} {W W' : World} {q : Option Addr} {n : Nat} {os : Nat → Opc} (h : OpsAt B W q n os) (hb : Below B W W') : OpsAt B W' q n os := fun h0 => by
  obtain ⟨b, off, e, hc⟩ := h h0
  exact ⟨b, off, e, fun i hi => (hc i hi).below hb⟩

theorem trod_slice_form {H : Type} {enc : TypeId × Value → H} {W : World} {t e : TypeId} {fuel : Nat} {v : Value} {x : DataW H × List MemPlace} (ht : Try.prog.underlying t = some (.slice e))
    (h : DataW.trod enc Try.prog W 0 (fun _ => true) true fuel t [v] = some x) : ∃ a n c, v = .slice a n c := by
  rcases DataW.trod_slice ht h with ⟨hcs, _⟩ | ⟨a, len, cap, elems, rest, n, _, hcs, _⟩
  · exact ⟨_, _, _, (List.cons.inj hcs).1⟩
  · exact ⟨_, _, _, (List.cons.inj hcs).1⟩
theorem cOp5 : Try.prog.cellsOf 48 = 5 := by kernel_rfl
theorem cSB : Try.prog.cellsOf 45 = 1 := by kernel_rfl
theorem cSK : Try.prog.cellsOf 46 = 1 := by kernel_rfl
theorem cBy : Try.prog.cellsOf 5 = 1 := by kernel_rfl
theorem cInt : Try.prog.cellsOf 3 = 1 := by kernel_rfl
theorem opFields : ∃ f0 f1 f2 f3 f4 : Field, Try.prog.underlying 48 = some (.struct #[f0, f1, f2, f3, f4]) ∧ f0.type = 3 ∧ f1.type = 3 ∧ f2.type = 5 ∧ f3.type = 45 ∧ f4.type = 46 ∧ f0.offset = 0 ∧ f1.offset = 1 ∧ f2.offset = 2 ∧ f3.offset = 3 ∧ f4.offset = 4 :=
  ⟨_, _, _, _, _, Try.underlying48, rfl, rfl, rfl, rfl, rfl, rfl, rfl, rfl, rfl, rfl⟩
set_option maxRecDepth 20000 in
theorem open_ops {H : Type} {enc : TypeId × Value → H} {W : World} {v : Value} {d : DataW H} {p : List MemPlace}
    (hsl : ∃ a n c, v = .slice a n c) (hj : DataW.Trod enc Try.prog W 0 (fun _ => true) true 22 v d p) :
    ∃ (a : Option Addr) (n c : Nat) (os : Nat → Opc), v = .slice a n c ∧ OpsAt W.heap.size W a n os := by
  obtain ⟨a0, n0, c0, rfl⟩ := hsl
  obtain ⟨fuel, hf⟩ := hj
  have hf' : DataW.trod enc Try.prog W 0 (fun _ => true) true fuel 22 [.slice a0 n0 c0] = some (d, p) := hf
  rcases open_slice Try.underlying22 hf' with ⟨hcs, hx⟩ | ⟨a, n, c, m, fl, Ds, Pl, hcs, _, hl, _, hm, _, hx⟩
  · rw [(List.cons.inj hcs).1]
    exact ⟨none, 0, 0, fun _ => default, rfl, fun h => absurd h (by omega)⟩
  · rw [(List.cons.inj hcs).1]
    simp only [if_true] at hm
    rcases Nat.eq_zero_or_pos n with rfl | hn0
    · exact ⟨some a, 0, c, fun _ => default, rfl, fun h => absurd h (by omega)⟩
    obtain ⟨b, off, spot⟩ := a
    have hsp : spot = none := by
      obtain ⟨cs', h1, _⟩ := hx 0 (by omega)
      rw [cOp5] at h1
      obtain ⟨_, hlen, hcell⟩ := World.cells?_some h1
      have e0 := hcell 0 (by omega)
      rw [List.getElem?_eq_getElem (by omega)] at e0
      simpa [Addr.add] using World.cell?_spot e0
    subst hsp
    have each : ∀ i, i < n → ∃ o : Opc, OpAt W.heap.size W b (off + i * 5) o := by
      intro i hi
      obtain ⟨cs', h1, h2⟩ := hx i (by omega)
      rw [cOp5] at h1
      obtain ⟨_, hlen, hcell⟩ := World.cells?_some h1
      obtain ⟨f0, f1, f2, f3, f4, hu, t0, t1, t2, t3, t4, o0, o1, o2, o3, o4⟩ := opFields
      obtain ⟨xs, k, hk, hxy, _, hxl, hfd⟩ := DataW.trod_struct hu h2
      match xs, hxl, cs', hlen with
      | [y0, y1, y2, y3, y4], _, [v0, v1, v2, v3, v4], _ =>
        have g0 := hfd 0 f0 rfl
        have g1 := hfd 1 f1 rfl
        have g2 := hfd 2 f2 rfl
        have g3 := hfd 3 f3 rfl
        have g4 := hfd 4 f4 rfl
        rw [t0, o0, cInt] at g0
        rw [t1, o1, cInt] at g1
        rw [t2, o2, cBy] at g2
        rw [t3, o3, cSB] at g3
        rw [t4, o4, cSK] at g4
        simp at g0 g1 g2 g3 g4
        have e0 := hcell 0 (by omega)
        have e1 := hcell 1 (by omega)
        have e2 := hcell 2 (by omega)
        have e3 := hcell 3 (by omega)
        have e4 := hcell 4 (by omega)
        rw [add_add] at e0 e1 e2 e3 e4
        obtain ⟨x0, hv0, _, w0⟩ := DataW.trod_int Try.underlying3 g0
        obtain ⟨x1, hv1, _, w1⟩ := DataW.trod_int Try.underlying3 g1
        obtain ⟨x2, hv2, _, w2⟩ := DataW.trod_int Try.underlying5 g2
        obtain rfl := (List.cons.inj hv0).1
        obtain rfl := (List.cons.inj hv1).1
        obtain rfl := (List.cons.inj hv2).1
        obtain ⟨ba', bn', bc', rfl⟩ := trod_slice_form Try.underlying45 g3
        obtain ⟨ka', kn', kc', rfl⟩ := trod_slice_form Try.underlying46 g4
        obtain ⟨ba, bn, bc, bl, hbv, hby, hR, _⟩ := open_bytesR ⟨_, _, _, rfl⟩ (d := y3.1) (p := y3.2) ⟨k, g3⟩
        obtain ⟨ka, kn, kc, kl, hkv, hK, _⟩ := open_boolsR ⟨_, _, _, rfl⟩ (d := y4.1) (p := y4.2) ⟨k, g4⟩
        rw [hbv] at e3
        rw [hkv] at e4
        rw [add_off, ← Nat.add_assoc] at e0 e1 e2 e3 e4
        exact ⟨⟨x0, x1, x2, ba, bn, bc, bl, ka, kn, kc, kl⟩, ⟨World.block_lt_of_cell? _ _ e0, e0, e1, e2, e3, e4, w0, w1, hby, hR.rb, hK⟩⟩
    obtain ⟨os, hos⟩ := choose_lt each
    exact ⟨_, n, c, os, rfl, fun h0 => ⟨b, off, rfl, hos⟩⟩
def Small (n : Nat) (os : Nat → Opc) : Prop := n ≤ 40 ∧ ∀ i, i < n → (os i).bn ≤ 100 ∧ (os i).kn ≤ 200
set_option maxHeartbeats 4000000 in
set_option maxRecDepth 20000 in
theorem small_any (B : Nat) (w : World) (q : Option Addr) (n c : Nat) (os : Nat → Opc) (H : OpsAt B w q n os) (b : Bool) (HB : b = true ↔ Small n os) :
    Calls Try.prog 10 #[.slice q n c] w fun e w' => e = .returned (.bool b) ∧ w = w' := by
  go_enter Try.func10, Try.ntmps10
  go_wp2_with fail
  · obtain rfl : b = false := by
      cases b with
      | false => rfl
      | true => exact absurd (HB.1 rfl).1 (by omega)
    go_ret
    exact ⟨rfl, rfl⟩
  go_loopw [3] (fun i wr => ∃ (j : Nat), i = .int .i64 (j : Int) ∧ j ≤ n ∧ wr = w ∧ Hid (∀ i, i < j → (os i).bn ≤ 100 ∧ (os i).kn ≤ 200)) (fun i _ => n - (intOf i).toNat)
  case atStart => exact ⟨0, rfl, by omega, rfl, fun i hi => absurd hi (by omega)⟩
  case round =>
    obtain ⟨j, rfl, hj, rfl, HJ⟩ := hrel
    by_cases hjn : j < n
    · have dj : decide ((j : Int) < (n : Int)) = true := decide_eq_true (by omega)
      obtain ⟨bb, off, rfl, hop⟩ := H (by omega)
      have o := hop j hjn
      have k2 := o.c3
      have k3 := o.c4
      clear o
      go_wp2
      · obtain rfl : b = false := by
          cases b with
          | false => rfl
          | true => exact absurd ((HB.1 rfl).2 j hjn) (by omega)
        go_ret
        exact ⟨rfl, rfl⟩
      · constructor
        · exact ⟨j + 1, by go_num, by omega, trivial, fun i hi => by
            rcases Nat.lt_succ_iff_lt_or_eq.1 hi with h | rfl
            · exact HJ.out i h
            · omega⟩
        · show n - ((j : Int) + 1).toNat < n - (j : Int).toNat
          omega
      · obtain rfl : b = false := by
          cases b with
          | false => rfl
          | true => exact absurd ((HB.1 rfl).2 j hjn) (by omega)
        go_ret
        exact ⟨rfl, rfl⟩
    · have dj : decide ((j : Int) < (n : Int)) = false := decide_eq_false (by omega)
      go_wp2
      obtain rfl : b = true := HB.2 ⟨by omega, fun i hi => HJ.out i (by omega)⟩
      go_ret
      exact ⟨rfl, rfl⟩
end Go.Proofs.Yticiaiiedagalaa.dk
