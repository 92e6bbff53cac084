/- What serves every row's frame: what was read before the call reads the same behind it. -/
import Derived.Test.YticiaiiedagalaaPl1
import Derived.Carry
import Derived.SizedLaws
import Derived.Lib.Walk
import Derived.Test.YticiaiiedagalaaPl8
import Derived.Deep.Grids
import Derived.Test.YticiaiiedagalaaPl19
import Derived.Deep.DeepCutAuto
import Derived.Deep.CutBlock
namespace Go.Proofs.Yticiaiiedagalaa.dk
open Go.PlainAid Go.ChangeShapes Go.WideShapes Go.ChangeAt Go.RowKit

theorem laidOut : laidOutB Try.prog = true := by kernel_rfl
theorem trodAll_below {H : Type} {enc : TypeId × Value → H} {W W' : World} (hb : Below W.heap.size W W') :
    ∀ {ts : List TypeId} {vs : List Value} {ds : List (DataW H)} {ps : List MemPlace}, DataW.TrodAll enc Try.prog W 0 (fun _ => true) true ts vs ds ps →
    (∀ t ∈ ts, Try.prog.readableRec t = true ∧ t < Try.prog.types.size) → (∀ x ∈ ps, x.block < W.heap.size) →
    DataW.TrodAll enc Try.prog W' 0 (fun b => decide (b < W.heap.size)) true ts vs ds ps
  | [], [], [], _, h, _, _ => h
  | t :: ts, v :: vs, d :: ds, ps, h, hr, hlt => by
    obtain ⟨p, q, h1, h2, rfl⟩ := h
    have hk := hr t (List.mem_cons_self ..)
    exact ⟨p, q, Below.trod laidOut hk.1 hk.2 h1 hb (fun x hx => hlt x (List.mem_append_left _ hx)), trodAll_below hb h2 (fun t' ht' => hr t' (List.mem_cons_of_mem _ ht')) (fun x hx => hlt x (List.mem_append_right _ hx)), rfl⟩
end Go.Proofs.Yticiaiiedagalaa.dk
/- Arguments of bytes and of bools, opened. -/
namespace Go.Proofs.Yticiaiiedagalaa.dk
open Go.PlainAid Go.ChangeShapes Go.WideShapes Go.ChangeAt Go.RowKit
open Go.Deep (open_bools boolRow)

theorem cByte1 : Try.prog.cellsOf 5 = 1 := by kernel_rfl
theorem cBool1 : Try.prog.cellsOf 4 = 1 := by kernel_rfl
theorem bytesByte : Try.prog.bytesOf 5 = 1 := by kernel_rfl
theorem bytesBool : Try.prog.bytesOf 4 = 1 := by kernel_rfl
theorem open_bytesR {H : Type} {enc : TypeId × Value → H} {W : World} {v : Value} {d : DataW H} {p : List MemPlace} (hsl : ∃ a n c, v = .slice a n c)
    (hj : DataW.Trod enc Try.prog W 0 (fun _ => true) true 45 v d p) :
    ∃ (a : Option Addr) (n c : Nat) (l : List Int), v = .slice a n c ∧ (∀ x ∈ l, 0 ≤ x ∧ x ≤ 255) ∧ Rd W a n l ∧ (n = 0 ∨ ∃ el sp, d = .slice el sp ∧ el.length = n) := by
  obtain ⟨a0, n0, c0, rfl⟩ := hsl
  obtain ⟨fuel, hf⟩ := hj
  have hf' : DataW.trod enc Try.prog W 0 (fun _ => true) true fuel 45 [.slice a0 n0 c0] = some (d, p) := hf
  rcases open_ints Try.underlying45 Try.underlying5 cByte1 hf' with ⟨hcs, hx⟩ | ⟨a, n, c, zs, hcs, _, hl, hm, hz, hx, hcell, hwf⟩
  · have hv : Value.slice a0 n0 c0 = .slice none 0 0 := (List.cons.inj hcs).1
    rw [hv]
    exact ⟨none, 0, 0, [], rfl, fun x hx => by simp at hx, ⟨rfl, fun h => absurd h (by omega)⟩, .inl rfl⟩
  · have hv : Value.slice a0 n0 c0 = .slice (some a) n c := (List.cons.inj hcs).1
    have hd : d = .slice (lits .u8 (zs.take n)) (lits .u8 (zs.drop n)) := (Prod.mk.inj hx).1
    simp only [if_true] at hz
    have hln : (zs.take n).length = n := by simp; omega
    refine ⟨some a, n, c, zs.take n, hv, fun x hx => ?_, ⟨hln, fun h0 => ?_⟩, .inr ⟨_, _, hd, by simp [lits]; omega⟩⟩
    · have := hwf x (List.mem_of_mem_take hx)
      simpa [Lit.wf, IntKind.min, IntKind.max, IntKind.signed, IntKind.bits] using this
    · obtain ⟨b, off, rfl, hc⟩ := ints_at hcell (by omega)
      refine ⟨b, off, rfl, World.block_lt_of_cell? _ _ (hc 0 (by omega)), fun i hi => ?_⟩
      rw [hc i (by omega)]
      congr 2
      rw [List.getD_eq_getElem?_getD, List.getD_eq_getElem?_getD, List.getElem?_take, if_pos (by omega)]
theorem bytes_sized {H : Type} {ts : List TypeId} {ds : List (DataW H)} {j n : Nat} {d : DataW H} (hsz : (DataW.weightsEach Try.prog ts ds).all (· ≤ reachBytes) = true) (ht : ts[j]? = some 45) (hd : ds[j]? = some d)
    (h : n = 0 ∨ ∃ el sp, d = .slice el sp ∧ el.length = n) : n ≤ 140737488351232 := by
  rcases h with rfl | ⟨el, sp, rfl, hel⟩
  · omega
  · have := sized_slice hsz ht hd Try.underlying45
    rw [bytesByte] at this
    unfold reachBytes at this
    omega
theorem open_boolsR {H : Type} {enc : TypeId × Value → H} {W : World} {v : Value} {d : DataW H} {p : List MemPlace} (hsl : ∃ a n c, v = .slice a n c)
    (hj : DataW.Trod enc Try.prog W 0 (fun _ => true) true 46 v d p) :
    ∃ (a : Option Addr) (n c : Nat) (l : List Bool), v = .slice a n c ∧ Kb W.heap.size W a n l ∧ (n = 0 ∨ ∃ el sp, d = .slice el sp ∧ el.length = n) := by
  obtain ⟨a0, n0, c0, rfl⟩ := hsl
  obtain ⟨fuel, hf⟩ := hj
  have hf' : DataW.trod enc Try.prog W 0 (fun _ => true) true fuel 46 [.slice a0 n0 c0] = some (d, p) := hf
  rcases open_bools Try.underlying46 Try.underlying4 cBool1 hf' with ⟨hcs, hx⟩ | ⟨a, n, c, Z, hcs, _, hl, hm, hx, hcell⟩
  · have hv : Value.slice a0 n0 c0 = .slice none 0 0 := (List.cons.inj hcs).1
    rw [hv]
    exact ⟨none, 0, 0, [], rfl, ⟨rfl, fun h => absurd h (by omega)⟩, .inl rfl⟩
  · have hv : Value.slice a0 n0 c0 = .slice (some a) n c := (List.cons.inj hcs).1
    have hd : d = boolRow (some a) n c Z := (Prod.mk.inj hx).1
    refine ⟨some a, n, c, (List.range n).map Z, hv, ⟨by simp, fun h0 => ?_⟩, .inr ⟨_, _, hd, by simp⟩⟩
    obtain ⟨b, off, spot⟩ := a
    have hspot : spot = none := by simpa [Addr.add] using World.cell?_spot (hcell 0 (by omega))
    subst hspot
    have hc : ∀ i, i < c → W.cell? ⟨b, off + i, none⟩ = some (.bool (Z i)) := fun i hi => by rw [← add_off]; exact hcell i hi
    refine ⟨b, off, rfl, World.block_lt_of_cell? _ _ (hc 0 (by omega)), fun i hi => ?_⟩
    rw [hc i (by omega)]
    congr 2
    rw [List.getD_eq_getElem?_getD, List.getElem?_map, List.getElem?_range (by omega)]
    rfl
theorem bools_sized {H : Type} {ts : List TypeId} {ds : List (DataW H)} {j n : Nat} {d : DataW H} (hsz : (DataW.weightsEach Try.prog ts ds).all (· ≤ reachBytes) = true) (ht : ts[j]? = some 46) (hd : ds[j]? = some d)
    (h : n = 0 ∨ ∃ el sp, d = .slice el sp ∧ el.length = n) : n ≤ 140737488351232 := by
  rcases h with rfl | ⟨el, sp, rfl, hel⟩
  · omega
  · have := sized_slice hsz ht hd Try.underlying46
    rw [bytesBool] at this
    unfold reachBytes at this
    omega
end Go.Proofs.Yticiaiiedagalaa.dk
/- Records that are the same; records outside the disk; arguments of numbers. -/
namespace Go.Proofs.Yticiaiiedagalaa.dk
open Go.PlainAid Go.ChangeShapes Go.WideShapes Go.ChangeAt Go.RowKit

/-- A slice whose elements read as these. -/
def Rr (W : World) (p : Option Addr) (n : Nat) (R : Nat → List Int) : Prop := ∀ i, i < n → ∃ g q c, p = some ⟨g, 0, none⟩ ∧ g < W.heap.size ∧ W.cell? ⟨g, i, none⟩ = some (.slice q (R i).length c) ∧ Rd W q (R i).length (R i)
theorem Rr.below {W W' : World} {p : Option Addr} {n : Nat} {R : Nat → List Int} (h : Rr W p n R) (hb : Below W.heap.size W W') : Rr W' p n R := fun i hi => by
  obtain ⟨g, q, c, e, hl, h1, h2⟩ := h i hi
  exact ⟨g, q, c, e, Nat.lt_of_lt_of_le hl hb.size, (hb.cell (p := ⟨g, i, none⟩) hl).trans h1, h2.below hb⟩
theorem RecAt.rr {B n cc m : Nat} {p : Option Addr} {R : List (List Int)} {vs : List Value} {W : World} (h : RecAt B (.slice p n cc) R vs W) (hm : m ≤ R.length) : Rr W p m (fun i => R.getD i []) := fun i hi => by
  obtain ⟨g, q, c, e, h1, h2⟩ := h.get i (by omega)
  exact ⟨g, q, c, e, World.block_lt_of_cell? _ _ h1, h1, h2⟩
set_option maxHeartbeats 4000000 in
set_option maxRecDepth 100000 in
theorem Same_any (w : World) (p q : Option Addr) (n c d : Nat) (R : Nat → List Int) (ha : Rr w p n R) (hb : Rr w q n R) (hn : n ≤ 100000) :
    Calls Try.prog 15 #[.slice p n c, .slice q n d] w fun e w' => e = .returned (.bool true) ∧ ∃ y, w' = w.drewN y := by
  have HA := Lib.hid ha
  have HB := Lib.hid hb
  clear ha hb
  go_enter Try.func15, Try.ntmps15
  go_wp2_with fail
  go_loopw [5] (fun v wr => ∃ j : Nat, v = .int .i64 (j : Int) ∧ j ≤ n ∧ Hid (Rr wr p n R) ∧ Hid (Rr wr q n R) ∧ Hid (∃ y, wr = w.drewN y)) (fun v _ => n - (intOf v).toNat)
  case atStart => exact ⟨0, rfl, Nat.zero_le _, HA.out, HB.out, 0, rfl⟩
  case round =>
    clear HA HB
    obtain ⟨j, rfl, hj, HA, HB, HY⟩ := hrel
    by_cases hjn : j < n
    · have dj : decide ((j : Int) < (n : Int)) = true := decide_eq_true (by omega)
      obtain ⟨g1, q1, c1, rfl, _, k1, r1⟩ := HA.out j hjn
      obtain ⟨g2, q2, c2, rfl, _, k2, r2⟩ := HB.out j hjn
      have V1 : ∀ z, (convert 45 9 (.slice q1 (R j).length c1)).run Try.prog (wr.drewN z) = .ok (.string (strOf (R j))) (wr.drewN z) := fun z => conv_rd (r1.below (below_drewN (Below.refl _ _) _))
      have V2 : ∀ z, (convert 45 9 (.slice q2 (R j).length c2)).run Try.prog (wr.drewN z) = .ok (.string (strOf (R j))) (wr.drewN z) := fun z => conv_rd (r2.below (below_drewN (Below.refl _ _) _))
      clear r1 r2
      generalize (R j).length = m at k1 k2 V1 V2
      generalize strOf (R j) = s at V1 V2
      go_wp2_with fail
      go_quiet (fail)
      go_wp2
      constructor
      · obtain ⟨y, hy⟩ := HY.out
        exact ⟨j + 1, by go_num, by omega, HA.out.below (below_drewN (Below.refl _ _) _), HB.out.below (below_drewN (Below.refl _ _) _), _, by rw [hy, World.drewN_drewN]⟩
      · show n - ((j : Int) + 1).toNat < n - (j : Int).toNat
        omega
    · have dj : decide ((j : Int) < (n : Int)) = false := decide_eq_false (by omega)
      go_wp2_with fail
      go_ret
      exact ⟨rfl, HY.out⟩
/-- Records that lie outside the disk stay. -/
theorem RecAt.lk {B B2 D L N A : Nat} {P P' : Value} {m : Dk} {w w' : World} {v : Value} {R : List (List Int)} {vs : List Value} (h : RecAt B2 v R vs w) (hd : DiskAt B D L N P m w) (hD : D < B2) (hL : L < B2) (hN : N < B2) (hA : A < B2) (k : LkF B D L N P A w P' w') : RecAt B2 v R vs w' := by
  have key : ∀ (g : Nat) (cur : Array Value) (t : TypeId), w.heap[g]? = some (.cells cur t (0, 0)) → t ≠ 90 → B2 ≤ g → w'.heap[g]? = w.heap[g]? := fun g cur t hg ht hB => by
    refine k.fr g (Array.getElem?_eq_some_iff.1 hg).1 ?_ (by omega)
    rintro (e | e | e | e)
    · omega
    · omega
    · omega
    · obtain ⟨cur2, hc⟩ := owned_type hd.hP e
      exact row_ne hc hg (fun e => ht e.symm) rfl
  refine ⟨owned_keeps h.own fun g hg => ?_, fun i hi => ?_⟩
  · obtain ⟨cur, hc⟩ := owned_type h.own hg
    exact key g _ _ hc (by decide) (h.own.lt g hg).1
  · obtain ⟨q, cc, e, ho⟩ := h.el i hi
    refine ⟨q, cc, e, owned_keeps ho fun g hg => ?_⟩
    obtain ⟨cur, hc⟩ := owned_type ho hg
    exact key g _ _ hc (by decide) (ho.lt g hg).1
theorem row_owned {B G k : Nat} {l : List Int} {W : World} (h : RowB G l W) (hl : l.length = k) (hB : B ≤ G) (hk : k ≤ 100000) : W.ownsRow B 5 1 (.slice (some ⟨G, 0, none⟩) l.length k) l.length (bcells l) :=
  ⟨by rw [bcells_length, Nat.mul_one], .inr ⟨G, k, _, rfl, hB, h, by omega, by unfold maxLen; omega, by simp [bcells]; omega, by rw [List.take_of_length_le (by simp [bcells])]⟩⟩
/-- Numbers below B. -/
def Ri (B : Nat) (W : World) (p : Option Addr) (n : Nat) (l : List Int) : Prop := l.length = n ∧ (0 < n → ∃ b off, p = some ⟨b, off, none⟩ ∧ b < B ∧ ∀ i, i < n → W.cell? ⟨b, off + i, none⟩ = some (.int .i64 (l.getD i 0)))
theorem Ri.below {B : Nat} {W W' : World} {p : Option Addr} {n : Nat} {l : List Int} (h : Ri B W p n l) (hb : Below B W W') : Ri B W' p n l := by
  refine ⟨h.1, fun h0 => ?_⟩
  obtain ⟨b, off, e, hlt, hc⟩ := h.2 h0
  exact ⟨b, off, e, hlt, fun i hi => by rw [hb.cell hlt]; exact hc i hi⟩
theorem cInt1 : Try.prog.cellsOf 3 = 1 := by kernel_rfl
theorem open_intsR {H : Type} {enc : TypeId × Value → H} {W : World} {v : Value} {d : DataW H} {p : List MemPlace} (hsl : ∃ a n c, v = .slice a n c)
    (hj : DataW.Trod enc Try.prog W 0 (fun _ => true) true 57 v d p) :
    ∃ (a : Option Addr) (n c : Nat) (l : List Int), v = .slice a n c ∧ Ri W.heap.size W a n l := by
  obtain ⟨a0, n0, c0, rfl⟩ := hsl
  obtain ⟨fuel, hf⟩ := hj
  have hf' : DataW.trod enc Try.prog W 0 (fun _ => true) true fuel 57 [.slice a0 n0 c0] = some (d, p) := hf
  rcases open_ints Try.underlying57 Try.underlying3 cInt1 hf' with ⟨hcs, hx⟩ | ⟨a, n, c, zs, hcs, _, hl, hm, hz, hx, hcell, hwf⟩
  · have hv : Value.slice a0 n0 c0 = .slice none 0 0 := (List.cons.inj hcs).1
    rw [hv]
    exact ⟨none, 0, 0, [], rfl, ⟨rfl, fun h => absurd h (by omega)⟩⟩
  · have hv : Value.slice a0 n0 c0 = .slice (some a) n c := (List.cons.inj hcs).1
    simp only [if_true] at hz
    have hln : (zs.take n).length = n := by simp; omega
    refine ⟨some a, n, c, zs.take n, hv, ⟨hln, fun h0 => ?_⟩⟩
    obtain ⟨b, off, rfl, hc⟩ := ints_at hcell (by omega)
    refine ⟨b, off, rfl, World.block_lt_of_cell? _ _ (hc 0 (by omega)), fun i hi => ?_⟩
    rw [hc i (by omega)]
    congr 2
    rw [List.getD_eq_getElem?_getD, List.getD_eq_getElem?_getD, List.getElem?_take, if_pos (by omega)]
end Go.Proofs.Yticiaiiedagalaa.dk
/- JournalKeeps: what was told to be laid is there. -/
namespace Go.Proofs.Yticiaiiedagalaa.dk
open Go.PlainAid Go.ChangeShapes Go.WideShapes Go.ChangeAt Go.RowKit

/-- The t-th record. -/
def fK (l : List Int) (t : Nat) : List Int := bsOf ((l.getD t 0) % 128).toNat (t : Int)
theorem fK_len (l : List Int) (t : Nat) : (fK l t).length ≤ 127 := by unfold fK; rw [bsOf_len]; omega
theorem fK_need (l : List Int) (t : Nat) : needN (fK l t).length ≤ 3 := by
  have h := fK_len l t
  have := needN_bd (fK l t).length
  split at this <;> omega
theorem fK_pl (l : List Int) : ∀ j, plK (fK l) j ≤ 3 * j
  | 0 => Nat.le_refl _
  | j + 1 => by
    have := fK_pl l j
    have := fK_need l j
    show plK (fK l) j + _ ≤ _
    omega
theorem owned_cap {w : World} {B s n c : Nat} {t : TypeId} {p : Option Addr} {xs : List Value} (h : w.ownsRow B t s (.slice p n c) n xs) : n ≤ c ∧ (0 < n → ∃ g, p = some ⟨g, 0, none⟩) := by
  rcases h.2 with ⟨hv, h0⟩ | ⟨g, cap, cur, hv, _, _, hn, _⟩
  · exact ⟨by omega, fun h => absurd h (by omega)⟩
  · injection hv with hp _ hc
    exact ⟨by omega, fun _ => ⟨g, hp⟩⟩
theorem grown_row {B2 : Nat} {v : Value} {R : List (List Int)} {vs : List Value} {W W' : World} (hr : RecAt B2 v R vs W) (hg : W.grownBy W' v.ownBlock) {g : Nat} {cur : Array Value} {t : TypeId} (hc : W.heap[g]? = some (.cells cur t (0, 0))) (ht : t ≠ 45) : W'.heap[g]? = W.heap[g]? :=
  hg.block g (Array.getElem?_eq_some_iff.1 hc).1 fun e => by
    obtain ⟨cur2, hc2⟩ := owned_type hr.own e.symm
    exact row_ne hc hc2 ht rfl
theorem DiskAt.grown {B D L N B2 : Nat} {P : Value} {m : Dk} {v : Value} {R : List (List Int)} {vs : List Value} {W W' : World} (h : DiskAt B D L N P m W) (hr : RecAt B2 v R vs W) (hg : W.grownBy W' v.ownBlock) : DiskAt B D L N P m W' :=
  { h with
    hD := (grown_row hr hg h.hD (by decide)).trans h.hD
    hL := (grown_row hr hg h.hL (by decide)).trans h.hL
    hN := (grown_row hr hg h.hN (by decide)).trans h.hN
    hP := owned_keeps h.hP fun g hgb => by
      obtain ⟨cur, hc⟩ := owned_type h.hP hgb
      exact grown_row hr hg hc (by decide) }
theorem LogAt.grown {A B2 : Nat} {g : Lg} {v : Value} {R : List (List Int)} {vs : List Value} {W W' : World} (h : LogAt A g W) (hr : RecAt B2 v R vs W) (hg : W.grownBy W' v.ownBlock) : LogAt A g W' := (grown_row hr hg h (by decide)).trans h
/-- What is held at the loop's head: j records are laid; the disk lives, or it died at the next one. -/
structure KA (w : World) (l : List Int) (B D L N A B2 j : Nat) (m : Dk) (P : Value) (p : Option Addr) (cc : Nat) (vs : List Value) (W : World) : Prop where
  d : DiskAt B D L N P m W
  r : RecAt B2 (.slice p j cc) (bsK (fK l) j) vs W
  b : Below w.heap.size w W
  n : m.n = 64
  wr : m.writes ≤ 1000 * j + 2000
  sz : B2 ≤ W.heap.size
structure KLive (l : List Int) (D A j : Nat) (m : Dk) (W : World) : Prop where
  g : LogAt A { d := D, frm := 0, n := 64, place := plK (fK l) j, num := (j : Int) + 1, ses := 1, broken := false } W
  liv : Liv m
  lim : 0 ≤ m.limit
  wr : m.writes ≤ 1000 * j + 1000
  seq : SeqN (fK l) 64 j (fun x => secOf m.now x)
def KDead (l : List Int) (B2 D j : Nat) (m : Dk) (v : Value) (W : World) : Prop := ∃ mp G k, Liv mp ∧ mp.n = 64 ∧ mp.writes ≤ 1000 * j + 1000 ∧ SeqN (fK l) 64 j (fun x => secOf mp.now x) ∧
  Torn { d := D, frm := 0, n := 64, place := plK (fK l) j, num := (j : Int) + 1, ses := 1, broken := false } (fK l j) (needN (fK l j).length) k mp m ∧ v = .slice (some ⟨G, 0, none⟩) (fK l j).length (fK l j).length ∧ RowB G (fK l j) W ∧ B2 ≤ G
theorem fK_few (l : List Int) (j : Nat) (h : j ≤ 100) : Few (fK l) j := ⟨h, fun t _ => by have := fK_need l t; omega⟩
/-- What is told when it is opened again. -/
theorem keep_told {l : List Int} {B2 D j : Nat} {m : Dk} {v : Value} {W : World} (hj : j ≤ 20) (hn : m.n = 64) (hl : (Liv m ∧ SeqN (fK l) 64 j (fun x => secOf m.now x)) ∨ (j < 20 ∧ KDead l B2 D j m v W)) (kb : List Bool) :
    Bys (reopened kb m).now ∧ sesOf (reopened kb m).now 0 64 ≠ 4294967295 ∧ ((toldOf (reopened kb m).now 0 64).2.2 = bsK (fK l) j ∨ (m.dead = true ∧ (toldOf (reopened kb m).now 0 64).2.2 = bsK (fK l) (j + 1))) := by
  rcases hl with ⟨h1, h2⟩ | ⟨hj20, mp, G, k, h1, hmn, _, h2, h3, _, _⟩
  · have ha := liv_reopen h1 kb
    have hs : SeqN (fK l) 64 j (fun x => secOf (reopened kb m).now x) := ⟨h2.fit, fun t ht i hi => by
      have := plK_in (fK l) (t := t) (j := j) ht
      have := h2.fit
      show secOf (reopened kb m).now _ = _
      rw [ha.sec _ (by omega)]
      exact h2.rec_ t ht i hi, fun x hx hn' => by
      show secOf (reopened kb m).now _ = _
      rw [ha.sec _ (by omega)]
      exact h2.zero x hx hn'⟩
    refine ⟨ha.liv.bn, ses_small (fun x hx => pc_S ?_), .inl (told_seq (fK_few l j (by omega)) hs)⟩
    rw [Nat.zero_add]
    exact seq_pc hs x hx
  · have hpl := fK_pl l j
    have hnd := fK_need l j
    have hmn' : mp.n = 64 := hmn
    have ha := torn_reopen h3 h1 (bsOf_bys _ _) (by show 0 + plK (fK l) j + _ ≤ mp.n; omega) (by omega) kb
    have hsec : ∀ x, x < 64 → secOf (reopened kb m).now x = if (plK (fK l) j ≤ x ∧ x < plK (fK l) j + k) ∧ kb.getD (x - plK (fK l) j) false = true then pieceOf 1 ((j : Int) + 1) (fK l j) (needN (fK l j).length) (x - plK (fK l) j) else secOf mp.now x := fun x hx => by
      have := ha.sec x (by omega)
      rw [this]
      show (if (0 + plK (fK l) j ≤ x ∧ x < 0 + plK (fK l) j + k) ∧ kb.getD (x - (0 + plK (fK l) j)) false = true then pieceOf 1 ((j : Int) + 1) (fK l j) (needN (fK l j).length) (x - (0 + plK (fK l) j)) else secOf mp.now x) = _
      rw [Nat.zero_add]
    refine ⟨ha.liv.bn, ses_small (fun x hx => pc_S ?_), ?_⟩
    · rw [Nat.zero_add, hsec x hx]
      split
      · exact .inr ⟨_, _, _, _, rfl⟩
      · exact seq_pc h2 x hx
    · rcases told_torn (fK_few l (j + 1) (by omega)) h2 (by omega) h3.kc hsec with h | h
      · exact .inl h
      · exact .inr ⟨h3.dead, h⟩
theorem RowB.lk {B B2 D L N A G : Nat} {P P' : Value} {m : Dk} {w w' : World} {b : List Int} (h : RowB G b w) (hd : DiskAt B D L N P m w) (hD : D < B2) (hL : L < B2) (hN : N < B2) (hA : A < B2) (hG : B2 ≤ G) (k : LkF B D L N P A w P' w') : RowB G b w' := by
  refine (k.fr G (Array.getElem?_eq_some_iff.1 h).1 ?_ (by omega)).trans h
  rintro (e | e | e | e)
  · omega
  · omega
  · omega
  · obtain ⟨cur2, hc⟩ := owned_type hd.hP e
    exact row_ne hc h (by decide) rfl
theorem bsK_getD (f : Nat → List Int) {i j : Nat} (h : i < j) : (bsK f j).getD i [] = f i := by
  rw [List.getD_eq_getElem?_getD, List.getElem?_eq_getElem (by rw [bsK_len]; exact h)]
  simp [bsK]
theorem RecAt.rrK {B n cc m j : Nat} {p : Option Addr} {f : Nat → List Int} {vs : List Value} {W : World} (h : RecAt B (.slice p n cc) (bsK f j) vs W) (hm : m ≤ j) : Rr W p m f := fun i hi => by
  have : ∃ g q c, p = some ⟨g, 0, none⟩ ∧ g < W.heap.size ∧ W.cell? ⟨g, i, none⟩ = some (.slice q ((bsK f j).getD i []).length c) ∧ Rd W q ((bsK f j).getD i []).length ((bsK f j).getD i []) := h.rr (m := m) (by rw [bsK_len]; exact hm) i hi
  rw [bsK_getD f (show i < j by omega)] at this
  exact this
theorem RecAt.cap {B n cc : Nat} {p : Option Addr} {R : List (List Int)} {vs : List Value} {W : World} (h : RecAt B (.slice p n cc) R vs W) (hn : R.length = n) : n ≤ cc ∧ (p = none → n = 0 ∧ cc = 0) ∧ ∀ a, p = some a → a.spot = none := by
  have ho := h.own
  rw [hn] at ho
  rcases ho.2 with ⟨hv, h0⟩ | ⟨g, cap, cur, hv, _, _, hn, _⟩
  · injection hv with hp _ hc
    subst hp
    exact ⟨by omega, (fun _ => ⟨h0, hc⟩), fun a e => nomatch e⟩
  · injection hv with hp _ hc
    subst hp
    exact ⟨by omega, (fun e => nomatch e), fun a e => by injection e with e; rw [← e]⟩
theorem Kb.up {B B' : Nat} {W : World} {q : Option Addr} {n : Nat} {kb : List Bool} (h : Kb B W q n kb) (hB : B ≤ B') : Kb B' W q n kb := ⟨h.1, fun h0 => by
  obtain ⟨b, off, e, hlt, hc⟩ := h.2 h0
  exact ⟨b, off, e, Nat.lt_of_lt_of_le hlt hB, hc⟩⟩
theorem keep_pend {l : List Int} {B2 D A j n : Nat} {m : Dk} {v : Value} {W : World} (h : KLive l D A j m W ∨ (j < n ∧ KDead l B2 D j m v W)) : m.pend.length ≤ 1000000 := by
  rcases h with h | ⟨_, mp, G, k, _, _, _, _, h3, _, _⟩
  · rw [h.liv.pend]; decide
  · rw [h3.mid.pend, pcsOf_len]
    have := h3.kc
    have := fK_need l j
    omega
end Go.Proofs.Yticiaiiedagalaa.dk
