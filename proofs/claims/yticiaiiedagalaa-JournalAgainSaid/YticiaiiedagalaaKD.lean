/- Records that are the same; records outside the disk; arguments of numbers. -/
import Derived.Test.YticiaiiedagalaaKC
import Derived.Test.YticiaiiedagalaaDFrameB
namespace Go.Proofs.Yticiaiiedagalaa.dk
open Go.PlainAid Go.ChangeShapes Go.WideShapes Go.ChangeAt Go.RowKit

/-- A slice whose elements read as these. -/
def Rr (W : World) (p : Option Addr) (n : Nat) (R : Nat → List Int) : Prop := ∀ i, i < n → ∃ g q c, p = some ⟨g, 0, none⟩ ∧ g < W.heap.size ∧ W.cell? ⟨g, i, none⟩ = some (.slice q (R i).length c) ∧ Rd W q (R i).length (R i)
theorem Rr.below {W W' : World} {p : Option Addr} {n : Nat} {R : Nat → List Int} (h : Rr W p n R) (hb : Below W.heap.size W W') : Rr W' p n R := fun i hi => by
  obtain ⟨g, q, c, e, hl, h1, h2⟩ := h i hi
  exact ⟨g, q, c, e, Nat.lt_of_lt_of_le hl hb.size, (hb.cell (p := ⟨g, i, none⟩) hl).trans h1, h2.below hb⟩
theorem RecAt.rr {B n cc m : Nat} {p : Option Addr} {R : List (List Int)} {vs : List Value} {W : World} (h : RecAt B (.slice p n cc) R vs W) (hm : m ≤ R.length) : Rr W p m (fun i => R.getD i []) := fun i hi => by
  obtain ⟨g, q, c, e, h1, h2⟩ := h.get i (by omega)
  exact ⟨g, q, c, e, World.block_lt_of_cell? _ _ h1, h1, h2⟩
set_option maxHeartbeats 4000000 in
set_option maxRecDepth 100000 in
theorem Same_any (w : World) (p q : Option Addr) (n c d : Nat) (R : Nat → List Int) (ha : Rr w p n R) (hb : Rr w q n R) (hn : n ≤ 100000) :
    Calls Try.prog 15 #[.slice p n c, .slice q n d] w fun e w' => e = .returned (.bool true) ∧ ∃ y, w' = w.drewN y := by
  have HA := Lib.hid ha
  have HB := Lib.hid hb
  clear ha hb
  go_enter Try.func15, Try.ntmps15
  go_wp2_with fail
  go_loopw [5] (fun v wr => ∃ j : Nat, v = .int .i64 (j : Int) ∧ j ≤ n ∧ Hid (Rr wr p n R) ∧ Hid (Rr wr q n R) ∧ Hid (∃ y, wr = w.drewN y)) (fun v _ => n - (intOf v).toNat)
  case atStart => exact ⟨0, rfl, Nat.zero_le _, HA.out, HB.out, 0, rfl⟩
  case round =>
    clear HA HB
    obtain ⟨j, rfl, hj, HA, HB, HY⟩ := hrel
    by_cases hjn : j < n
    · have dj : decide ((j : Int) < (n : Int)) = true := decide_eq_true (by omega)
      obtain ⟨g1, q1, c1, rfl, _, k1, r1⟩ := HA.out j hjn
      obtain ⟨g2, q2, c2, rfl, _, k2, r2⟩ := HB.out j hjn
      have V1 : ∀ z, (convert 45 9 (.slice q1 (R j).length c1)).run Try.prog (wr.drewN z) = .ok (.string (strOf (R j))) (wr.drewN z) := fun z => conv_rd (r1.below (below_drewN (Below.refl _ _) _))
      have V2 : ∀ z, (convert 45 9 (.slice q2 (R j).length c2)).run Try.prog (wr.drewN z) = .ok (.string (strOf (R j))) (wr.drewN z) := fun z => conv_rd (r2.below (below_drewN (Below.refl _ _) _))
      clear r1 r2
      generalize (R j).length = m at k1 k2 V1 V2
      generalize strOf (R j) = s at V1 V2
      go_wp2_with fail
      go_quiet (fail)
      go_wp2
      constructor
      · obtain ⟨y, hy⟩ := HY.out
        exact ⟨j + 1, by go_num, by omega, HA.out.below (below_drewN (Below.refl _ _) _), HB.out.below (below_drewN (Below.refl _ _) _), _, by rw [hy, World.drewN_drewN]⟩
      · show n - ((j : Int) + 1).toNat < n - (j : Int).toNat
        omega
    · have dj : decide ((j : Int) < (n : Int)) = false := decide_eq_false (by omega)
      go_wp2_with fail
      go_ret
      exact ⟨rfl, HY.out⟩
/-- Records that lie outside the disk stay. -/
theorem RecAt.lk {B B2 D L N A : Nat} {P P' : Value} {m : Dk} {w w' : World} {v : Value} {R : List (List Int)} {vs : List Value} (h : RecAt B2 v R vs w) (hd : DiskAt B D L N P m w) (hD : D < B2) (hL : L < B2) (hN : N < B2) (hA : A < B2) (k : LkF B D L N P A w P' w') : RecAt B2 v R vs w' := by
  have key : ∀ (g : Nat) (cur : Array Value) (t : TypeId), w.heap[g]? = some (.cells cur t (0, 0)) → t ≠ 90 → B2 ≤ g → w'.heap[g]? = w.heap[g]? := fun g cur t hg ht hB => by
    refine k.fr g (Array.getElem?_eq_some_iff.1 hg).1 ?_ (by omega)
    rintro (e | e | e | e)
    · omega
    · omega
    · omega
    · obtain ⟨cur2, hc⟩ := owned_type hd.hP e
      exact row_ne hc hg (fun e => ht e.symm) rfl
  refine ⟨owned_keeps h.own fun g hg => ?_, fun i hi => ?_⟩
  · obtain ⟨cur, hc⟩ := owned_type h.own hg
    exact key g _ _ hc (by decide) (h.own.lt g hg).1
  · obtain ⟨q, cc, e, ho⟩ := h.el i hi
    refine ⟨q, cc, e, owned_keeps ho fun g hg => ?_⟩
    obtain ⟨cur, hc⟩ := owned_type ho hg
    exact key g _ _ hc (by decide) (ho.lt g hg).1
theorem row_owned {B G k : Nat} {l : List Int} {W : World} (h : RowB G l W) (hl : l.length = k) (hB : B ≤ G) (hk : k ≤ 100000) : W.ownsRow B 5 1 (.slice (some ⟨G, 0, none⟩) l.length k) l.length (bcells l) :=
  ⟨by rw [bcells_length, Nat.mul_one], .inr ⟨G, k, _, rfl, hB, h, by omega, by unfold maxLen; omega, by simp [bcells]; omega, by rw [List.take_of_length_le (by simp [bcells])]⟩⟩
/-- Numbers below B. -/
def Ri (B : Nat) (W : World) (p : Option Addr) (n : Nat) (l : List Int) : Prop := l.length = n ∧ (0 < n → ∃ b off, p = some ⟨b, off, none⟩ ∧ b < B ∧ ∀ i, i < n → W.cell? ⟨b, off + i, none⟩ = some (.int .i64 (l.getD i 0)))
theorem Ri.below {B : Nat} {W W' : World} {p : Option Addr} {n : Nat} {l : List Int} (h : Ri B W p n l) (hb : Below B W W') : Ri B W' p n l := by
  refine ⟨h.1, fun h0 => ?_⟩
  obtain ⟨b, off, e, hlt, hc⟩ := h.2 h0
  exact ⟨b, off, e, hlt, fun i hi => by rw [hb.cell hlt]; exact hc i hi⟩
theorem cInt1 : Try.prog.cellsOf 3 = 1 := by kernel_rfl
theorem open_intsR {H : Type} {enc : TypeId × Value → H} {W : World} {v : Value} {d : DataW H} {p : List MemPlace} (hsl : ∃ a n c, v = .slice a n c)
    (hj : DataW.Trod enc Try.prog W 0 (fun _ => true) true 57 v d p) :
    ∃ (a : Option Addr) (n c : Nat) (l : List Int), v = .slice a n c ∧ Ri W.heap.size W a n l := by
  obtain ⟨a0, n0, c0, rfl⟩ := hsl
  obtain ⟨fuel, hf⟩ := hj
  have hf' : DataW.trod enc Try.prog W 0 (fun _ => true) true fuel 57 [.slice a0 n0 c0] = some (d, p) := hf
  rcases open_ints Try.underlying57 Try.underlying3 cInt1 hf' with ⟨hcs, hx⟩ | ⟨a, n, c, zs, hcs, _, hl, hm, hz, hx, hcell, hwf⟩
  · have hv : Value.slice a0 n0 c0 = .slice none 0 0 := (List.cons.inj hcs).1
    rw [hv]
    exact ⟨none, 0, 0, [], rfl, ⟨rfl, fun h => absurd h (by omega)⟩⟩
  · have hv : Value.slice a0 n0 c0 = .slice (some a) n c := (List.cons.inj hcs).1
    simp only [if_true] at hz
    have hln : (zs.take n).length = n := by simp; omega
    refine ⟨some a, n, c, zs.take n, hv, ⟨hln, fun h0 => ?_⟩⟩
    obtain ⟨b, off, rfl, hc⟩ := ints_at hcell (by omega)
    refine ⟨b, off, rfl, World.block_lt_of_cell? _ _ (hc 0 (by omega)), fun i hi => ?_⟩
    rw [hc i (by omega)]
    congr 2
    rw [List.getD_eq_getElem?_getD, List.getD_eq_getElem?_getD, List.getElem?_take, if_pos (by omega)]
end Go.Proofs.Yticiaiiedagalaa.dk
