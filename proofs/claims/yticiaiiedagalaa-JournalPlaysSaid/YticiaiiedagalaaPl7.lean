/- newPiece: a piece's bytes are laid. -/
import Derived.Test.YticiaiiedagalaaPl6
import Derived.Deep.DeepCutAuto
import Derived.Deep.CutBlock
namespace Go.Proofs.Yticiaiiedagalaa.dk
open Go.PlainAid Go.ChangeShapes Go.WideShapes Go.ChangeAt Go.RowKit

/-- A row of bytes in a block of its own. -/
def RowB (G : Nat) (l : List Int) (W : World) : Prop := W.heap[G]? = some (.cells (bcells l).toArray 5 (0, 0))
theorem RowB.cell {G : Nat} {l : List Int} {W : World} (h : RowB G l W) (i : Nat) (hi : i < l.length) : W.cell? ⟨G, i, none⟩ = some (.int .u8 (l.getD i 0)) := by
  rw [cell_of_row _ _ _ _ _ _ h, List.getElem?_toArray, bcells_at l i hi]
theorem RowB.frozen {G : Nat} {l : List Int} {W : World} (h : RowB G l W) (i : Nat) : W.frozen? ⟨G, i, none⟩ = false := by
  simp [World.frozen?, show W.heap[G]? = _ from h]
theorem RowB.lt {G : Nat} {l : List Int} {W : World} (h : RowB G l W) : G < W.heap.size := (Array.getElem?_eq_some_iff.1 h).1
theorem RowB.below {G : Nat} {l : List Int} {W W' : World} (h : RowB G l W) (hb : Below W.heap.size W W') : RowB G l W' := (hb.block _ h.lt).trans h
theorem RowB.rd {G n : Nat} {l : List Int} {W : World} (h : RowB G l W) (hn : l.length = n) : Rd W (some ⟨G, 0, none⟩) n l :=
  ⟨hn, fun _ => ⟨G, 0, rfl, h.lt, fun i hi => by rw [Nat.zero_add]; exact h.cell i (by omega)⟩⟩
theorem RowB.set {G B : Nat} {l : List Int} {W W0 : World} (h : RowB G l W) (i : Nat) (v : Int) (hB : B ≤ G) (hb : Below B W0 W) :
    RowB G (l.set i v) (W.setCell ⟨G, i, none⟩ (.int .u8 v)) ∧ Below B W0 (W.setCell ⟨G, i, none⟩ (.int .u8 v)) := by
  rw [setCell_eq_setRow W G i _ _ _ (.int .u8 v) h]
  have e : (bcells l).toArray.setIfInBounds i (.int .u8 v) = (bcells (l.set i v)).toArray := by
    simp [bcells, List.map_set]
  rw [e]
  exact ⟨setRow_heap W G _ _ _ _ h, below_setRow hb hB _⟩
def sh (k : Nat) : Int := [16777216, 65536, 256, 1].getD k 1
def st1 (s n : Int) (L : List Int) : Nat → List Int
  | 0 => L
  | k + 1 => ((st1 s n L k).set (2 + k) (s / sh k % 256)).set (6 + k) (n / sh k % 256)
def st2 (p c : Int) (L : List Int) : Nat → List Int
  | 0 => L
  | k + 1 => ((st2 p c L k).set (10 + k) (p / sh (2 + k) % 256)).set (12 + k) (c / sh (2 + k) % 256)
def st0 (len : Int) : List Int := (((List.replicate 64 0).set 0 165).set 1 90).set 14 len
theorem st1_len (s n : Int) (L : List Int) : ∀ k, (st1 s n L k).length = L.length
  | 0 => rfl
  | k + 1 => by simp [st1, st1_len s n L k]
theorem st2_len (s n : Int) (L : List Int) : ∀ k, (st2 s n L k).length = L.length
  | 0 => rfl
  | k + 1 => by simp [st2, st2_len s n L k]
theorem st_mk (s n p c : Int) (b : List Int) (hb : b.length ≤ 48) : lay (st2 p c (st1 s n (st0 b.length) 4) 2) 16 b = mk s n p c b := by
  have e : st2 p c (st1 s n (st0 b.length) 4) 2 = ([165, 90] ++ by4 s ++ by4 n ++ by2 p ++ by2 c ++ [(b.length : Int), 0]) ++ List.replicate 48 0 := rfl
  rw [e]
  unfold lay mk
  rw [List.drop_append]
  have h16 : ([165, 90] ++ by4 s ++ by4 n ++ by2 p ++ by2 c ++ [(b.length : Int), 0]).length = 16 := rfl
  rw [h16, List.drop_eq_nil_of_le (by omega), List.take_append_of_le_length (Nat.le_of_eq h16.symm), List.take_of_length_le (Nat.le_of_eq h16), List.nil_append, List.drop_replicate]
  congr 2
  omega
theorem make64 : ∃ zs : Array Value, zs = (bcells (List.replicate 64 0)).toArray ∧ ∀ W : World, (Instr.makeSlice 74 (.int .i64 64) (.int .i64 64)).run Try.prog W = .ok (.slice (some ⟨W.heap.size, 0, none⟩) 64 64) (W.alloc (.cells zs 5)) := by
  refine ⟨_, rfl, fun W => ?_⟩
  obtain ⟨i0, hi, hz0, hz1, hz2⟩ := info_parts infoByte
  have hm := run_make (P := Try.prog) W 74 5 i0 (.int .u8 0) Try.underlying74 hi hz0 .i64 .i64 64 64 (by omega) (by omega) (by rw [hz2]; omega) (by omega)
  rw [hz1, Nat.mul_one, show ((64 : Int)).toNat = 64 from rfl, show (Value.int .u8 0).cells = #[Value.int .u8 0] from rfl, made_zeros] at hm
  exact hm
theorem copy_lay {W W0 : World} {G B off k c dl : Nat} {p : Option Addr} {l b : List Int} (hg : RowB G l W) (hR : Rd W p k b) (hf : off + k ≤ l.length) (hk : k ≤ dl) (hB : B ≤ G) (hb : Below B W0 W) :
    ∃ W3, (Builtin.copy_ #[74, 45] 3 #[.slice (some ⟨G, off, none⟩) dl dl, .slice p k c]).run Try.prog W = .ok (.int .i64 (k : Int)) W3 ∧ RowB G (lay l off b) W3 ∧ Below B W0 W3 := by
  have hsz : (Try.prog.info? 5).map (·.size) = some 1 := by kernel_rfl
  rcases Nat.eq_zero_or_pos k with rfl | h0
  · refine ⟨W, run_copy_none _ _ _ _ 5 _ _ _ _ _ _ Try.underlying74 hsz (by simp), ?_, hb⟩
    have : b = [] := List.length_eq_zero_iff.1 hR.1
    subst this
    rw [show lay l off [] = l by unfold lay; simp]
    exact hg
  · obtain ⟨ad, rfl, hsrc⟩ := hR.news (by rw [bcells_length, hR.1]; exact h0)
    have hbl := hR.1
    have hcp := run_copy_row (P := Try.prog) W 74 45 3 5 G off dl dl ad k c _ 5 (bcells b) Try.underlying74 hsz hg (by rw [bcells_length, hbl]; exact (Nat.min_eq_left hk).symm) hsrc (by rw [bcells_length, hbl]; simp [bcells_length]; omega) (bcells_one b)
    rw [List.append_assoc, lay_cells, bcells_length, hbl] at hcp
    exact ⟨_, hcp, setRow_heap W G _ _ _ _ hg, below_setRow hb hB _⟩
def PiecePost (w : World) (l : List Int) (e : Ending) (w' : World) : Prop := ∃ G, e = .returned (.slice (some ⟨G, 0, none⟩) 64 64) ∧ w.heap.size ≤ G ∧ RowB G l w' ∧ Below w.heap.size w w'
set_option maxHeartbeats 4000000 in
set_option maxRecDepth 100000 in
theorem newPiece_any (w : World) (s n pl ct : Int) (p : Option Addr) (k c : Nat) (b : List Int) (hb : Rd w p k b) (hk : k ≤ 48) (hs : 0 ≤ s ∧ s ≤ 4294967295) (hn : 0 ≤ n ∧ n ≤ 4294967295) (hp : 0 ≤ pl ∧ pl ≤ 65535) (hc : 0 ≤ ct ∧ ct ≤ 65535) :
    Calls Try.prog 57 #[.int .u32 s, .int .u32 n, .int .i64 pl, .int .i64 ct, .slice p k c] w (PiecePost w (mk s n pl ct b)) := by
  obtain ⟨zs, hz, hm⟩ := make64
  have HB := Lib.hid hb
  have HZ := Lib.hid hz
  clear hz hb
  go_enter Try.func57, Try.ntmps57
  go_upto_region 2 with fail
  generalize hw1 : w.alloc (.cells zs 5) = w1
  have h1 : RowB w.heap.size (List.replicate 64 0) w1 := by
    rw [← hw1, HZ.out]; exact heap_alloc_new _ _
  have hb1 : Below w.heap.size w w1 := by rw [← hw1]; exact (Below.refl _ _).alloc (Nat.le_refl _) _
  clear hw1 hm HZ
  have hB : Rd w1 p k b := HB.out.below hb1
  generalize hG : w.heap.size = G at h1 hb1 ⊢
  have HG := Lib.hid hG
  clear hG hB
  have c0 := h1.cell 0 (by rw [List.length_replicate]; omega)
  have c1 := h1.cell 1 (by rw [List.length_replicate]; omega)
  have c2 := h1.cell 14 (by rw [List.length_replicate]; omega)
  have f0 := h1.frozen 0
  have f1 := h1.frozen 1
  have f2 := h1.frozen 14
  go_upto_region 3 with fail
  generalize hw2 : World.setCell _ _ _ = w2
  have H2 : Hid (RowB G (st0 k) w2 ∧ Below G w w2) := by
    rw [← hw2]
    obtain ⟨a1, a2⟩ := h1.set 0 165 (Nat.le_refl _) hb1
    obtain ⟨b1, b2⟩ := a1.set 1 90 (Nat.le_refl _) a2
    obtain ⟨d1, d2⟩ := b1.set 14 (k : Int) (Nat.le_refl _) b2
    exact ⟨d1, d2⟩
  have HB2 := Lib.hid H2.out.2
  have H2 := Lib.hid H2.out.1
  clear hw2 h1 hb1 c0 c1 c2 f0 f1 f2
  go_wp2_with fail
  go_loopw [24] (fun i wr => ∃ j : Nat, i = .int .i64 (j : Int) ∧ j ≤ 4 ∧ Hid (RowB G (st1 s n (st0 k) j) wr) ∧ Hid (Below G w wr)) (fun i _ => 4 - (intOf i).toNat)
  case atStart => exact ⟨0, rfl, Nat.zero_le _, H2.out, HB2.out⟩
  case round =>
    clear H2 HB2
    obtain ⟨j, rfl, hj, HR, HBr⟩ := hrel
    by_cases hj4 : j < 4
    · rcases (show j = 0 ∨ j = 1 ∨ j = 2 ∨ j = 3 by omega) with rfl | rfl | rfl | rfl
      · have hr := HR.out
        have e := (hr.set 2 (s / 16777216) (Nat.le_refl _) HBr.out)
        have e2 := (e.1.set 6 (n / 16777216) (Nat.le_refl _) e.2)
        have c0 := hr.cell 2 (by simp [st1_len, st0])
        have c1 := hr.cell 6 (by simp [st1_len, st0])
        have f0 := hr.frozen 2
        have f1 := hr.frozen 6
        have E1 := Lib.hid e2.1
        have E2 := Lib.hid e2.2
        have q1 : Hid (s / sh 0 % 256 = s / 16777216) := by show s / 16777216 % 256 = s / 16777216; omega
        have q2 : Hid (n / sh 0 % 256 = n / 16777216) := by show n / 16777216 % 256 = n / 16777216; omega
        clear hr e e2
        go_wp2_with fail
        constructor
        · refine ⟨1, rfl, by omega, ?_, E2.out⟩
          show RowB G (((st1 s n (st0 k) 0).set 2 (s / sh 0 % 256)).set 6 (n / sh 0 % 256)) _
          rw [q1.out, q2.out]
          exact E1.out
        · show 4 - ((0 : Int) + 1).toNat < 4 - (0 : Int).toNat
          omega
      · have hr := HR.out
        have e := (hr.set 3 (s / 65536 % 256) (Nat.le_refl _) HBr.out)
        have e2 := (e.1.set 7 (n / 65536 % 256) (Nat.le_refl _) e.2)
        have c0 := hr.cell 3 (by simp [st1_len, st0])
        have c1 := hr.cell 7 (by simp [st1_len, st0])
        have f0 := hr.frozen 3
        have f1 := hr.frozen 7
        have E1 := Lib.hid e2.1
        have E2 := Lib.hid e2.2
        have q1 : Hid (s / sh 1 % 256 = s / 65536 % 256) := by show s / 65536 % 256 = s / 65536 % 256; omega
        have q2 : Hid (n / sh 1 % 256 = n / 65536 % 256) := by show n / 65536 % 256 = n / 65536 % 256; omega
        clear hr e e2
        go_wp2_with fail
        constructor
        · refine ⟨2, rfl, by omega, ?_, E2.out⟩
          show RowB G (((st1 s n (st0 k) 1).set 3 (s / sh 1 % 256)).set 7 (n / sh 1 % 256)) _
          rw [q1.out, q2.out]
          exact E1.out
        · show 4 - ((1 : Int) + 1).toNat < 4 - (1 : Int).toNat
          omega
      · have hr := HR.out
        have e := (hr.set 4 (s / 256 % 256) (Nat.le_refl _) HBr.out)
        have e2 := (e.1.set 8 (n / 256 % 256) (Nat.le_refl _) e.2)
        have c0 := hr.cell 4 (by simp [st1_len, st0])
        have c1 := hr.cell 8 (by simp [st1_len, st0])
        have f0 := hr.frozen 4
        have f1 := hr.frozen 8
        have E1 := Lib.hid e2.1
        have E2 := Lib.hid e2.2
        have q1 : Hid (s / sh 2 % 256 = s / 256 % 256) := by show s / 256 % 256 = s / 256 % 256; omega
        have q2 : Hid (n / sh 2 % 256 = n / 256 % 256) := by show n / 256 % 256 = n / 256 % 256; omega
        clear hr e e2
        go_wp2_with fail
        constructor
        · refine ⟨3, rfl, by omega, ?_, E2.out⟩
          show RowB G (((st1 s n (st0 k) 2).set 4 (s / sh 2 % 256)).set 8 (n / sh 2 % 256)) _
          rw [q1.out, q2.out]
          exact E1.out
        · show 4 - ((2 : Int) + 1).toNat < 4 - (2 : Int).toNat
          omega
      · have hr := HR.out
        have e := (hr.set 5 (s % 256) (Nat.le_refl _) HBr.out)
        have e2 := (e.1.set 9 (n % 256) (Nat.le_refl _) e.2)
        have c0 := hr.cell 5 (by simp [st1_len, st0])
        have c1 := hr.cell 9 (by simp [st1_len, st0])
        have f0 := hr.frozen 5
        have f1 := hr.frozen 9
        have E1 := Lib.hid e2.1
        have E2 := Lib.hid e2.2
        have q1 : Hid (s / sh 3 % 256 = s % 256) := by show s / 1 % 256 = s % 256; omega
        have q2 : Hid (n / sh 3 % 256 = n % 256) := by show n / 1 % 256 = n % 256; omega
        clear hr e e2
        go_wp2_with fail
        constructor
        · refine ⟨4, rfl, by omega, ?_, E2.out⟩
          show RowB G (((st1 s n (st0 k) 3).set 5 (s / sh 3 % 256)).set 9 (n / sh 3 % 256)) _
          rw [q1.out, q2.out]
          exact E1.out
        · show 4 - ((3 : Int) + 1).toNat < 4 - (3 : Int).toNat
          omega
    · obtain rfl : j = 4 := by omega
      have HB2 := HBr
      have H2 := HR
      clear hj hj4 HR HBr
      go_wp2_with fail
      go_loopw [48] (fun i wr => ∃ j : Nat, i = .int .i64 (j : Int) ∧ j ≤ 2 ∧ Hid (RowB G (st2 pl ct (st1 s n (st0 k) 4) j) wr) ∧ Hid (Below G w wr)) (fun i _ => 2 - (intOf i).toNat)
      case atStart => exact ⟨0, rfl, Nat.zero_le _, H2.out, HB2.out⟩
      case round =>
        clear H2 HB2
        obtain ⟨j, rfl, hj, HR, HBr⟩ := hrel
        by_cases hj2 : j < 2
        · rcases (show j = 0 ∨ j = 1 by omega) with rfl | rfl
          · have hr := HR.out
            have e := (hr.set 10 (pl / 256) (Nat.le_refl _) HBr.out)
            have e2 := (e.1.set 12 (ct / 256) (Nat.le_refl _) e.2)
            have c0 := hr.cell 10 (by simp [st2_len, st1_len, st0])
            have c1 := hr.cell 12 (by simp [st2_len, st1_len, st0])
            have f0 := hr.frozen 10
            have f1 := hr.frozen 12
            have E1 := Lib.hid e2.1
            have E2 := Lib.hid e2.2
            have q1 : Hid (pl / sh 2 % 256 = pl / 256) := by show pl / 256 % 256 = pl / 256; omega
            have q2 : Hid (ct / sh 2 % 256 = ct / 256) := by show ct / 256 % 256 = ct / 256; omega
            clear hr e e2
            go_wp2_with fail
            constructor
            · refine ⟨1, rfl, by omega, ?_, E2.out⟩
              show RowB G (((st2 pl ct (st1 s n (st0 k) 4) 0).set 10 (pl / sh 2 % 256)).set 12 (ct / sh 2 % 256)) _
              rw [q1.out, q2.out]
              exact E1.out
            · show 2 - ((0 : Int) + 1).toNat < 2 - (0 : Int).toNat
              omega
          · have hr := HR.out
            have e := (hr.set 11 (pl % 256) (Nat.le_refl _) HBr.out)
            have e2 := (e.1.set 13 (ct % 256) (Nat.le_refl _) e.2)
            have c0 := hr.cell 11 (by simp [st2_len, st1_len, st0])
            have c1 := hr.cell 13 (by simp [st2_len, st1_len, st0])
            have f0 := hr.frozen 11
            have f1 := hr.frozen 13
            have E1 := Lib.hid e2.1
            have E2 := Lib.hid e2.2
            have q1 : Hid (pl / sh 3 % 256 = pl % 256) := by show pl / 1 % 256 = pl % 256; omega
            have q2 : Hid (ct / sh 3 % 256 = ct % 256) := by show ct / 1 % 256 = ct % 256; omega
            clear hr e e2
            go_wp2_with fail
            constructor
            · refine ⟨2, rfl, by omega, ?_, E2.out⟩
              show RowB G (((st2 pl ct (st1 s n (st0 k) 4) 1).set 11 (pl / sh 3 % 256)).set 13 (ct / sh 3 % 256)) _
              rw [q1.out, q2.out]
              exact E1.out
            · show 2 - ((1 : Int) + 1).toNat < 2 - (1 : Int).toNat
              omega
        · obtain rfl : j = 2 := by omega
          have HB2 := HBr
          have H2 := HR
          clear hj hj2 HR HBr
          go_wp2_with fail
          have hR := HB.out.below (W' := wr) (by rw [HG.out]; exact HB2.out)
          obtain ⟨w3, hcp, h3, hb3⟩ := copy_lay (off := 16) (dl := 48) (c := c) (B := G) H2.out hR (by simp [st2_len, st1_len, st0]; omega) hk (Nat.le_refl _) HB2.out
          have H3 := Lib.hid (show RowB G (mk s n pl ct b) w3 by rw [← st_mk s n pl ct b (by rw [hR.1]; exact hk), hR.1]; exact h3)
          have HB3 := Lib.hid hb3
          clear hR h3 hb3 H2 HB2
          rw [hcp]
          clear hcp
          go_wp2_with fail
          go_ret
          exact ⟨G, rfl, Nat.le_of_eq HG.out, H3.out, by rw [HG.out]; exact HB3.out⟩
end Go.Proofs.Yticiaiiedagalaa.dk
