/- The bytes that a law lays; what one record is told as. -/
import Derived.Test.YticiaiiedagalaaJN
namespace Go.Proofs.Yticiaiiedagalaa.dk
open Go.PlainAid Go.ChangeShapes Go.WideShapes Go.ChangeAt Go.RowKit

def bsOf (k : Nat) (c : Int) : List Int := (List.range k).map fun (i : Nat) => (c + (i : Int)) % 256
theorem bsOf_len (k : Nat) (c : Int) : (bsOf k c).length = k := by simp [bsOf]
theorem bsOf_bys (k : Nat) (c : Int) : Bys (bsOf k c) := fun x hx => by
  obtain ⟨i, _, rfl⟩ := List.mem_map.1 hx
  omega
def bsPart (k : Nat) (c : Int) (j : Nat) : List Int := (List.range k).map fun (i : Nat) => if i < j then (c + (i : Int)) % 256 else 0
theorem bsPart_len (k : Nat) (c : Int) (j : Nat) : (bsPart k c j).length = k := by simp [bsPart]
theorem bsPart_set (k : Nat) (c : Int) (j : Nat) : (bsPart k c j).set j ((c + (j : Int)) % 256) = bsPart k c (j + 1) := by
  apply List.ext_getElem?
  intro i
  rw [List.getElem?_set, bsPart_len]
  unfold bsPart
  rw [List.getElem?_map, List.getElem?_map]
  by_cases hi : i < k
  · rw [List.getElem?_range hi]
    simp only [Option.map_some]
    by_cases h : j = i
    · subst h
      rw [if_pos rfl, if_pos hi, if_pos (by omega)]
    · rw [if_neg h]
      by_cases h2 : i < j
      · rw [if_pos h2, if_pos (by omega)]
      · rw [if_neg h2, if_neg (by omega)]
  · rw [List.getElem?_eq_none (by rw [List.length_range]; omega)]
    by_cases h : j = i
    · subst h; rw [if_pos rfl, if_neg hi]; rfl
    · rw [if_neg h]; rfl
theorem make_any (k : Nat) (hk : k ≤ 100000000) (W : World) : (Instr.makeSlice 45 (.int .i64 (k : Int)) (.int .i64 (k : Int))).run Try.prog W = .ok (.slice (some ⟨W.heap.size, 0, none⟩) k k) (W.alloc (.cells (bcells (List.replicate k 0)).toArray 5)) := by
  obtain ⟨i0, hi, hz0, hz1, hz2⟩ := info_parts infoByte
  have hm := run_make (P := Try.prog) W 45 5 i0 (.int .u8 0) Try.underlying45 hi hz0 .i64 .i64 (k : Int) (k : Int) (by omega) (by omega) (by rw [hz2]; omega) (by omega)
  rw [hz1, Nat.mul_one, show ((k : Int)).toNat = k from rfl, show (Value.int .u8 0).cells = #[Value.int .u8 0] from rfl, made_zeros] at hm
  exact hm
def RowPost (w : World) (k : Nat) (l : List Int) (e : Ending) (w' : World) : Prop := ∃ G, e = .returned (.slice (some ⟨G, 0, none⟩) k k) ∧ w.heap.size ≤ G ∧ RowB G l w' ∧ Below w.heap.size w w'
set_option maxHeartbeats 4000000 in
set_option maxRecDepth 100000 in
theorem bytes2_any (w : World) (k : Nat) (c : Int) (hk : k ≤ 100000) :
    Calls Try.prog 28 #[.int .i64 (k : Int), .int .u8 c] w (RowPost w k (bsOf k c)) := by
  obtain ⟨zs, hz⟩ : ∃ zs, zs = (bcells (List.replicate k 0)).toArray := ⟨_, rfl⟩
  have hm := make_any k (by omega)
  rw [← hz] at hm
  have HZ := Lib.hid hz
  clear hz
  go_enter Try.func28, Try.ntmps28
  go_wp2_with fail
  generalize hw1 : w.alloc (.cells zs 5) = w1
  have h1 : RowB w.heap.size (bsPart k c 0) w1 := by
    have e : bsPart k c 0 = List.replicate k 0 := by
      unfold bsPart
      apply List.ext_getElem?
      intro i
      rw [List.getElem?_map, List.getElem?_replicate]
      by_cases hi : i < k
      · rw [List.getElem?_range hi, if_pos hi]; rfl
      · rw [List.getElem?_eq_none (by rw [List.length_range]; omega), if_neg hi]; rfl
    rw [e, ← hw1, HZ.out]; exact heap_alloc_new _ _
  have hb1 : Below w.heap.size w w1 := by rw [← hw1]; exact (Below.refl _ _).alloc (Nat.le_refl _) _
  have H1 := Lib.hid h1
  have HB1 := Lib.hid hb1
  clear hw1 hm HZ h1 hb1
  go_loopw [6] (fun v wr => ∃ j : Nat, v = .int .i64 (j : Int) ∧ j ≤ k ∧ Hid (RowB w.heap.size (bsPart k c j) wr) ∧ Hid (Below w.heap.size w wr)) (fun v _ => k - (intOf v).toNat)
  case atStart => exact ⟨0, rfl, Nat.zero_le _, H1.out, HB1.out⟩
  case round =>
    clear H1 HB1
    obtain ⟨j, rfl, hj, HR, HB⟩ := hrel
    by_cases hjk : j < k
    · have dj : decide ((j : Int) < (k : Int)) = true := decide_eq_true (by omega)
      have c0 := HR.out.cell j (by rw [bsPart_len]; exact hjk)
      have f0 := HR.out.frozen j
      have hs := HR.out.set j ((c + (j : Int)) % 256) (Nat.le_refl _) HB.out
      rw [bsPart_set] at hs
      have HS1 := Lib.hid hs.1
      have HS2 := Lib.hid hs.2
      clear hs
      generalize (bsPart k c j).getD j 0 = z at c0
      go_wp2_with fail
      constructor
      · exact ⟨j + 1, by go_num, by omega, HS1.out, HS2.out⟩
      · show k - ((j : Int) + 1).toNat < k - (j : Int).toNat
        omega
    · have dj : decide ((j : Int) < (k : Int)) = false := decide_eq_false (by omega)
      obtain rfl : j = k := by omega
      have e : Hid (bsPart j c j = bsOf j c) := by
        show bsPart j c j = bsOf j c
        unfold bsPart bsOf
        apply List.map_congr_left
        intro i hi
        rw [if_pos (List.mem_range.1 hi)]
      have HX : Hid (RowB w.heap.size (bsOf j c) wr) := by
        show RowB w.heap.size (bsOf j c) wr
        rw [← e.out]; exact HR.out
      go_wp2_with fail
      go_ret
      exact ⟨_, rfl, Nat.le_refl _, HX.out, HB.out⟩
/-- What a part holds behind one record on a fresh disk. -/
theorem one_at {D frm n N : Nat} {b : List Int} {m2 : Dk} (h : Laid { d := D, frm := frm, n := n, place := 0, num := 1, ses := 1, broken := false } b (needN b.length) (needN b.length) 0 (fresh N) m2) (hn : frm + n ≤ N) (i : Nat) (hi : i < n) :
    pcF m2.now frm i = if i < needN b.length then some (pieceOf 1 1 b (needN b.length) i) else none := by
  unfold pcF
  rw [h.at_ (frm + i) (by show frm + i < N; omega)]
  by_cases hc : i < needN b.length
  · rw [if_pos (by omega), if_pos hc, show frm + i - (frm + 0) = i by omega]
    exact pc_piece _ _ _ _ _
  · rw [if_neg (by omega), if_neg hc]
    exact pcF_fresh N frm i (by omega)
theorem told_one {D frm n N : Nat} {b : List Int} {m2 : Dk} (h : Laid { d := D, frm := frm, n := n, place := 0, num := 1, ses := 1, broken := false } b (needN b.length) (needN b.length) 0 (fresh N) m2) (hn : frm + n ≤ N) (hc : needN b.length ≤ n) (hb : needN b.length ≤ 65535) :
    toldOf m2.now frm n = (needN b.length, 2, [b]) ∧ sesOf m2.now frm n ≠ 4294967295 := by
  have hN := needN_bd b.length
  have r : RecHere (pcF m2.now frm) n 0 1 1 b := ⟨by omega, hb, by omega, by omega, fun i hi => by rw [Nat.zero_add, one_at h hn i (by omega), if_pos hi]⟩
  refine ⟨?_, ?_⟩
  · obtain ⟨k, rfl⟩ : ∃ k, n = k + 1 := ⟨n - 1, by omega⟩
    have e0 := gath_rec r k ((gr2 fN (pcF m2.now frm) (k + 1) + 1) % 4294967296) none [] rfl
    rw [Nat.zero_add] at e0
    refine e0.trans ?_
    by_cases hk : needN b.length < k + 1
    · exact gath_none _ _ _ _ (by rw [one_at h hn _ hk, if_neg (by omega)])
    · exact gath_out _ _ _ _ (by omega)
  · have := gr_le fS (pcF m2.now frm) 1 (by omega) n (fun i p hi hp => by
      rw [one_at h hn i hi] at hp
      split at hp
      · cases hp; exact Int.le_of_eq (piece_S _ _ _ _ _ (by omega))
      · cases hp)
    unfold sesOf
    omega
end Go.Proofs.Yticiaiiedagalaa.dk
