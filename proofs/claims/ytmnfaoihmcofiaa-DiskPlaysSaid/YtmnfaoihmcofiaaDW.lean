/- The document's Read. -/
import Derived.Test.YtmnfaoihmcofiaaDV
import Derived.Lib.ConvBytes
namespace Go.Proofs.Ytmnfaoihmcofiaa.dk
open Go.PlainAid Go.ChangeShapes Go.WideShapes Go.ChangeAt Go.RowKit

/-- What the document reads at sector i, with so many of what is pending seen. -/
def rat (S : List (List Int)) (p : List (Nat × List Int)) (i : Nat) : List Int := p.foldl (fun s x => if x.1 = i then x.2 else s) (S.getD i [])
theorem rat_snoc (S : List (List Int)) (p : List (Nat × List Int)) (x : Nat × List Int) (i : Nat) : rat S (p ++ [x]) i = if x.1 = i then x.2 else rat S p i := by simp [rat]
theorem rat_len {S : List (List Int)} {i : Nat} (hi : i < S.length) (hS : ∀ s ∈ S, s.length = 64) : ∀ (p : List (Nat × List Int)), (∀ x ∈ p, x.2.length = 64) → ∀ d : List Int, d.length = 64 → (p.foldl (fun s x => if x.1 = i then x.2 else s) d).length = 64
  | [], _, d, hd => hd
  | x :: p, h, d, hd => by
    rw [List.foldl_cons]
    refine rat_len hi hS p (fun y hy => h y (by simp [hy])) _ ?_
    split
    · exact h x (by simp)
    · exact hd
theorem qcells_at : ∀ (l : List (Nat × List Int)) (j : Nat) (h : j < l.length), (qcells l)[j * 2]? = some (.int .i64 ((l[j]'h).1 : Int)) ∧ (qcells l)[j * 2 + 1]? = some (.string (strOf (l[j]'h).2))
  | x :: l, 0, _ => ⟨rfl, rfl⟩
  | x :: l, j + 1, h => by
    have := qcells_at l j (by simpa using h)
    rw [show (j + 1) * 2 = j * 2 + 2 by omega, show j * 2 + 2 + 1 = j * 2 + 1 + 2 by omega]
    exact this
theorem RefAt.sec {B D : Nat} {p : Option Addr} {n c : Nat} {P : Value} {r : Rk} {W : World} (h : RefAt B D (.slice p n c) P r W) (i : Nat) (hi : i < r.S.length) : ∃ g, p = some ⟨g, 0, none⟩ ∧ n = r.S.length ∧ W.cell? ⟨g, i, none⟩ = some (.string (strOf (r.S.getD i []))) := by
  rcases h.hS.2 with ⟨hv, h0⟩ | ⟨g, cap, cur, hv, _⟩
  · omega
  · injection hv with h1 h2 h3
    refine ⟨g, h1, h2, ?_⟩
    have := h.hS.cells (g := g) (by rw [h1]; rfl) i (.string (strOf (r.S.getD i []))) (by
      unfold scells
      rw [List.getElem?_map, List.getElem?_eq_getElem hi, List.getD_eq_getElem?_getD, List.getElem?_eq_getElem hi]
      rfl)
    rw [add_off, Nat.zero_add] at this
    exact this
theorem RefAt.pnd {B D : Nat} {p : Option Addr} {n c : Nat} {S : Value} {r : Rk} {W : World} (h : RefAt B D S (.slice p n c) r W) : n = r.P.length ∧ ∀ j (hj : j < r.P.length), ∃ g, p = some ⟨g, 0, none⟩ ∧ W.cell? ⟨g, j * 2, none⟩ = some (.int .i64 ((r.P[j]'hj).1 : Int)) ∧ W.cell? ⟨g, j * 2 + 1, none⟩ = some (.string (strOf (r.P[j]'hj).2)) := by
  rcases h.hP.2 with ⟨hv, h0⟩ | ⟨g, cap, cur, hv, _⟩
  · injection hv with h1 h2 h3
    exact ⟨by omega, fun j hj => by omega⟩
  · injection hv with h1 h2 h3
    refine ⟨h2, fun j hj => ⟨g, h1, ?_⟩⟩
    obtain ⟨q1, q2⟩ := qcells_at r.P j hj
    have e1 := h.hP.cells (g := g) (by rw [h1]; rfl) _ _ q1
    have e2 := h.hP.cells (g := g) (by rw [h1]; rfl) _ _ q2
    rw [add_off, Nat.zero_add] at e1 e2
    exact ⟨e1, e2⟩

theorem fold_push : ∀ (l : List Int) (s : ByteArray), (l.foldl (fun r n => r.push (UInt8.ofNat n.toNat)) s).data.toList = s.data.toList ++ l.map fun n => UInt8.ofNat n.toNat
  | [], s => by simp
  | x :: l, s => by
    rw [List.foldl_cons, fold_push l]
    simp [ByteArray.push]
theorem strOf_data (l : List Int) : (strOf l).data.toList = l.map fun n => UInt8.ofNat n.toNat := by
  unfold strOf
  rw [fold_push]
  rfl
theorem strOf_size (l : List Int) : (strOf l).size = l.length := by
  have := congrArg List.length (strOf_data l)
  simpa using this
/-- A string's bytes. -/
def unstr (s : ByteArray) : List Int := s.data.toList.map fun b => (b.toNat : Int)
theorem unstr_length (s : ByteArray) : (unstr s).length = s.size := by simp [unstr]
theorem strOf_unstr (s : ByteArray) : strOf (unstr s) = s := by
  have h : (strOf (unstr s)).data.toList = s.data.toList := by
    rw [strOf_data]
    unfold unstr
    rw [List.map_map]
    conv => rhs; rw [← List.map_id s.data.toList]
    apply List.map_congr_left
    intro x _
    simp
  have h2 : (strOf (unstr s)).data = s.data := Array.toList_inj.1 h
  cases hs : strOf (unstr s) with
  | mk d => cases s with
    | mk d' => rw [hs] at h2; exact congrArg ByteArray.mk h2
theorem rd_string (w : World) (s : ByteArray) (n : Nat) (h : s.size = n) : Rd (Lib.bytesWorld w 5 s) (some ⟨w.heap.size, 0, none⟩) n (unstr s) :=
  ⟨by rw [unstr_length, h], fun _ => ⟨_, _, rfl, by rw [Lib.bytesWorld_size]; omega, fun i hi => by
    rw [Nat.zero_add, Lib.bytesWorld_cell _ _ _ _ (by omega)]
    congr 2
    unfold unstr
    have hl : s.data.toList.length = s.size := by simp
    rw [List.getD_eq_getElem?_getD, List.getD_eq_getElem?_getD, List.getElem?_map, List.getElem?_eq_getElem (by omega)]
    rfl⟩⟩

set_option maxHeartbeats 4000000 in
set_option maxRecDepth 20000 in
theorem rRead_ok {B D : Nat} {S P : Value} {r : Rk} {w : World} (h : RefAt B D S P r w) (hd : r.gone = false) (i : Nat) (hi : i < r.S.length) :
    Calls Try.prog 20 #[.pointer (some ⟨D, 0, none⟩), .int .i64 i] w fun e w' => ∃ G c, e = .returned (.tuple #[.slice (some ⟨G, 0, none⟩) 64 c, .int .i64 0]) ∧ Rd w' (some ⟨G, 0, none⟩) 64 (unstr (strOf (rat r.S r.P i))) ∧ Below w.heap.size w w' := by
  obtain ⟨p, c, rfl⟩ := own_form h.hS
  obtain ⟨q, qc, rfl⟩ := own_form h.hP
  have k0 := h.cell 0
  have k1 := h.cell 1
  have k3 := h.cell 3
  simp only [rcells] at k0 k1 k3
  simp at k0 k1 k3
  rw [hd] at k3
  obtain ⟨g, rfl, _, hsec⟩ := h.sec i hi
  have HP := Lib.hid h.pnd.2
  have hpw := Lib.hid h.pw
  have hsw := Lib.hid h.sw
  have d1 : decide ((i : Int) < 0) = false := decide_eq_false (by omega)
  have d2 : decide ((r.S.length : Int) ≤ i) = false := decide_eq_false (by omega)
  have hn15 := h.n2
  have hpl := h.pl
  have hgd : Hid (r.S.getD i [] = r.S[i]'hi) := by show r.S.getD i [] = _; rw [List.getD_eq_getElem?_getD, List.getElem?_eq_getElem hi]; rfl
  clear h
  go_enter Try.func20, Try.ntmps20
  go_wp2
  go_loopw [6, 7] (fun s x wr => ∃ (j : Nat), s = .string (strOf (rat r.S (r.P.take j) i)) ∧ x = .int .i64 (j : Int) ∧ j ≤ r.P.length ∧ wr = w) (fun _ x _ => r.P.length - (intOf x).toNat)
  case atStart => exact ⟨0, by rw [← hgd.out]; rfl, rfl, Nat.zero_le _, rfl⟩
  case round =>
    obtain ⟨j, rfl, rfl, hj, rfl⟩ := hrel
    by_cases hjn : j < r.P.length
    · have dj : decide ((j : Int) < (r.P.length : Int)) = true := decide_eq_true (by omega)
      obtain ⟨pg, rfl, c0, c1⟩ := HP.out j hjn
      have hts : Hid (rat r.S (r.P.take (j + 1)) i = if (r.P[j]'hjn).1 = i then (r.P[j]'hjn).2 else rat r.S (r.P.take j) i) := by
        show rat r.S (r.P.take (j + 1)) i = _
        rw [List.take_succ_eq_append_getElem hjn, rat_snoc]
      generalize r.P[j]'hjn = x at c0 c1 hts
      by_cases hxi : x.1 = i
      · have hx2 : Hid (rat r.S (r.P.take (j + 1)) i = x.2) := by rw [if_pos hxi] at hts; exact hts
        subst hxi
        go_wp2
        constructor
        · exact ⟨j + 1, by rw [hx2.out], by go_num, by omega, by first | rfl | trivial⟩
        · show r.P.length - ((j : Int) + 1).toNat < r.P.length - (j : Int).toNat
          omega
      · have hx2 : Hid (rat r.S (r.P.take (j + 1)) i = rat r.S (r.P.take j) i) := by rw [if_neg hxi] at hts; exact hts
        have ex : ((x.1 : Int) == (i : Int)) = false := by simp; omega
        go_wp2
        constructor
        · exact ⟨j + 1, by rw [hx2.out], by go_num, by omega, by first | rfl | trivial⟩
        · show r.P.length - ((j : Int) + 1).toNat < r.P.length - (j : Int).toNat
          omega
    · have dj : decide ((j : Int) < (r.P.length : Int)) = false := decide_eq_false (by omega)
      have htk : r.P.take j = r.P := List.take_of_length_le (by omega)
      rw [htk]
      have hl : (rat r.S r.P i).length = 64 := rat_len hi hsw.out r.P (fun x hx => (hpw.out x hx).2) _ (by
        rw [List.getD_eq_getElem?_getD, List.getElem?_eq_getElem hi]
        exact hsw.out _ (List.getElem_mem hi))
      have hs := strOf_size (rat r.S r.P i)
      rw [hl] at hs
      have hR := rd_string wr (strOf (rat r.S r.P i)) 64 hs
      have hcv := Lib.run_convert_string_bytes (P := Try.prog) wr 9 32 5 (strOf (rat r.S r.P i)) Try.underlying9 Try.underlying32 Try.underlying5
      have hb := bytes_belowd wr (strOf (rat r.S r.P i)) 5
      rw [hs] at hcv
      generalize hz : strOf (rat r.S r.P i) = z at *
      have HZ := Lib.hid hz
      clear hz
      generalize Lib.bytesWorld wr 5 z = w1 at *
      go_wp2
      go_ret2
      exact ⟨_, _, rfl, by rw [HZ.out]; exact hR, hb⟩
end Go.Proofs.Ytmnfaoihmcofiaa.dk
