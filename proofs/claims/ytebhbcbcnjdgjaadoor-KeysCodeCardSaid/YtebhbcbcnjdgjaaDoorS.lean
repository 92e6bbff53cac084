/- Parts appended; few parts. -/
import Derived.Test.YtebhbcbcnjdgjaaDoorR
namespace Go.Proofs.YtebhbcbcnjdgjaaDoor.dk
open Go.PlainAid Go.ChangeShapes Go.WideShapes Go.ChangeAt Go.RowKit

def pcells (l : List Pt) : List Value := (l.map fun q => (parr q).toList).flatten
theorem pcells_cons (q : Pt) (l : List Pt) : pcells (q :: l) = (parr q).toList ++ pcells l := rfl
theorem pcells_app (a b : List Pt) : pcells (a ++ b) = pcells a ++ pcells b := by unfold pcells; rw [List.map_append, List.flatten_append]
theorem parr_len (q : Pt) : (parr q).toList.length = 7 := rfl
theorem pcells_len : ∀ (l : List Pt), (pcells l).length = l.length * 7
  | [] => rfl
  | q :: l => by rw [pcells_cons, List.length_append, parr_len, pcells_len l, List.length_cons]; omega
theorem pcells_at : ∀ (l : List Pt) (i j : Nat), i < l.length → j < 7 → (pcells l)[i * 7 + j]? = (parr (l.getD i default))[j]?
  | q :: l, 0, j, _, hj => by
    rw [pcells_cons, Nat.zero_mul, Nat.zero_add, List.getElem?_append_left (by rw [parr_len]; exact hj), Array.getElem?_toList]
    rfl
  | q :: l, i + 1, j, hi, hj => by
    rw [pcells_cons, List.getElem?_append_right (by rw [parr_len]; omega), parr_len, show (i + 1) * 7 + j - 7 = i * 7 + j by omega, pcells_at l i j (by simpa using hi) hj]
    rfl
theorem parr_one (q : Pt) : ∀ u ∈ (parr q).toList, u.oneCell' = true := by
  intro u hu
  simp only [parr, List.mem_cons, List.not_mem_nil, or_false] at hu
  rcases hu with rfl | rfl | rfl | rfl | rfl | rfl | rfl <;> rfl
theorem pcells_one : ∀ (l : List Pt), ∀ u ∈ pcells l, u.oneCell' = true
  | [], u, hu => by simp [pcells] at hu
  | q :: l, u, hu => by
    rw [pcells_cons, List.mem_append] at hu
    rcases hu with hu | hu
    · exact parr_one q u hu
    · exact pcells_one l u hu
theorem owned_rdP {w : World} {B n c : Nat} {T : TypeId} {p : Option Addr} {l : List Pt} (h : w.ownsRow B T 7 (.slice p n c) n (pcells l)) : RdP w p n l := by
  have hl : l.length = n := by have := h.1; rw [pcells_len] at this; omega
  refine ⟨hl, fun h0 => ?_⟩
  rcases h.2 with ⟨hv, h1⟩ | ⟨g, cap, cur, hv, hg, hh, _⟩
  · omega
  · injection hv with hp _ _
    refine ⟨g, 0, hp, (Array.getElem?_eq_some_iff.1 hh).1, fun i hi j hj => ?_⟩
    have hat := pcells_at l i j (by omega) hj
    obtain ⟨u, hu⟩ : ∃ u, (parr (l.getD i default))[j]? = some u := ⟨_, Array.getElem?_eq_getElem (by show j < 7; exact hj)⟩
    rw [hu] at hat ⊢
    have := h.cells (g := g) (by rw [hp]; rfl) (i * 7 + j) _ hat
    rw [add_off] at this
    rw [Nat.zero_add] at this ⊢
    exact this
theorem infoK : ∃ i z, Tryd.prog.info? 43 = some i ∧ i.zero = some z ∧ i.size = 7 ∧ i.bytes = 72 ∧ z.cells.size = 7 := by
  have h : (Tryd.prog.info? 43).map (fun i => (i.zero, i.size, i.bytes)) = some (some (.agg #[.int .i64 0, .bool false, .bool false, .string ⟨#[]⟩, .int .i64 0, .string ⟨#[]⟩, .int .i64 0]), 7, 72) := by kernel_rfl
  obtain ⟨i0, hi, hz0, hz1, hz2⟩ := info_parts h
  exact ⟨i0, _, hi, hz0, hz1, hz2, by simp [Value.cells]⟩
set_option maxRecDepth 20000 in
theorem appendK_none {w : World} {B c cc : Nat} {p0 a : Option Addr} {l : List Pt} (hown : w.ownsRow B 43 7 (.slice p0 l.length c) l.length (pcells l)) :
    (Builtin.append_ #[35, 35] 35 #[.slice p0 l.length c, .slice a 0 cc]).run Tryd.prog w = .ok (.slice p0 l.length c) w := by
  obtain ⟨i0, z, hi, hz0, hz1, hz2, hz3⟩ := infoK
  have ht := Tryd.underlying35
  rcases hown.2 with ⟨hv, hl⟩ | ⟨g, cap, cur, hv, _, hg, hnc, _⟩
  · rw [hv]
    cases a <;> simp [Builtin.append_, run_underlying ht, sizeOf, typeInfo, hi, Builtin.lenOf, Builtin.firstCells, loadCells, loadCellsFrom]
  · injection hv with e1 _ e3
    subst e1; subst e3
    cases a <;> simp [Builtin.append_, run_underlying ht, sizeOf, typeInfo, hi, Builtin.lenOf, Builtin.firstCells, loadCells, loadCellsFrom, hnc, storeCells]
theorem appendK_some {w : World} {B c m cc g off : Nat} {p0 : Option Addr} {l b : List Pt} (hown : w.ownsRow B 43 7 (.slice p0 l.length c) l.length (pcells l)) (hR : RdP w (some ⟨g, off, none⟩) m b) (hm0 : 0 < m) (hl : l.length ≤ 1000000) (hm : m ≤ 1000000) (hB : B ≤ w.heap.size) :
    ∃ p c2 w', (Builtin.append_ #[35, 35] 35 #[.slice p0 l.length c, .slice (some ⟨g, off, none⟩) m cc]).run Tryd.prog w = .ok (.slice p (l ++ b).length c2) w' ∧ w'.ownsRow B 43 7 (.slice p (l ++ b).length c2) (l ++ b).length (pcells (l ++ b)) ∧ Below B w w' ∧ (∀ k, k < w.heap.size → (Value.slice p0 l.length c).ownBlock ≠ some k → w'.heap[k]? = w.heap[k]?) := by
  obtain ⟨i0, z, hi, hz0, hz1, hz2, hz3⟩ := infoK
  have hbl := hR.1
  obtain ⟨g', off', hga, hg, hc⟩ := hR.2 hm0
  injection hga with hga
  injection hga with e1 e2
  subst e1; subst e2
  obtain ⟨v', w', hr, h2, h3, _⟩ := run_append_own (P := Tryd.prog) w B 35 35 43 i0 z 7 72 Tryd.underlying35 hi hz0 hz1 hz2 hz3 (by decide) (.slice p0 l.length c) l.length (pcells l) hown ⟨g, off, none⟩ m cc (pcells b) (by rw [pcells_len, hbl])
    (fun j u hj => by
      rw [add_off]
      have hjb : j < b.length * 7 := by
        have := (List.getElem?_eq_some_iff.1 hj).1
        rwa [pcells_len] at this
      have hd : j = j / 7 * 7 + j % 7 := by omega
      have hq : j / 7 < b.length := by omega
      have hr7 : j % 7 < 7 := Nat.mod_lt _ (by decide)
      rw [hd] at hj ⊢
      rw [pcells_at b (j / 7) (j % 7) hq hr7] at hj
      rw [← hj, ← hc (j / 7) (by omega) (j % 7) hr7, Nat.add_assoc]) (pcells_one b) (by unfold maxLen; omega) (by omega) hB
  obtain ⟨p, c2, rfl⟩ := owned_form h2
  have e : l.length + m = (l ++ b).length := by rw [List.length_append, hbl]
  rw [← pcells_app, e] at h2
  rw [e] at hr
  exact ⟨p, c2, w', hr, h2, (Below.refl _ _).grown h3 hB (fun k hk => (hown.lt k hk).1), fun k hk hne => h3.block k hk (fun e => hne e.symm)⟩
theorem appendK {w : World} {B c m cc : Nat} {p0 q : Option Addr} {l b : List Pt} (hown : w.ownsRow B 43 7 (.slice p0 l.length c) l.length (pcells l)) (hR : RdP w q m b) (hl : l.length ≤ 1000000) (hm : m ≤ 1000000) (hB : B ≤ w.heap.size) :
    ∃ p c2 w', (Builtin.append_ #[35, 35] 35 #[.slice p0 l.length c, .slice q m cc]).run Tryd.prog w = .ok (.slice p (l ++ b).length c2) w' ∧ w'.ownsRow B 43 7 (.slice p (l ++ b).length c2) (l ++ b).length (pcells (l ++ b)) ∧ Below B w w' := by
  rcases Nat.eq_zero_or_pos m with rfl | h0
  · have hb : b = [] := List.length_eq_zero_iff.1 hR.1
    subst hb
    rw [List.append_nil]
    exact ⟨p0, c, w, appendK_none hown, hown, Below.refl _ _⟩
  · obtain ⟨g, off, rfl, _⟩ := hR.2 h0
    obtain ⟨p, c2, w', hr, ho, hb, _⟩ := appendK_some (cc := cc) hown hR h0 hl hm hB
    exact ⟨p, c2, w', hr, ho, hb⟩
theorem infoR : ∃ i z, Tryd.prog.info? 46 = some i ∧ i.zero = some z ∧ i.size = 7 ∧ i.bytes = 72 ∧ z.cells.size = 7 := by
  have h : (Tryd.prog.info? 46).map (fun i => (i.zero, i.size, i.bytes)) = some (some (.agg #[.int .i64 0, .bool false, .bool false, .string ⟨#[]⟩, .int .i64 0, .string ⟨#[]⟩, .int .i64 0]), 7, 72) := by kernel_rfl
  obtain ⟨i0, hi, hz0, hz1, hz2⟩ := info_parts h
  exact ⟨i0, _, hi, hz0, hz1, hz2, by simp [Value.cells]⟩
set_option maxRecDepth 20000 in
theorem appendR_none {w : World} {B c cc : Nat} {p0 a : Option Addr} {l : List Pt} (hown : w.ownsRow B 46 7 (.slice p0 l.length c) l.length (pcells l)) :
    (Builtin.append_ #[22, 22] 22 #[.slice p0 l.length c, .slice a 0 cc]).run Tryd.prog w = .ok (.slice p0 l.length c) w := by
  obtain ⟨i0, z, hi, hz0, hz1, hz2, hz3⟩ := infoR
  have ht := Tryd.underlying22
  rcases hown.2 with ⟨hv, hl⟩ | ⟨g, cap, cur, hv, _, hg, hnc, _⟩
  · rw [hv]
    cases a <;> simp [Builtin.append_, run_underlying ht, sizeOf, typeInfo, hi, Builtin.lenOf, Builtin.firstCells, loadCells, loadCellsFrom]
  · injection hv with e1 _ e3
    subst e1; subst e3
    cases a <;> simp [Builtin.append_, run_underlying ht, sizeOf, typeInfo, hi, Builtin.lenOf, Builtin.firstCells, loadCells, loadCellsFrom, hnc, storeCells]
theorem appendR_some {w : World} {B c m cc g off : Nat} {p0 : Option Addr} {l b : List Pt} (hown : w.ownsRow B 46 7 (.slice p0 l.length c) l.length (pcells l)) (hR : RdP w (some ⟨g, off, none⟩) m b) (hm0 : 0 < m) (hl : l.length ≤ 1000000) (hm : m ≤ 1000000) (hB : B ≤ w.heap.size) :
    ∃ p c2 w', (Builtin.append_ #[22, 22] 22 #[.slice p0 l.length c, .slice (some ⟨g, off, none⟩) m cc]).run Tryd.prog w = .ok (.slice p (l ++ b).length c2) w' ∧ w'.ownsRow B 46 7 (.slice p (l ++ b).length c2) (l ++ b).length (pcells (l ++ b)) ∧ Below B w w' ∧ (∀ k, k < w.heap.size → (Value.slice p0 l.length c).ownBlock ≠ some k → w'.heap[k]? = w.heap[k]?) := by
  obtain ⟨i0, z, hi, hz0, hz1, hz2, hz3⟩ := infoR
  have hbl := hR.1
  obtain ⟨g', off', hga, hg, hc⟩ := hR.2 hm0
  injection hga with hga
  injection hga with e1 e2
  subst e1; subst e2
  obtain ⟨v', w', hr, h2, h3, _⟩ := run_append_own (P := Tryd.prog) w B 22 22 46 i0 z 7 72 Tryd.underlying22 hi hz0 hz1 hz2 hz3 (by decide) (.slice p0 l.length c) l.length (pcells l) hown ⟨g, off, none⟩ m cc (pcells b) (by rw [pcells_len, hbl])
    (fun j u hj => by
      rw [add_off]
      have hjb : j < b.length * 7 := by
        have := (List.getElem?_eq_some_iff.1 hj).1
        rwa [pcells_len] at this
      have hd : j = j / 7 * 7 + j % 7 := by omega
      have hq : j / 7 < b.length := by omega
      have hr7 : j % 7 < 7 := Nat.mod_lt _ (by decide)
      rw [hd] at hj ⊢
      rw [pcells_at b (j / 7) (j % 7) hq hr7] at hj
      rw [← hj, ← hc (j / 7) (by omega) (j % 7) hr7, Nat.add_assoc]) (pcells_one b) (by unfold maxLen; omega) (by omega) hB
  obtain ⟨p, c2, rfl⟩ := owned_form h2
  have e : l.length + m = (l ++ b).length := by rw [List.length_append, hbl]
  rw [← pcells_app, e] at h2
  rw [e] at hr
  exact ⟨p, c2, w', hr, h2, (Below.refl _ _).grown h3 hB (fun k hk => (hown.lt k hk).1), fun k hk hne => h3.block k hk (fun e => hne e.symm)⟩
theorem appendR {w : World} {B c m cc : Nat} {p0 q : Option Addr} {l b : List Pt} (hown : w.ownsRow B 46 7 (.slice p0 l.length c) l.length (pcells l)) (hR : RdP w q m b) (hl : l.length ≤ 1000000) (hm : m ≤ 1000000) (hB : B ≤ w.heap.size) :
    ∃ p c2 w', (Builtin.append_ #[22, 22] 22 #[.slice p0 l.length c, .slice q m cc]).run Tryd.prog w = .ok (.slice p (l ++ b).length c2) w' ∧ w'.ownsRow B 46 7 (.slice p (l ++ b).length c2) (l ++ b).length (pcells (l ++ b)) ∧ Below B w w' := by
  rcases Nat.eq_zero_or_pos m with rfl | h0
  · have hb : b = [] := List.length_eq_zero_iff.1 hR.1
    subst hb
    rw [List.append_nil]
    exact ⟨p0, c, w, appendR_none hown, hown, Below.refl _ _⟩
  · obtain ⟨g, off, rfl, _⟩ := hR.2 h0
    obtain ⟨p, c2, w', hr, ho, hb, _⟩ := appendR_some (cc := cc) hown hR h0 hl hm hB
    exact ⟨p, c2, w', hr, ho, hb⟩
/-- Are parts few, and short? -/
def fewP (l : List Pt) : Bool := decide (l.length ≤ 40) && l.all fun q => decide (q.s.size ≤ 300) && decide (q.dg.size ≤ 200)
set_option maxHeartbeats 8000000 in
set_option maxRecDepth 100000 in
theorem Few_any (w : World) (n c : Nat) (p : Option Addr) (l : List Pt) (hR : RdP w p n l) :
    Calls Tryd.prog 9 #[.slice p n c] w fun e w' => e = .returned (.bool (fewP l)) ∧ w' = w := by
  have hlen := hR.1
  by_cases hn : n ≤ 40
  · have dn : decide ((40 : Int) < (n : Int)) = false := decide_eq_false (by omega)
    have dnn : decide (40 < n) = false := decide_eq_false (by omega)
    have HR := Lib.hid hR
    have HLn := Lib.hid hlen
    clear hR hlen
    go_enter Tryd.func9, Tryd.ntmps9
    go_wp2_with fail
    go_loopw [3] (fun v3 wr => ∃ (j : Nat), v3 = .int .i64 j ∧ j ≤ n ∧ wr = w ∧ Hid (∀ q ∈ l.take j, q.s.size ≤ 300 ∧ q.dg.size ≤ 200)) (fun v3 _ => n - (intOf v3).toNat)
    case atStart => exact ⟨0, rfl, Nat.zero_le _, rfl, Lib.hid fun q hq => by simp at hq⟩
    case round =>
      obtain ⟨j, rfl, hj, rfl, HI⟩ := hrel
      by_cases hjn : j < n
      · have dj : decide ((j : Int) < (n : Int)) = true := decide_eq_true (by omega)
        have djn : decide (j < n) = true := decide_eq_true hjn
        obtain ⟨hlen, hcs⟩ := HR.out
        obtain ⟨g, off, rfl, hg, hc⟩ := hcs (by omega)
        have hcj := hc j hjn
        obtain ⟨q, hq⟩ : ∃ q, l.getD j default = q := ⟨_, rfl⟩
        have hqm : q ∈ l := by rw [← hq, List.getD_eq_getElem?_getD, List.getElem?_eq_getElem (by omega)]; exact List.getElem_mem _
        rw [hq] at hcj
        have ht := take_get l j (by omega)
        rw [hq] at ht
        have HT := Lib.hid ht
        have hno : ¬ (q.s.size ≤ 300 ∧ q.dg.size ≤ 200) → fewP l = false := fun h => by
          unfold fewP
          rw [Bool.and_eq_false_iff]
          right
          rw [List.all_eq_false]
          exact ⟨q, hqm, by simpa using fun h1 => by omega⟩
        have k3 := hcj 3 (by omega)
        have k5 := hcj 5 (by omega)
        obtain ⟨k, x, neg, dg, ex, s, i⟩ := q
        unfold parr at k3 k5
        simp at k3 k5
        dsimp only at hno
        have HNo := Lib.hid hno
        clear hno hcj hc hlen hcs hg hqm ht
        by_cases hs3 : s.size ≤ 300
        · have d3 : decide ((300 : Int) < (s.size : Int)) = false := decide_eq_false (by omega)
          have d3n : decide (300 < s.size) = false := decide_eq_false (by omega)
          by_cases hd2 : dg.size ≤ 200
          · have d2 : decide ((200 : Int) < (dg.size : Int)) = false := decide_eq_false (by omega)
            have d2n : decide (200 < dg.size) = false := decide_eq_false (by omega)
            go_wp2_with fail
            exact ⟨⟨j + 1, by go_num, by omega, by trivial, Lib.hid fun q hq => by
              rw [HT.out, List.mem_append] at hq
              rcases hq with hq | hq
              · exact HI.out q hq
              · rw [List.mem_singleton.1 hq]; exact ⟨hs3, hd2⟩⟩, by show n - ((j : Int) + 1).toNat < n - (j : Int).toNat; omega⟩
          · have d2 : decide ((200 : Int) < (dg.size : Int)) = true := decide_eq_true (by omega)
            have d2n : decide (200 < dg.size) = true := decide_eq_true (by omega)
            go_wp2_with fail
            go_ret
            exact ⟨by rw [HNo.out (by omega)]; rfl, rfl⟩
        · have d3 : decide ((300 : Int) < (s.size : Int)) = true := decide_eq_true (by omega)
          have d3n : decide (300 < s.size) = true := decide_eq_true (by omega)
          go_wp2_with fail
          go_ret
          exact ⟨by rw [HNo.out (by omega)]; rfl, rfl⟩
      · have dj : decide ((j : Int) < (n : Int)) = false := decide_eq_false (by omega)
        have djn : decide (j < n) = false := decide_eq_false hjn
        obtain rfl : j = n := by omega
        have hyes : fewP l = true := by
          have hI := HI.out
          rw [← HLn.out, List.take_length] at hI
          unfold fewP
          rw [Bool.and_eq_true]
          refine ⟨decide_eq_true (by rw [HLn.out]; exact hn), List.all_eq_true.2 fun q hq => ?_⟩
          rw [Bool.and_eq_true]
          exact ⟨decide_eq_true (hI q hq).1, decide_eq_true (hI q hq).2⟩
        have HY := Lib.hid hyes
        clear hyes
        go_wp2_with fail
        go_ret
        exact ⟨by rw [HY.out]; rfl, rfl⟩
  · have dn : decide ((40 : Int) < (n : Int)) = true := decide_eq_true (by omega)
    have dnn : decide (40 < n) = true := decide_eq_true (by omega)
    have hno : fewP l = false := by
      unfold fewP
      rw [Bool.and_eq_false_iff]
      left
      exact decide_eq_false (by omega)
    have HNo := Lib.hid hno
    clear hno
    go_enter Tryd.func9, Tryd.ntmps9
    go_wp2_with fail
    go_ret
    exact ⟨by rw [HNo.out]; rfl, rfl⟩
end Go.Proofs.YtebhbcbcnjdgjaaDoor.dk
