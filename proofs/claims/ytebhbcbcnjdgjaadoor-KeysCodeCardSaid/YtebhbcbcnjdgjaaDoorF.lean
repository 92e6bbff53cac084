/- Bytes turned around; one byte more. -/
import Derived.Test.YtebhbcbcnjdgjaaDoorE
namespace Go.Proofs.YtebhbcbcnjdgjaaDoor.dk
open Go.PlainAid Go.ChangeShapes Go.WideShapes Go.ChangeAt Go.RowKit

/-- Where an append lays its row: where it lay, or anew. -/
theorem append_where {w w' : World} {B n c G off m cc : Nat} {p : Option Addr} {l b : List Int} {v' : Value} (hown : w.ownsRow B 5 1 (.slice p n c) n (bcells l)) (hR : Rd w (some ⟨G, off, none⟩) m b) (hm : 0 < m) (hn1 : n ≤ 1000000) (hm1 : m ≤ 1000000)
    (hr : (Builtin.append_ #[23, 23] 23 #[.slice p n c, .slice (some ⟨G, off, none⟩) m cc]).run Tryd.prog w = .ok v' w') : v'.ownBlock = (Value.slice p n c).ownBlock ∨ v'.ownBlock = some w.heap.size := by
  obtain ⟨i0, hi, hz0, hz1, hz2⟩ := info_parts infoU8
  have hnl : (bcells b).length = m * i0.size := by rw [bcells_length, hR.1, hz1, Nat.mul_one]
  have hnews : ∀ j u, (bcells b)[j]? = some u → w.cell? ((⟨G, off, none⟩ : Addr).add j) = some u := fun j u hj => by
    rw [add_off]
    have hjb : j < b.length := by
      have := (List.getElem?_eq_some_iff.1 hj).1
      rwa [bcells_length] at this
    rw [bcells_at b j hjb] at hj
    rw [← hj]
    exact hR.cell j (by have := hR.1; omega)
  rcases hown.2 with ⟨hv, _⟩ | ⟨g, cap, cur, hv, _, hg, hnc, _, hcs, ht⟩
  · injection hv with e1 e2 e3
    subst e1; subst e2; subst e3
    have h2 := run_append_nil (P := Tryd.prog) w 23 23 5 i0 _ Tryd.underlying23 hi hz0 ⟨G, off, none⟩ m cc (bcells b) hnl hnews hm (by omega) (by rw [hz2]; omega)
    rw [h2] at hr
    injection hr with e1 _
    exact .inr (by rw [← e1]; rfl)
  · injection hv with e1 e2 e3
    subst e1; subst e3
    by_cases hroom : n + m ≤ c
    · have h2 := run_append_room (P := Tryd.prog) w 23 23 5 i0 Tryd.underlying23 hi g n c cur hg ⟨G, off, none⟩ m cc (bcells b) hnl hnews (bcells_one b) hroom (by rw [hnl, hz1]; omega)
      rw [h2] at hr
      injection hr with e1 _
      exact .inl (by rw [← e1]; rfl)
    · have hlen : (bcells l).length = n * i0.size := by have := hown.1; rw [hz1]; exact this
      have h2 := run_append_grow (P := Tryd.prog) w 23 23 5 i0 _ Tryd.underlying23 hi hz0 ⟨g, 0, none⟩ n c (bcells l) hlen (hown.cells (g := g) rfl) ⟨G, off, none⟩ m cc (bcells b) hnl hnews (by omega) (by omega) (growslice_fits (by omega) (by rw [hz2]; omega))
      rw [h2] at hr
      injection hr with e1 _
      exact .inr (by rw [← e1]; rfl)
/-- What an append leaves: the row grown, and all other blocks as they were. -/
structure Grew (B : Nat) (v : Value) (w : World) (p : Option Addr) (cc : Nat) (l : List Int) (w' : World) : Prop where
  own : w'.ownsRow B 5 1 (.slice p l.length cc) l.length (bcells l)
  b : Below B w w'
  fr : ∀ k, k < w.heap.size → v.ownBlock ≠ some k → w'.heap[k]? = w.heap[k]?
  wh : (Value.slice p l.length cc).ownBlock = v.ownBlock ∨ ∃ g, w.heap.size ≤ g ∧ (Value.slice p l.length cc).ownBlock = some g
theorem append_lit {w : World} {B c : Nat} {p0 : Option Addr} {l : List Int} (xs : List Int) (hx : 0 < xs.length) (hxl : xs.length ≤ 1000) (hown : w.ownsRow B 5 1 (.slice p0 l.length c) l.length (bcells l)) (hl : l.length ≤ 1000000) (hB : B ≤ w.heap.size) :
    ∃ p cc w', (Builtin.append_ #[23, 23] 23 #[.slice p0 l.length c, .slice (some ⟨w.heap.size, 0, none⟩) xs.length xs.length]).run Tryd.prog (w.alloc (.cells (bcells xs).toArray 5)) = .ok (.slice p (l ++ xs).length cc) w' ∧ Grew B (.slice p0 l.length c) w p cc (l ++ xs) w' := by
  have hrow : RowB w.heap.size xs (w.alloc (.cells (bcells xs).toArray 5)) := heap_alloc_new _ _
  have hbV : Below w.heap.size w (w.alloc (.cells (bcells xs).toArray 5)) := (Below.refl _ _).alloc (Nat.le_refl _) _
  have ho2 : (w.alloc (.cells (bcells xs).toArray 5)).ownsRow B 5 1 (.slice p0 l.length c) l.length (bcells l) := owned_keeps hown fun g hg => hbV.block g (hown.lt g hg).2
  obtain ⟨p, cc, w', hr, ho, hb, hg⟩ := append_bytes (c := xs.length) ho2 (hrow.rd rfl) (by omega) (by omega) (Nat.le_trans hB hbV.size)
  exact ⟨p, cc, w', hr, ho, (hbV.mono hB).trans hb, fun k hk hne => (hg.block k (Nat.lt_of_lt_of_le hk hbV.size) (fun e => hne e.symm)).trans (hbV.block k hk), by
    rcases append_where ho2 (hrow.rd rfl) hx (by omega) (by omega) hr with h | h
    · exact .inl h
    · exact .inr ⟨_, hbV.size, h⟩⟩
/-- append of bytes that lie elsewhere. -/
theorem append_rd {w : World} {B c G off m cc : Nat} {p0 : Option Addr} {l b : List Int} (hown : w.ownsRow B 5 1 (.slice p0 l.length c) l.length (bcells l)) (hR : Rd w (some ⟨G, off, none⟩) m b) (hm : 0 < m) (hl : l.length ≤ 1000000) (hm1 : m ≤ 1000000) (hB : B ≤ w.heap.size) :
    ∃ p cc2 w', (Builtin.append_ #[23, 23] 23 #[.slice p0 l.length c, .slice (some ⟨G, off, none⟩) m cc]).run Tryd.prog w = .ok (.slice p (l ++ b).length cc2) w' ∧ Grew B (.slice p0 l.length c) w p cc2 (l ++ b) w' := by
  obtain ⟨p, c2, w', hr, ho, hb, hg⟩ := append_bytes (c := cc) hown hR (by omega) (by omega) hB
  exact ⟨p, c2, w', hr, ho, hb, fun k hk hne => hg.block k hk (fun e => hne e.symm), by
    rcases append_where hown hR hm (by omega) hm1 hr with h | h
    · exact .inl h
    · exact .inr ⟨_, Nat.le_refl _, h⟩⟩
/-- Bytes, each taken from 255. -/
def flipb (l : List Int) : List Int := l.map fun x => 255 - x
theorem flip_bys {l : List Int} (h : Bys l) : Bys (flipb l) := fun x hx => by
  obtain ⟨y, hy, rfl⟩ := List.mem_map.1 hx
  have := h y hy
  omega
def flk (l : List Int) (j : Nat) : List Int := flipb (l.take j) ++ l.drop j
theorem flk_len (l : List Int) (j : Nat) : (flk l j).length = l.length := by
  unfold flk flipb
  rw [List.length_append, List.length_map, List.length_take, List.length_drop]
  omega
theorem flk_at (l : List Int) (j : Nat) (h : j < l.length) : (flk l j).getD j 0 = l.getD j 0 := by
  unfold flk flipb
  rw [List.getD_eq_getElem?_getD, List.getElem?_append_right (by rw [List.length_map, List.length_take]; omega), List.length_map, List.length_take, List.getElem?_drop, List.getD_eq_getElem?_getD]
  congr 2
  omega
theorem flk_succ (l : List Int) (j : Nat) (h : j < l.length) : (flk l j).set j (255 - l.getD j 0) = flk l (j + 1) := by
  unfold flk flipb
  rw [List.set_append_right _ _ (by rw [List.length_map, List.length_take]; omega), List.length_map, List.length_take, show j - min j l.length = 0 by omega, List.drop_eq_getElem_cons h, List.set_cons_zero, List.take_succ_eq_append_getElem h, List.map_append, List.append_assoc]
  congr 1
  rw [List.getD_eq_getElem?_getD, List.getElem?_eq_getElem h]
  rfl
set_option maxHeartbeats 4000000 in
set_option maxRecDepth 100000 in
theorem flip_any (w : World) (B g c : Nat) (l : List Int) (hown : w.ownsRow B 5 1 (.slice (some ⟨g, 0, none⟩) l.length c) l.length (bcells l)) (hby : Bys l) (hl : l.length ≤ 100000) :
    Calls Tryd.prog 46 #[.slice (some ⟨g, 0, none⟩) l.length c] w fun e w' => e = .returned (.tuple #[]) ∧ w'.ownsRow B 5 1 (.slice (some ⟨g, 0, none⟩) l.length c) l.length (bcells (flipb l)) ∧ Below B w w' ∧ ∀ k, k ≠ g → w'.heap[k]? = w.heap[k]? := by
  have HO := Lib.hid hown
  have HBy := Lib.hid hby
  have e0 : Hid (flk l 0 = l) := rfl
  have e1 : Hid (flk l l.length = flipb l) := by show flk l l.length = _; unfold flk; rw [List.take_of_length_le (Nat.le_refl _), List.drop_eq_nil_of_le (Nat.le_refl _), List.append_nil]
  clear hown hby
  go_enter Tryd.func46, Tryd.ntmps46
  go_wp2_with fail
  go_loopw [5] (fun v wr => ∃ j : Nat, v = .int .i64 (j : Int) ∧ j ≤ l.length ∧ Hid (wr.ownsRow B 5 1 (.slice (some ⟨g, 0, none⟩) l.length c) l.length (bcells (flk l j))) ∧ Hid (Below B w wr ∧ ∀ k, k ≠ g → wr.heap[k]? = w.heap[k]?)) (fun v _ => l.length - (intOf v).toNat)
  case atStart => exact ⟨0, rfl, Nat.zero_le _, by show World.ownsRow _ _ _ _ _ _ _; rw [e0.out]; exact HO.out, Below.refl _ _, fun _ _ => rfl⟩
  case round =>
    clear HO
    obtain ⟨j, rfl, hj, HJ, HF⟩ := hrel
    by_cases hjn : j < l.length
    · have dj : decide ((j : Int) < (l.length : Int)) = true := decide_eq_true (by omega)
      have hfl := flk_len l j
      have hro : wr.ownsRow B 5 1 (.slice (some ⟨g, 0, none⟩) (flk l j).length c) (flk l j).length (bcells (flk l j)) := by rw [hfl]; exact HJ.out
      have c0 := (owned_rd hro).cell j (by omega)
      rw [flk_at l j hjn, Nat.zero_add] at c0
      have f0 : wr.frozen? ⟨g, j, none⟩ = false := by
        obtain ⟨cur, hc⟩ := owned_type HJ.out (g := g) rfl
        exact frozen_of_row _ _ _ _ _ hc
      have hx : 0 ≤ l.getD j 0 ∧ l.getD j 0 ≤ 255 := by
        rw [List.getD_eq_getElem?_getD, List.getElem?_eq_getElem hjn]
        exact HBy.out _ (List.getElem_mem _)
      obtain ⟨s1, s2, s3, s4⟩ := own_set HJ.out j (.int .u8 (255 - l.getD j 0))
      rw [bcells_set, flk_succ l j hjn] at s1
      have wu : IntKind.u8.wrap (255 - l.getD j 0) = 255 - l.getD j 0 := by rw [IntKind.wrap_u8]; omega
      have HN := Lib.hid s1
      have HNF : Hid (Below B w (wr.setCell ⟨g, j, none⟩ (.int .u8 (255 - l.getD j 0))) ∧ ∀ k, k ≠ g → (wr.setCell ⟨g, j, none⟩ (.int .u8 (255 - l.getD j 0))).heap[k]? = w.heap[k]?) := ⟨HF.out.1.trans s4, fun k hk => (s3 k hk).trans (HF.out.2 k hk)⟩
      clear s1 s3 s4 hro HJ HF
      generalize l.getD j 0 = x at c0 wu HN HNF hx
      go_wp2_with fail
      exact ⟨⟨j + 1, by go_num, by omega, HN.out, HNF.out⟩, by show l.length - ((j : Int) + 1).toNat < l.length - (j : Int).toNat; omega⟩
    · have dj : decide ((j : Int) < (l.length : Int)) = false := decide_eq_false (by omega)
      obtain rfl : j = l.length := by omega
      have hJ := HJ.out
      rw [e1.out] at hJ
      have HJ2 := Lib.hid hJ
      clear hJ HJ
      go_wp2_with fail
      go_end0
      exact ⟨rfl, HJ2.out, HF.out⟩
end Go.Proofs.YtebhbcbcnjdgjaaDoor.dk
