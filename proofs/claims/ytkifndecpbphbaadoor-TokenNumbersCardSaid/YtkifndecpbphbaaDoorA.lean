/- Rows of bytes, strings, appends: what serves every function of bytes. -/
import Derived.Test.YtkifndecpbphbaaDoorRows
import Derived.WalkKit
import Derived.ProofKit
import Derived.OpenShut
import Derived.Handy
import Derived.PlainAid
import Derived.Deep.QuietTactic
import Derived.BigQuiet
import Derived.WalkLawsBesides
import Derived.WalkSpells
import Derived.Lib.Hide
import Derived.Laws.Rows
import Derived.Laws.CopyOwn
import Derived.Laws.MakeOwn
import Derived.Lib.ConvBytes
import Derived.Laws.BytesString
import Derived.Deep.Slices
import Derived.Laws.CopyRow
import Derived.Laws.Tables
import Derived.Laws.AppendOwn
import Derived.Laws.ResultCell
import Derived.Deep.RegionHeld
namespace Go.Proofs.YtkifndecpbphbaaDoor.dk
open Go.PlainAid Go.ChangeShapes Go.WideShapes Go.ChangeAt Go.RowKit

def bcells (l : List Int) : List Value := l.map (Value.int .u8)
theorem bcells_length (l : List Int) : (bcells l).length = l.length := by simp [bcells]
theorem bcells_append (a b : List Int) : bcells (a ++ b) = bcells a ++ bcells b := by simp [bcells]
theorem own_block_keeps {w w' : World} {B s : Nat} {t : TypeId} {v : Value} {n : Nat} {xs : List Value} (h : w.ownsRow B t s v n xs) (hb : ∀ g, v.ownBlock = some g → w'.heap[g]? = w.heap[g]?) : w'.ownsRow B t s v n xs := by
  refine ⟨h.1, ?_⟩
  rcases h.2 with h' | ⟨g, cap, cur, hv, hg, hh, hn, hc, hsz, ht⟩
  · exact .inl h'
  · exact .inr ⟨g, cap, cur, hv, hg, by rw [hb g (by rw [hv]; rfl)]; exact hh, hn, hc, hsz, ht⟩
/-- But for one block all stands as it stood. -/
def Fr (D : Nat) (w w' : World) : Prop := ∀ k, k ≠ D → w'.heap[k]? = w.heap[k]?
theorem bcells_at (l : List Int) (j : Nat) (h : j < l.length) : (bcells l)[j]? = some (.int .u8 (l.getD j 0)) := by
  unfold bcells
  rw [List.getElem?_map, List.getD_eq_getElem?_getD, List.getElem?_eq_getElem h]
  rfl
theorem bcells_one (l : List Int) : ∀ u ∈ bcells l, u.oneCell' = true := by
  intro u hu
  obtain ⟨x, _, rfl⟩ := List.mem_map.1 hu
  rfl
/-- A slice that reads as the bytes l. -/
def Rd (W : World) (p : Option Addr) (n : Nat) (l : List Int) : Prop := l.length = n ∧ (0 < n → ∃ b off, p = some ⟨b, off, none⟩ ∧ b < W.heap.size ∧ ∀ i, i < n → W.cell? ⟨b, off + i, none⟩ = some (.int .u8 (l.getD i 0)))
theorem add_off (b off j : Nat) : (⟨b, off, none⟩ : Addr).add j = ⟨b, off + j, none⟩ := by unfold Addr.add; split <;> simp_all
theorem Rd.news {W : World} {p : Option Addr} {n : Nat} {l : List Int} (h : Rd W p n l) (h0 : 0 < (bcells l).length) : ∃ ad, p = some ad ∧ ∀ j v, (bcells l)[j]? = some v → W.cell? (ad.add j) = some v := by
  rw [bcells_length, h.1] at h0
  obtain ⟨b, off, rfl, _, hc⟩ := h.2 h0
  refine ⟨_, rfl, fun j v hj => ?_⟩
  have hjl : j < l.length := by
    obtain ⟨k, _⟩ := List.getElem?_eq_some_iff.1 hj
    rwa [bcells_length] at k
  rw [bcells_at l j hjl] at hj
  cases hj
  rw [add_off]
  exact hc j (by rw [← h.1]; exact hjl)
theorem Rd.below {W W' : World} {p : Option Addr} {n : Nat} {l : List Int} (h : Rd W p n l) (hb : Below W.heap.size W W') : Rd W' p n l := by
  refine ⟨h.1, fun h0 => ?_⟩
  obtain ⟨b, off, hp, hlt, hc⟩ := h.2 h0
  exact ⟨b, off, hp, Nat.lt_of_lt_of_le hlt hb.size, fun i hi => (hb.cell (p := ⟨b, off + i, none⟩) hlt).trans (hc i hi)⟩
def Bys (l : List Int) : Prop := ∀ x ∈ l, 0 ≤ x ∧ x ≤ 255
theorem Bys.app {a b : List Int} (ha : Bys a) (hb : Bys b) : Bys (a ++ b) := fun x hx => by
  rcases List.mem_append.1 hx with h | h
  · exact ha x h
  · exact hb x h
theorem Bys.rep (n : Nat) : Bys (List.replicate n 0) := fun x hx => by
  rw [(List.mem_replicate.1 hx).2]; omega
theorem Bys.nil : Bys [] := fun x hx => by cases hx
theorem Bys.cons {a : Int} {l : List Int} (h : 0 ≤ a ∧ a ≤ 255) (hl : Bys l) : Bys (a :: l) := fun x hx => by
  rcases List.mem_cons.1 hx with rfl | h'
  · exact h
  · exact hl x h'
theorem Bys.sub {a b : List Int} (ha : Bys a) (h : ∀ x ∈ b, x ∈ a) : Bys b := fun x hx => ha x (h x hx)
theorem Bys.take {a : List Int} (ha : Bys a) (n : Nat) : Bys (a.take n) := ha.sub fun _ h => List.mem_of_mem_take h
theorem Bys.drop {a : List Int} (ha : Bys a) (n : Nat) : Bys (a.drop n) := ha.sub fun _ h => List.mem_of_mem_drop h
theorem Rd.cell {W : World} {b off n : Nat} {l : List Int} (h : Rd W (some ⟨b, off, none⟩) n l) (i : Nat) (hi : i < n) : W.cell? ⟨b, off + i, none⟩ = some (.int .u8 (l.getD i 0)) := by
  obtain ⟨b', off', e, _, hc⟩ := h.2 (by omega)
  obtain ⟨rfl, rfl⟩ : b = b' ∧ off = off' := by injection e with e; injection e with e1 e2; exact ⟨e1, e2⟩
  exact hc i hi
theorem Rd.form {W : World} {p : Option Addr} {n : Nat} {l : List Int} (h : Rd W p n l) (h0 : 0 < n) : ∃ b off, p = some ⟨b, off, none⟩ ∧ b < W.heap.size := by
  obtain ⟨b, off, e, hl, _⟩ := h.2 h0
  exact ⟨b, off, e, hl⟩
theorem Rd.cut {W : World} {b off n : Nat} {l : List Int} (h : Rd W (some ⟨b, off, none⟩) n l) (i k : Nat) (hk : i + k ≤ n) : Rd W (some ⟨b, off + i, none⟩) k ((l.drop i).take k) := by
  refine ⟨by rw [List.length_take, List.length_drop, h.1]; omega, fun h0 => ?_⟩
  obtain ⟨b', off', e, hlt, hc⟩ := h.2 (by omega)
  obtain ⟨rfl, rfl⟩ : b = b' ∧ off = off' := by injection e with e; injection e with e1 e2; exact ⟨e1, e2⟩
  refine ⟨b, off + i, rfl, hlt, fun x hx => ?_⟩
  rw [Nat.add_assoc, hc (i + x) (by omega)]
  congr 2
  rw [List.getD_eq_getElem?_getD, List.getD_eq_getElem?_getD, List.getElem?_take, if_pos hx, List.getElem?_drop]
/-- A row of bytes in a block of its own. -/
def RowB (G : Nat) (l : List Int) (W : World) : Prop := W.heap[G]? = some (.cells (bcells l).toArray 5 (0, 0))
theorem RowB.cell {G : Nat} {l : List Int} {W : World} (h : RowB G l W) (i : Nat) (hi : i < l.length) : W.cell? ⟨G, i, none⟩ = some (.int .u8 (l.getD i 0)) := by
  rw [cell_of_row _ _ _ _ _ _ h, List.getElem?_toArray, bcells_at l i hi]
theorem RowB.frozen {G : Nat} {l : List Int} {W : World} (h : RowB G l W) (i : Nat) : W.frozen? ⟨G, i, none⟩ = false := by
  simp [World.frozen?, show W.heap[G]? = _ from h]
theorem RowB.lt {G : Nat} {l : List Int} {W : World} (h : RowB G l W) : G < W.heap.size := (Array.getElem?_eq_some_iff.1 h).1
theorem RowB.below {G : Nat} {l : List Int} {W W' : World} (h : RowB G l W) (hb : Below W.heap.size W W') : RowB G l W' := (hb.block _ h.lt).trans h
theorem RowB.rd {G n : Nat} {l : List Int} {W : World} (h : RowB G l W) (hn : l.length = n) : Rd W (some ⟨G, 0, none⟩) n l :=
  ⟨hn, fun _ => ⟨G, 0, rfl, h.lt, fun i hi => by rw [Nat.zero_add]; exact h.cell i (by omega)⟩⟩
theorem RowB.set {G B : Nat} {l : List Int} {W W0 : World} (h : RowB G l W) (i : Nat) (v : Int) (hB : B ≤ G) (hb : Below B W0 W) :
    RowB G (l.set i v) (W.setCell ⟨G, i, none⟩ (.int .u8 v)) ∧ Below B W0 (W.setCell ⟨G, i, none⟩ (.int .u8 v)) := by
  rw [setCell_eq_setRow W G i _ _ _ (.int .u8 v) h]
  have e : (bcells l).toArray.setIfInBounds i (.int .u8 v) = (bcells (l.set i v)).toArray := by
    simp [bcells, List.map_set]
  rw [e]
  exact ⟨setRow_heap W G _ _ _ _ h, below_setRow hb hB _⟩
theorem row_ne {W : World} {a b : Nat} {c d : Array Value} {s t : TypeId} (h1 : W.heap[a]? = some (.cells c s (0, 0))) (h2 : W.heap[b]? = some (.cells d t (0, 0))) (ht : s ≠ t) : a ≠ b := by
  rintro rfl
  rw [h1] at h2
  injection h2 with h2
  injection h2 with _ h2 _
  exact ht h2
theorem owned_type {w : World} {B s : Nat} {t : TypeId} {v : Value} {n : Nat} {xs : List Value} (h : w.ownsRow B t s v n xs) {g : Nat} (hg : v.ownBlock = some g) : ∃ cur, w.heap[g]? = some (.cells cur t (0, 0)) := by
  rcases h.2 with ⟨hv, _⟩ | ⟨g', cap, cur, hv, _, hh, _⟩
  · rw [hv] at hg; cases hg
  · rw [hv] at hg
    injection hg with hg
    subst hg
    exact ⟨cur, hh⟩
theorem owned_keeps {w w' : World} {B s : Nat} {t : TypeId} {v : Value} {n : Nat} {xs : List Value} (h : w.ownsRow B t s v n xs) (hb : ∀ g, v.ownBlock = some g → w'.heap[g]? = w.heap[g]?) : w'.ownsRow B t s v n xs := own_block_keeps h hb
theorem owned_base {w : World} {B B' s : Nat} {t : TypeId} {v : Value} {n : Nat} {xs : List Value} (h : w.ownsRow B t s v n xs) (hB : B' ≤ B) : w.ownsRow B' t s v n xs := by
  refine ⟨h.1, ?_⟩
  rcases h.2 with h' | ⟨g, cap, cur, hv, hg, rest⟩
  · exact .inl h'
  · exact .inr ⟨g, cap, cur, hv, Nat.le_trans hB hg, rest⟩
theorem owned_rd {w : World} {B n c : Nat} {p : Option Addr} {l : List Int} (h : w.ownsRow B 5 1 (.slice p n c) n (bcells l)) : Rd w p n l := by
  have hl : l.length = n := by have := h.1; rw [bcells_length, Nat.mul_one] at this; exact this
  refine ⟨hl, fun h0 => ?_⟩
  rcases h.2 with ⟨hv, h1⟩ | ⟨g, cap, cur, hv, hg, hh, _⟩
  · omega
  · injection hv with hp _ _
    refine ⟨g, 0, hp, (Array.getElem?_eq_some_iff.1 hh).1, fun i hi => ?_⟩
    have := h.cells (g := g) (by rw [hp]; rfl) i _ (bcells_at l i (by omega))
    rw [add_off] at this
    exact this
theorem owned_form {w : World} {B s : Nat} {t : TypeId} {v : Value} {n : Nat} {xs : List Value} (h : w.ownsRow B t s v n xs) : ∃ p c, v = .slice p n c := by
  rcases h.2 with ⟨hv, h0⟩ | ⟨g, cap, cur, hv, _⟩
  · exact ⟨none, 0, by rw [hv, h0]⟩
  · exact ⟨some ⟨g, 0, none⟩, cap, hv⟩
theorem infoU8 : (Tryd.prog.info? 5).map (fun i => (i.zero, i.size, i.bytes)) = some (some (.int .u8 0), 1, 1) := by kernel_rfl
/-- append of bytes to a slice that the call made. -/
theorem append_bytes {w : World} {B : Nat} {v : Value} {l b : List Int} {G off m c : Nat} (hown : w.ownsRow B 5 1 v l.length (bcells l)) (hR : Rd w (some ⟨G, off, none⟩) m b) (hl : l.length ≤ 100000000) (hm : m ≤ 100000000) (hB : B ≤ w.heap.size) :
    ∃ p cc w', (Builtin.append_ #[33, 33] 33 #[v, .slice (some ⟨G, off, none⟩) m c]).run Tryd.prog w = .ok (.slice p (l ++ b).length cc) w' ∧ w'.ownsRow B 5 1 (.slice p (l ++ b).length cc) (l ++ b).length (bcells (l ++ b)) ∧ Below B w w' ∧ w.grownBy w' v.ownBlock := by
  obtain ⟨i0, hi, hz0, hz1, hz2⟩ := info_parts infoU8
  have hbl := hR.1
  obtain ⟨v', w', hr, h2, h3, _⟩ := run_append_own (P := Tryd.prog) w B 33 33 5 i0 _ 1 1 Tryd.underlying33 hi hz0 hz1 hz2 (by rfl) (by decide) v l.length (bcells l) hown ⟨G, off, none⟩ m c (bcells b) (by rw [bcells_length, hbl, Nat.mul_one])
    (fun j u hj => by
      rw [add_off]
      have hjb : j < b.length := by
        have := (List.getElem?_eq_some_iff.1 hj).1
        rwa [bcells_length] at this
      rw [bcells_at b j hjb] at hj
      rw [← hj]
      exact hR.cell j (by omega)) (bcells_one b) (by unfold maxLen; omega) (by omega) hB
  obtain ⟨p, cc, rfl⟩ := owned_form h2
  have e : l.length + m = (l ++ b).length := by rw [List.length_append, hbl]
  rw [e, ← bcells_append] at h2
  rw [e] at hr
  exact ⟨p, cc, w', hr, h2, (Below.refl _ _).grown h3 hB (fun k hk => (hown.lt k hk).1), h3⟩
/-- append, by what it does when it is run. -/
theorem wpList_append_run {P : Program} {ops : Array Oper} {rest : List Oper} {o : Oper} {a : Act} {w : World} {Q : Exit → Act → World → Prop} (hgd : o.guard = none) (s x : Operand) (t : TypeId)
    (ho : o.op = .call { callee := .builtin .append, args := #[s, x], argTypes := #[t, t] }) (sv xv v' : Value) (w' : World) (hs : a.eval s = sv) (hx : a.eval x = xv)
    (hr : (Builtin.append_ #[t, t] o.type #[sv, xv]).run P w = .ok v' w') (h : wpList P ops Q rest (a.put o.dst v') w') : wpList P ops Q (o :: rest) a w :=
  wpList_plain hgd fun K hK => by
    unfold Oper.wp execOp
    simp only [ho, resolve, invoke, builtin, Sem.run_bind, Sem.run_pure, Result.andThen_ok, List.map_toArray, List.map_cons, List.map_nil, hs, hx, hr]
    exact hK _ _ h
theorem bytes_belowd (w : World) (s : ByteArray) (T : TypeId) : Below w.heap.size w (Lib.bytesWorld w T s) :=
  ⟨rfl, rfl, rfl, by rw [Lib.bytesWorld_size]; omega, fun k hk => Lib.bytesWorld_at_old w T s k hk⟩
/-- Bytes as a string. -/
def strOf (l : List Int) : ByteArray := l.foldl (fun r n => r.push (UInt8.ofNat n.toNat)) ByteArray.empty
theorem conv_rd {W : World} {p : Option Addr} {n c : Nat} {l : List Int} (h : Rd W p n l) : (convert 33 9 (.slice p n c)).run Tryd.prog W = .ok (.string (strOf l)) W := by
  rw [run_convert_bytes_string W 33 9 5 p n c Tryd.underlying33 Tryd.underlying5 Tryd.underlying9]
  rcases Nat.eq_zero_or_pos n with rfl | h0
  · have hl := List.length_eq_zero_iff.1 h.1
    subst hl
    cases p with
    | none => simp [Conv.bytesToString, strOf]
    | some a => exact run_bytesToString W a 0 c [] (by simp [loadCells, loadCellsFrom])
  · obtain ⟨b, off, rfl, _, hc⟩ := h.2 h0
    refine run_bytesToString W _ _ _ l ?_
    have := run_loadCells_list (P := Tryd.prog) W ⟨b, off, none⟩ (bcells l) (fun j u hj => by
      have hjl : j < l.length := by
        obtain ⟨k, _⟩ := List.getElem?_eq_some_iff.1 hj
        rwa [bcells_length] at k
      rw [bcells_at l j hjl] at hj
      cases hj
      rw [add_off]
      exact hc j (by rw [← h.1]; exact hjl))
    rw [bcells_length, h.1] at this
    exact this
theorem fold_push : ∀ (l : List Int) (s : ByteArray), (l.foldl (fun r n => r.push (UInt8.ofNat n.toNat)) s).data.toList = s.data.toList ++ l.map fun n => UInt8.ofNat n.toNat
  | [], s => by simp
  | x :: l, s => by
    rw [List.foldl_cons, fold_push l]
    simp [ByteArray.push]
theorem strOf_data (l : List Int) : (strOf l).data.toList = l.map fun n => UInt8.ofNat n.toNat := by
  unfold strOf
  rw [fold_push]
  rfl
theorem strOf_size (l : List Int) : (strOf l).size = l.length := by
  have := congrArg List.length (strOf_data l)
  simpa using this
/-- A string's bytes. -/
def unstr (s : ByteArray) : List Int := s.data.toList.map fun b => (b.toNat : Int)
theorem unstr_length (s : ByteArray) : (unstr s).length = s.size := by simp [unstr]
theorem strOf_unstr (s : ByteArray) : strOf (unstr s) = s := by
  have h : (strOf (unstr s)).data.toList = s.data.toList := by
    rw [strOf_data]
    unfold unstr
    rw [List.map_map]
    conv => rhs; rw [← List.map_id s.data.toList]
    apply List.map_congr_left
    intro x _
    simp
  have h2 : (strOf (unstr s)).data = s.data := Array.toList_inj.1 h
  cases hs : strOf (unstr s) with
  | mk d => cases s with
    | mk d' => rw [hs] at h2; exact congrArg ByteArray.mk h2
theorem rd_string (w : World) (s : ByteArray) (n : Nat) (h : s.size = n) : Rd (Lib.bytesWorld w 5 s) (some ⟨w.heap.size, 0, none⟩) n (unstr s) :=
  ⟨by rw [unstr_length, h], fun _ => ⟨_, _, rfl, by rw [Lib.bytesWorld_size]; omega, fun i hi => by
    rw [Nat.zero_add, Lib.bytesWorld_cell _ _ _ _ (by omega)]
    congr 2
    unfold unstr
    have hl : s.data.toList.length = s.size := by simp
    rw [List.getD_eq_getElem?_getD, List.getD_eq_getElem?_getD, List.getElem?_map, List.getElem?_eq_getElem (by omega)]
    rfl⟩⟩
theorem unstr_strOf (l : List Int) (h : Bys l) : unstr (strOf l) = l := by
  unfold unstr
  rw [strOf_data, List.map_map]
  conv => rhs; rw [← List.map_id l]
  apply List.map_congr_left
  intro x hx
  have hb := h x hx
  show ((UInt8.ofNat x.toNat).toNat : Int) = x
  rw [UInt8.toNat_ofNat']
  omega
theorem setStep {W W0 : World} {A B j : Nat} {t : TypeId} {cs : Array Value} {v : Value} (hB : B ≤ A) (h : W.heap[A]? = some (.cells cs t (0, 0)) ∧ Below B W0 W) : (W.setCell ⟨A, j, none⟩ v).heap[A]? = some (.cells (cs.setIfInBounds j v) t (0, 0)) ∧ Below B W0 (W.setCell ⟨A, j, none⟩ v) := by
  rw [setCell_eq_setRow W A j _ _ _ v h.1]
  exact ⟨setRow_heap W A _ _ _ _ h.1, below_setRow h.2 hB _⟩
theorem row_ne2 {W : World} {a b : Nat} {c d : Array Value} {s t : TypeId} {f f2 : Nat × Nat} (h1 : W.heap[a]? = some (.cells c s f)) (h2 : W.heap[b]? = some (.cells d t f2)) (ht : s ≠ t) : a ≠ b := by
  rintro rfl
  rw [h1] at h2
  injection h2 with h2
  injection h2 with _ h2 _
  exact ht h2
theorem rd_of_block {W W' : World} {q off n : Nat} {l : List Int} (h : Rd W (some ⟨q, off, none⟩) n l) (hb : W'.heap[q]? = W.heap[q]?) (hs : W.heap.size ≤ W'.heap.size) : Rd W' (some ⟨q, off, none⟩) n l := by
  refine ⟨h.1, fun h0 => ?_⟩
  obtain ⟨b, o, e, hl, hc⟩ := h.2 h0
  have hq : q = b := by injection e with e; injection e
  refine ⟨b, o, e, Nat.lt_of_lt_of_le hl hs, fun i hi => ?_⟩
  exact (World.cell?_of_block (a := ⟨b, o + i, none⟩) (by rw [← hq]; exact hb)).trans (hc i hi)
theorem row_owned {B G k : Nat} {l : List Int} {W : World} (h : RowB G l W) (hl : l.length = k) (hB : B ≤ G) (hk : k ≤ 100000) : W.ownsRow B 5 1 (.slice (some ⟨G, 0, none⟩) l.length k) l.length (bcells l) :=
  ⟨by rw [bcells_length, Nat.mul_one], .inr ⟨G, k, _, rfl, hB, h, by omega, by unfold maxLen; omega, by simp [bcells]; omega, by rw [List.take_of_length_le (by simp [bcells])]⟩⟩
end Go.Proofs.YtkifndecpbphbaaDoor.dk
