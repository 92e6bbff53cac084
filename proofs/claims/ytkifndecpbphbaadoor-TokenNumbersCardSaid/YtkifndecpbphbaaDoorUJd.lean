/- Slices of bytes that the call makes itself: what append leaves. -/
import Derived.Test.YtkifndecpbphbaaDoorUtfP
import Derived.Test.YtkifndecpbphbaaDoorUJa
import Derived.Laws.BytesString
import Derived.Lib.QuietBelow
import Derived.Deep.RegionLaw
import Derived.Laws.AppendOwnNone
namespace Go.Proofs.YtkifndecpbphbaaDoor.utf
open Go.PlainAid Go.ChangeShapes Go.WideShapes Go.ChangeAt Go.RowKit

/-- Bytes as cells. -/
def bcells (l : List Int) : List Value := l.map (Value.int .u8)
theorem bcells_length (l : List Int) : (bcells l).length = l.length := by simp [bcells]
theorem bcells_append (a b : List Int) : bcells (a ++ b) = bcells a ++ bcells b := by simp [bcells]
theorem bcells_at (l : List Int) (j : Nat) (h : j < l.length) : (bcells l)[j]? = some (.int .u8 (gl l j)) := by
  unfold bcells gl
  rw [List.getElem?_map, List.getD_eq_getElem?_getD, List.getElem?_eq_getElem h]
  rfl
theorem bcells_one (l : List Int) : ∀ u ∈ bcells l, u.oneCell' = true := by
  intro u hu
  obtain ⟨x, _, rfl⟩ := List.mem_map.1 hu
  rfl
theorem info_byte : ∃ i, Tryd.prog.info? 5 = some i ∧ i.zero = some (.int .u8 0) ∧ i.size = 1 ∧ i.bytes = 1 := by
  obtain ⟨i0, hi, hz0, hz1, hz2⟩ := info_parts infoByte
  exact ⟨i0, hi, hz0, hz1, hz2⟩

/-- A row of the call's own reads as the bytes that it holds. -/
theorem Bs_own {w : World} {B : Nat} {v : Value} {l : List Int} (h : w.ownsRow B 5 1 v l.length (bcells l)) : Bs w v l := by
  obtain ⟨_, h⟩ := h
  rcases h with ⟨hv, h0⟩ | ⟨g, cap, cur, hv, hg, hh, hn, hc, hsz, ht⟩
  · exact .inl ⟨none, 0, hv, List.length_eq_zero_iff.1 h0⟩
  by_cases h0 : l.length = 0
  · exact .inl ⟨_, _, by rw [hv, h0], List.length_eq_zero_iff.1 h0⟩
  refine .inr ⟨g, 0, cap, hv, by omega, hn, ?_, fun i hi => ?_⟩
  · rcases Nat.lt_or_ge g w.heap.size with k | k
    · exact k
    · simp [Array.getElem?_eq_none k] at hh
  · rw [Nat.zero_add, cell_of_row w g i cur _ _ hh, ← Array.getElem?_toList]
    have := bcells_at l i hi
    rw [← ht, Nat.mul_one, List.getElem?_take, if_pos hi] at this
    exact this

/-- What append is given: the cells of a slice of bytes. -/
theorem Bs_news {w : World} {a : Addr} {m c : Nat} {l : List Int} (h : Bs w (.slice (some a) m c) l) : m = l.length ∧ ∀ j u, (bcells l)[j]? = some u → w.cell? (a.add j) = some u := by
  rcases h with ⟨p, c', hv, rfl⟩ | ⟨b, off, cap, hv, h0, hc, hlt, h⟩
  · injection hv with _ hm _
    exact ⟨hm, fun j u hj => by simp [bcells] at hj⟩
  · injection hv with ha hm _
    injection ha with ha
    subst ha
    refine ⟨hm, fun j u hj => ?_⟩
    have hjl : j < l.length := by
      have := List.getElem?_eq_some_iff.1 hj
      obtain ⟨k, _⟩ := this
      rwa [bcells_length] at k
    rw [bcells_at l j hjl] at hj
    cases hj
    have e : (⟨b, off, none⟩ : Addr).add j = ⟨b, off + j, none⟩ := by unfold Addr.add; split <;> simp_all
    rw [e]
    exact h j hjl

/-- The empty slice that the call makes. -/
theorem own_empty (w : World) (B : Nat) (hB : B ≤ w.heap.size) : (w.alloc (.cells #[] 5)).ownsRow B 5 1 (.slice (some ⟨w.heap.size, 0, none⟩) 0 0) 0 (bcells []) :=
  ⟨rfl, .inr ⟨w.heap.size, 0, #[], rfl, hB, heap_alloc_new w _, by omega, by decide, rfl, rfl⟩⟩

/-- What Put(nil, r) has made reads as the character's bytes. -/
theorem Bs_put (w : World) (r : Int) : Bs (w.alloc (.cells (encCells r) 5)) (.slice (some ⟨w.heap.size, 0, none⟩) (enc r).length (enc r).length) (enc r) := by
  have hl := enc_len r
  refine .inr ⟨w.heap.size, 0, _, rfl, by omega, Nat.le_refl _, by simp, fun i hi => ?_⟩
  rw [Nat.zero_add, cell_of_row _ w.heap.size i _ _ _ (heap_alloc_new w _)]
  have := bcells_at (enc r) i hi
  unfold encCells
  rw [← this]
  simp [bcells]
/-- .. and its first bytes. -/
theorem Bs_take {w : World} {b off len cap k : Nat} {l : List Int} (h : Bs w (.slice (some ⟨b, off, none⟩) len cap) l) (hk : k ≤ l.length) : Bs w (.slice (some ⟨b, off, none⟩) k cap) (l.take k) := by
  by_cases h0 : k = 0
  · subst h0; exact .inl ⟨_, _, rfl, rfl⟩
  rcases h with ⟨p, c', hv, rfl⟩ | ⟨b', off', cap', hv, hpos, hc, hlt, h⟩
  · simp at hk; omega
  · injection hv with ha hm hcap
    injection ha with ha
    injection ha with hb ho
    subst hb ho hcap
    have e : (l.take k).length = k := by simp; omega
    refine .inr ⟨b, off, cap, by rw [e], by omega, by omega, hlt, fun i hi => ?_⟩
    rw [h i (by omega)]
    congr 2
    unfold gl
    rw [List.getD_eq_getElem?_getD, List.getD_eq_getElem?_getD, List.getElem?_take, if_pos (by omega)]
/-- A slice of a block below B reads as it did. -/
theorem Bs.under {w w' : World} {B b off len cap : Nat} {l : List Int} (h : Bs w (.slice (some ⟨b, off, none⟩) len cap) l) (hb : Below B w w') (hlt : b < B) : Bs w' (.slice (some ⟨b, off, none⟩) len cap) l := by
  rcases h with h | ⟨b', off', cap', hv, hpos, hc, hl, h⟩
  · exact .inl h
  · injection hv with ha hm hcap
    injection ha with ha
    injection ha with hb' ho
    subst hb' ho hcap
    exact .inr ⟨b, off, cap, by rw [hm], hpos, hc, Nat.lt_of_lt_of_le hl hb.size, fun i hi => (hb.cell (p := ⟨b, off + i, none⟩) hlt).trans (h i hi)⟩
end Go.Proofs.YtkifndecpbphbaaDoor.utf
/- One law for append of bytes, whatever the source; a byte's slice; strings of bytes. -/
namespace Go.Proofs.YtkifndecpbphbaaDoor.utf
open Go.PlainAid Go.ChangeShapes Go.WideShapes Go.ChangeAt Go.RowKit

theorem grownBy_refl (w : World) (row : Option Nat) : w.grownBy w row := ⟨rfl, rfl, rfl, Nat.le_refl _, fun _ _ _ => rfl⟩

/-- append(s, x...): s a row of the call's own, x any slice of bytes. -/
theorem wpList_append_bs {w : World} {ops : Array Oper} {rest : List Oper} {o : Oper} {a : Act} {Q : Exit → Act → World → Prop} (hgd : o.guard = none) (s x : Operand)
    (ho : o.op = .call { callee := .builtin .append, args := #[s, x], argTypes := #[33, 33] })
    (base : Nat) (g0 n cap0 : Nat) (xs : List Int) (hs : a.eval s = .slice (some ⟨g0, 0, none⟩) n cap0) (hown : w.ownsRow base 5 1 (.slice (some ⟨g0, 0, none⟩) n cap0) n (bcells xs))
    (p : Option Addr) (m c : Nat) (l : List Int) (hx : a.eval x = .slice p m c) (hp : p = none → m = 0 ∧ c = 0) (hB : Bs w (.slice p m c) l)
    (hlen : n + m ≤ 140737488355328) (hbase : base ≤ w.heap.size)
    (h : ∀ g cap w', w'.ownsRow base 5 1 (.slice (some ⟨g, 0, none⟩) (n + m) cap) (n + m) (bcells (xs ++ l)) → Below base w w' →
      wpList Tryd.prog ops Q rest (a.put o.dst (.slice (some ⟨g, 0, none⟩) (n + m) cap)) w') : wpList Tryd.prog ops Q (o :: rest) a w := by
  obtain ⟨i0, hi, hz0, hz1, hz2⟩ := info_byte
  cases p with
  | none =>
    obtain ⟨rfl, rfl⟩ := hp rfl
    have hl : l = [] := by
      rcases hB with ⟨_, _, _, h⟩ | ⟨_, _, _, hv, _⟩
      · exact h
      · cases hv
    subst hl
    refine wpList_append_own_none hgd s x _ ho base 5 i0 1 Tryd.underlying33 hi _ n (bcells xs) hs hown hx ?_
    exact h g0 cap0 w (by rw [List.append_nil]; exact hown) (Below.refl _ _)
  | some ad =>
    obtain ⟨hm, hn⟩ := Bs_news hB
    refine wpList_append_own w hgd s x _ ho base 5 i0 (.int .u8 0) 1 1 Tryd.underlying33 hi hz0 hz1 hz2 rfl (by decide) _ n (bcells xs) hs hown ad m c (bcells l) hx
      (by rw [bcells_length, hm, Nat.mul_one]) hn (bcells_one l) (by unfold maxLen; omega) (by omega) hbase ?_
    intro v' w' h1 h2 h3
    have hb : Below base w w' := (Below.refl _ _).grown h2 hbase (fun k hk => (hown.lt k hk).1)
    rw [← bcells_append] at h1
    obtain ⟨g, cap, rfl⟩ : ∃ g cap, v' = .slice (some ⟨g, 0, none⟩) (n + m) cap := by
      rcases h1.2 with ⟨hv, _⟩ | ⟨g, cap, cur, hv, _⟩
      · exact absurd (h3.1 hv).1 (by simp)
      · exact ⟨g, cap, hv⟩
    exact h g cap w' h1 hb

/-- .. with the length apart. -/
theorem Bs_own' {w : World} {B n : Nat} {v : Value} {l : List Int} (h : w.ownsRow B 5 1 v n (bcells l)) : Bs w v l := by
  have : n = l.length := by have := h.1; rw [bcells_length] at this; omega
  subst this
  exact Bs_own h

/-- append(nil, x...), x not empty. -/
theorem wpList_append_nil_bs {w : World} {ops : Array Oper} {rest : List Oper} {o : Oper} {a : Act} {Q : Exit → Act → World → Prop} (hgd : o.guard = none) (s x : Operand)
    (ho : o.op = .call { callee := .builtin .append, args := #[s, x], argTypes := #[33, 33] })
    (base : Nat) (hs : a.eval s = .slice none 0 0) (ad : Addr) (m c : Nat) (l : List Int) (hx : a.eval x = .slice (some ad) m c) (hB : Bs w (.slice (some ad) m c) l) (h0 : 0 < m)
    (hlen : m ≤ 140737488355328) (hbase : base ≤ w.heap.size)
    (h : ∀ g cap w', w'.ownsRow base 5 1 (.slice (some ⟨g, 0, none⟩) m cap) m (bcells l) → Below base w w' →
      wpList Tryd.prog ops Q rest (a.put o.dst (.slice (some ⟨g, 0, none⟩) m cap)) w') : wpList Tryd.prog ops Q (o :: rest) a w := by
  obtain ⟨i0, hi, hz0, hz1, hz2⟩ := info_byte
  obtain ⟨hm, hn⟩ := Bs_news hB
  have hown := World.ownsRow_nil w base 5 1
  refine wpList_append_own w hgd s x _ ho base 5 i0 (.int .u8 0) 1 1 Tryd.underlying33 hi hz0 hz1 hz2 rfl (by decide) _ 0 [] hs hown ad m c (bcells l) hx
    (by rw [bcells_length, hm, Nat.mul_one]) hn (bcells_one l) (by unfold maxLen; omega) (by omega) hbase ?_
  intro v' w' h1 h2 h3
  have hb : Below base w w' := (Below.refl _ _).grown h2 hbase (fun k hk => by cases hk)
  rw [Nat.zero_add, List.nil_append] at h1
  obtain ⟨g, cap, rfl⟩ : ∃ g cap, v' = .slice (some ⟨g, 0, none⟩) m cap := by
    rcases h1.2 with ⟨_, hv⟩ | ⟨g, cap, cur, hv, _⟩
    · omega
    · exact ⟨g, cap, hv⟩
  exact h g cap w' h1 hb

/-- New memory that holds given bytes. -/
theorem Bs_lit (w : World) (l : List Int) (h0 : 0 < l.length) : Bs (w.alloc (.cells (bcells l).toArray 5)) (.slice (some ⟨w.heap.size, 0, none⟩) l.length l.length) l := by
  refine .inr ⟨w.heap.size, 0, _, rfl, h0, Nat.le_refl _, by simp, fun i hi => ?_⟩
  rw [Nat.zero_add, cell_of_row _ w.heap.size i _ _ _ (heap_alloc_new w _)]
  rw [← bcells_at l i hi]
  simp

/-- append(nil, x...) as one step of a region that draws. -/
theorem step_append_nil_bs {w : World} {ops : Array Oper} {o : Oper} {a : Act} {K : Act → World → Prop} {Q : Exit → Act → World → Prop} {E : Prop} (hg : o.guard = none) (s x : Operand)
    (ho : o.op = .call { callee := .builtin .append, args := #[s, x], argTypes := #[33, 33] })
    (base : Nat) (hs : a.eval s = .slice none 0 0) (ad : Addr) (m c : Nat) (l : List Int) (hx : a.eval x = .slice (some ad) m c) (hB : Bs w (.slice (some ad) m c) l) (h0 : 0 < m)
    (hlen : m ≤ 140737488355328) (hbase : base ≤ w.heap.size)
    (h : ∀ g cap w', w'.ownsRow base 5 1 (.slice (some ⟨g, 0, none⟩) m cap) m (bcells l) → Below base w w' → K (a.put o.dst (.slice (some ⟨g, 0, none⟩) m cap)) w') :
    if Region.wanted o (yielded ops a.tmps) = true then Oper.wp Tryd.prog o a w K Q else E := by
  have hw : Region.wanted o (yielded ops a.tmps) = true := by simp [Region.wanted, hg]
  rw [if_pos hw]
  obtain ⟨i0, hi, hz0, hz1, hz2⟩ := info_byte
  obtain ⟨hm, hn⟩ := Bs_news hB
  have hown := World.ownsRow_nil w base 5 1
  refine wp_append_own w s x _ ho base 5 i0 (.int .u8 0) 1 1 Tryd.underlying33 hi hz0 hz1 hz2 rfl (by decide) _ 0 [] hs hown ad m c (bcells l) hx
    (by rw [bcells_length, hm, Nat.mul_one]) hn (bcells_one l) (by unfold maxLen; omega) (by omega) hbase ?_
  intro v' w' h1 h2 h3
  have hb : Below base w w' := (Below.refl _ _).grown h2 hbase (fun k hk => by cases hk)
  rw [Nat.zero_add, List.nil_append] at h1
  obtain ⟨g, cap, rfl⟩ : ∃ g cap, v' = .slice (some ⟨g, 0, none⟩) m cap := by
    rcases h1.2 with ⟨_, hv⟩ | ⟨g, cap, cur, hv, _⟩
    · omega
    · exact ⟨g, cap, hv⟩
  exact h g cap w' h1 hb
theorem step_append_bs {w : World} {ops : Array Oper} {o : Oper} {a : Act} {K : Act → World → Prop} {Q : Exit → Act → World → Prop} {E : Prop} (hg : o.guard = none) (s x : Operand)
    (ho : o.op = .call { callee := .builtin .append, args := #[s, x], argTypes := #[33, 33] })
    (base : Nat) (g0 n cap0 : Nat) (xs : List Int) (hs : a.eval s = .slice (some ⟨g0, 0, none⟩) n cap0) (hown : w.ownsRow base 5 1 (.slice (some ⟨g0, 0, none⟩) n cap0) n (bcells xs))
    (ad : Addr) (m c : Nat) (l : List Int) (hx : a.eval x = .slice (some ad) m c) (hB : Bs w (.slice (some ad) m c) l)
    (hlen : n + m ≤ 140737488355328) (hbase : base ≤ w.heap.size)
    (h : ∀ g cap w', w'.ownsRow base 5 1 (.slice (some ⟨g, 0, none⟩) (n + m) cap) (n + m) (bcells (xs ++ l)) → Below base w w' → K (a.put o.dst (.slice (some ⟨g, 0, none⟩) (n + m) cap)) w') :
    if Region.wanted o (yielded ops a.tmps) = true then Oper.wp Tryd.prog o a w K Q else E := by
  have hw : Region.wanted o (yielded ops a.tmps) = true := by simp [Region.wanted, hg]
  rw [if_pos hw]
  obtain ⟨i0, hi, hz0, hz1, hz2⟩ := info_byte
  obtain ⟨hm, hn⟩ := Bs_news hB
  refine wp_append_own w s x _ ho base 5 i0 (.int .u8 0) 1 1 Tryd.underlying33 hi hz0 hz1 hz2 rfl (by decide) _ n (bcells xs) hs hown ad m c (bcells l) hx
    (by rw [bcells_length, hm, Nat.mul_one]) hn (bcells_one l) (by unfold maxLen; omega) (by omega) hbase ?_
  intro v' w' h1 h2 h3
  have hb : Below base w w' := (Below.refl _ _).grown h2 hbase (fun k hk => (hown.lt k hk).1)
  rw [← bcells_append] at h1
  obtain ⟨g, cap, rfl⟩ : ∃ g cap, v' = .slice (some ⟨g, 0, none⟩) (n + m) cap := by
    rcases h1.2 with ⟨hv, _⟩ | ⟨g, cap, cur, hv, _⟩
    · exact absurd (h3.1 hv).1 (by simp)
    · exact ⟨g, cap, hv⟩
  exact h g cap w' h1 hb

theorem Bs_one (w : World) (x : Int) : Bs (w.alloc (.cells #[.int .u8 x] 5)) (.slice (some ⟨w.heap.size, 0, none⟩) 1 1) [x] := by
  refine .inr ⟨w.heap.size, 0, 1, rfl, by simp, by simp, by simp, fun i hi => ?_⟩
  match i, hi with
  | 0, _ => simp [gl]

/-- Bytes as a string. -/
def strOf (l : List Int) : ByteArray := l.foldl (fun r n => r.push (UInt8.ofNat n.toNat)) ByteArray.empty
theorem fold_push : ∀ (l : List Int) (s : ByteArray), (l.foldl (fun r n => r.push (UInt8.ofNat n.toNat)) s).data.toList = s.data.toList ++ l.map fun n => UInt8.ofNat n.toNat
  | [], s => by simp
  | x :: l, s => by
    rw [List.foldl_cons, fold_push l]
    simp [ByteArray.push]
theorem strOf_data (l : List Int) : (strOf l).data.toList = l.map fun n => UInt8.ofNat n.toNat := by
  unfold strOf
  rw [fold_push]
  rfl
theorem strOf_size (l : List Int) : (strOf l).size = l.length := by
  have := congrArg List.length (strOf_data l)
  simpa using this
theorem ints_strOf {l : List Int} (h : Oct l) : ints (strOf l) = l := by
  unfold ints
  rw [strOf_data, List.map_map]
  conv => rhs; rw [← List.map_id l]
  apply List.map_congr_left
  intro x hx
  have := h x hx
  simp only [Function.comp, id]
  show ((x.toNat % 256 : Nat) : Int) = x
  omega
theorem conv_bytes {W : World} {v : Value} {l : List Int} (h : Bs W v l) : (convert 33 9 v).run Tryd.prog W = .ok (.string (strOf l)) W := by
  rcases h with ⟨p, c, rfl, rfl⟩ | ⟨b, off, cap, rfl, h0, hc, hlt, h⟩
  · rw [run_convert_bytes_string W 33 9 5 p 0 c Tryd.underlying33 Tryd.underlying5 Tryd.underlying9]
    cases p with
    | none => simp [Conv.bytesToString, strOf]
    | some a => exact run_bytesToString W a 0 c [] (by simp [loadCells, loadCellsFrom])
  · rw [run_convert_bytes_string W 33 9 5 _ _ _ Tryd.underlying33 Tryd.underlying5 Tryd.underlying9]
    refine run_bytesToString W _ _ _ l ?_
    have := run_loadCells_list (P := Tryd.prog) W ⟨b, off, none⟩ (bcells l) (fun j u hj => by
      have e : (⟨b, off, none⟩ : Addr).add j = ⟨b, off + j, none⟩ := by unfold Addr.add; split <;> simp_all
      have hjl : j < l.length := by
        obtain ⟨k, _⟩ := List.getElem?_eq_some_iff.1 hj
        rwa [bcells_length] at k
      rw [bcells_at l j hjl] at hj
      cases hj
      rw [e]
      exact h j hjl)
    rw [bcells_length] at this
    exact this
theorem follows_mixed : Tryd.prog.follows .mixedOrders = true := by kernel_rfl
end Go.Proofs.YtkifndecpbphbaaDoor.utf
/- The contracts of digits, escapeNumber, Escape. -/
namespace Go.Proofs.YtkifndecpbphbaaDoor.utf
open Go.PlainAid Go.ChangeShapes Go.WideShapes Go.ChangeAt Go.RowKit

/-- A digit of sixteen; below 0: it is none. -/
def hexv (c : Int) : Int := if 48 ≤ c ∧ c ≤ 57 then c - 48 else if 97 ≤ c ∧ c ≤ 102 then c - 87 else if 65 ≤ c ∧ c ≤ 70 then c - 55 else -1
/-- The first k digits' number, behind the first byte. -/
def hxk (l : List Int) : Nat → Option Int
  | 0 => some 0
  | k + 1 => (hxk l k).bind fun r => if hexv (gl l (k + 1)) < 0 then none else some (r * 16 + hexv (gl l (k + 1)))
def dig (l : List Int) : Int × Bool :=
  if l.length < 5 then (0, false) else if gl l 0 ≠ 117 then (0, false) else match hxk l 4 with | some r => (r, true) | none => (0, false)
theorem hexv_range (c : Int) : -1 ≤ hexv c ∧ hexv c ≤ 15 := by unfold hexv; split <;> (try split) <;> (try split) <;> omega
theorem hxk_range (l : List Int) : ∀ (k : Nat) (r : Int), hxk l k = some r → 0 ≤ r ∧ r < 16 ^ k
  | 0, r, h => by simp [hxk] at h; subst h; simp
  | k + 1, r, h => by
    simp only [hxk] at h
    cases hk : hxk l k with
    | none => rw [hk] at h; cases h
    | some q =>
      rw [hk] at h
      simp only [Option.bind_some] at h
      split at h
      · cases h
      · have := hxk_range l k q hk
        have hv := hexv_range (gl l (k + 1))
        injection h with h
        rw [Int.pow_succ]
        omega
theorem hxk_none {l : List Int} {k : Nat} (h : hxk l k = none) : ∀ j, hxk l (k + j) = none
  | 0 => h
  | j + 1 => by
    show hxk l (k + j + 1) = none
    simp only [hxk, hxk_none h j, Option.bind_none]
theorem or16 (r x : Int) (h0 : 0 ≤ r) (h1 : r < 4096) (h2 : 0 ≤ x) (h3 : x < 16) : bits .or .i32 (r * 16) x = r * 16 + x := by
  exact bits_join .i32 31 (by decide) (fun m a b => by rw [IntKind.wrap_i32]; omega) 4 (r * 16) x (by omega) (by omega) (by omega) h2 (by omega) (by omega)

set_option maxRecDepth 100000 in
theorem digits_short (p : Option Addr) (n c : Nat) (w : World) (hn : n < 5) :
    Calls Tryd.prog 77 #[.slice p n c] w fun e w' => e = .returned (.tuple #[.int .i32 0, .bool false]) ∧ w = w' := by
  go_enter Tryd.func77, Tryd.ntmps77
  go_wp2
  go_ret2
  exact ⟨rfl, rfl⟩

set_option maxRecDepth 100000 in
theorem digits_other (b off n c : Nat) (x : Int) (w : World) (hn : 5 ≤ n) (hm : n ≤ 140737488351232) (hc : w.cell? ⟨b, off, none⟩ = some (.int .u8 x)) (hx : x ≠ 117) :
    Calls Tryd.prog 77 #[.slice (some ⟨b, off, none⟩) n c] w fun e w' => e = .returned (.tuple #[.int .i32 0, .bool false]) ∧ w = w' := by
  have b1 : (x != 117) = true := by simpa using hx
  clear hx
  go_enter Tryd.func77, Tryd.ntmps77
  go_wp2
  go_ret2
  exact ⟨rfl, rfl⟩

set_option maxHeartbeats 1000000 in
set_option maxRecDepth 100000 in
theorem digits_some (b off n c : Nat) (l : List Int) (w : World) (hO : Oct l) (hl : l.length = n) (hn : 5 ≤ n) (hm : n ≤ 140737488351232) (hnc : n ≤ c)
    (hcell : ∀ i, i < n → w.cell? ⟨b, off + i, none⟩ = some (.int .u8 (gl l i))) (hx : gl l 0 = 117) :
    Calls Tryd.prog 77 #[.slice (some ⟨b, off, none⟩) n c] w fun e w' => e = .returned (.tuple #[.int .i32 (dig l).1, .bool (dig l).2]) ∧ w = w' := by
  have hd : dig l = match hxk l 4 with | some r => (r, true) | none => (0, false) := by
    unfold dig
    rw [if_neg (by omega), if_neg (by simpa using hx)]
  have hc0 : w.cell? ⟨b, off, none⟩ = some (.int .u8 117) := by have := hcell 0 (by omega); rw [hx] at this; simpa using this
  have HC := Lib.hid hcell
  have HD := Lib.hid hd
  have HO := Lib.hid hO
  clear hcell hd hx hl hO
  go_enter Tryd.func77, Tryd.ntmps77
  go_wp2
  go_loop [4, 19] (fun v i => ∃ (k : Nat) (r : Int), k ≤ 4 ∧ i = .int .i64 k ∧ v = .int .i32 r ∧ Hid (hxk l k = some r)) (fun _ i => 4 - (intOf i).toNat)
  case atStart => exact ⟨0, 0, by omega, rfl, rfl, rfl⟩
  case round =>
    obtain ⟨k, r, hk, rfl, rfl, hr⟩ := hrel
    by_cases hk4 : k < 4
    · have hxb := HO.out.gl (k + 1)
      have hcx := HC.out (k + 1) (by omega)
      rw [show off + (k + 1) = off + 1 + k by omega] at hcx
      have hrr := hxk_range l k r hr.out
      have hp : (16 : Int) ^ k ≤ 4096 := by
        have : k = 0 ∨ k = 1 ∨ k = 2 ∨ k = 3 := by omega
        rcases this with rfl | rfl | rfl | rfl <;> decide
      have hstep : hxk l (k + 1) = if hexv (gl l (k + 1)) < 0 then none else some (r * 16 + hexv (gl l (k + 1))) := by
        show (hxk l k).bind _ = _
        rw [hr.out]; rfl
      revert hstep hcx hxb
      generalize gl l (k + 1) = x
      intro hxb hcx hstep
      obtain ⟨x0, x1⟩ := hxb
      obtain ⟨r0, r1⟩ := hrr
      have r2 : r < 4096 := by omega
      clear hr hp r1
      have fin : ∀ d : Int, hexv x = d → 0 ≤ d → Hid (hxk l (k + 1) = some (r * 16 + d)) := fun d e h0 => by
        show _ = _
        rw [hstep, e, if_neg (by omega)]
      by_cases c1 : 48 ≤ x ∧ x ≤ 57
      · obtain ⟨a1, a2⟩ := c1
        have hres := fin (x - 48) (by unfold hexv; rw [if_pos ⟨a1, a2⟩]) (by omega)
        have hor : bits .or .i32 (r * 16) (x - 48) = r * 16 + (x - 48) := or16 r (x - 48) r0 r2 (by omega) (by omega)
        clear fin hstep
        go_wp2
        go_round
        case rel => exact ⟨k + 1, _, by omega, by go_num, rfl, hres⟩
        case measure => simp [intOf]; omega
      by_cases c2 : 97 ≤ x ∧ x ≤ 102
      · obtain ⟨a1, a2⟩ := c2
        have hres := fin (x - 87) (by unfold hexv; rw [if_neg (by omega), if_pos ⟨a1, a2⟩]) (by omega)
        have hor : bits .or .i32 (r * 16) (x - 97 + 10) = r * 16 + (x - 87) := by rw [or16 r (x - 97 + 10) r0 r2 (by omega) (by omega)]; omega
        clear fin hstep
        go_wp2
        go_round
        case rel => exact ⟨k + 1, _, by omega, by go_num, rfl, hres⟩
        case measure => simp [intOf]; omega
      by_cases c3 : 65 ≤ x ∧ x ≤ 70
      · obtain ⟨a1, a2⟩ := c3
        have hres := fin (x - 55) (by unfold hexv; rw [if_neg (by omega), if_neg (by omega), if_pos ⟨a1, a2⟩]) (by omega)
        have hor : bits .or .i32 (r * 16) (x - 65 + 10) = r * 16 + (x - 55) := by rw [or16 r (x - 65 + 10) r0 r2 (by omega) (by omega)]; omega
        have d1 : decide (x ≤ 57) = false := decide_eq_false (by omega)
        have d2 : decide (97 ≤ x) = false := decide_eq_false (by omega)
        clear fin hstep
        go_wp2
        go_round
        case rel => exact ⟨k + 1, _, by omega, by go_num, rfl, hres⟩
        case measure => simp [intOf]; omega
      · have hno : hexv x = -1 := by unfold hexv; rw [if_neg (by omega), if_neg (by omega), if_neg (by omega)]
        have h4 : hxk l 4 = none := by
          have e : hxk l (k + 1) = none := by rw [hstep, hno]; rfl
          have := hxk_none e (3 - k)
          rw [show k + 1 + (3 - k) = 4 by omega] at this
          exact this
        have hres : Hid (dig l = (0, false)) := by have := HD.out; rw [h4] at this; exact this
        have hb1 : (decide (48 ≤ x) && decide (x ≤ 57)) = false := by simp; omega
        have hb2 : (decide (97 ≤ x) && decide (x ≤ 102)) = false := by simp; omega
        have hb3 : (decide (65 ≤ x) && decide (x ≤ 70)) = false := by simp; omega
        clear fin hstep hno h4
        have hcase : x < 48 ∨ (57 < x ∧ x < 65) ∨ (70 < x ∧ x < 97) ∨ 102 < x := by omega
        rcases hcase with h | ⟨h, h'⟩ | ⟨h, h'⟩ | h
        all_goals
          go_wp2
          go_ret2
          rw [hres.out]
          exact ⟨rfl, rfl⟩
    · have hk' : k = 4 := by omega
      have hres : Hid (dig l = (r, true)) := by have := HD.out; rw [← hk', hr.out] at this; exact this
      clear hr hk'
      go_wp2
      go_ret2
      rw [hres.out]
      exact ⟨rfl, rfl⟩

/-- digits, of whatever bytes. -/
theorem digits_any (v : Value) (l : List Int) (w : World) (hO : Oct l) (hm : l.length ≤ 140737488351232) (hv : Bs w v l) :
    Calls Tryd.prog 77 #[v] w fun e w' => e = .returned (.tuple #[.int .i32 (dig l).1, .bool (dig l).2]) ∧ w = w' := by
  by_cases hn : l.length < 5
  · have hd : dig l = (0, false) := if_pos hn
    rw [hd]
    rcases hv with ⟨p, c, rfl, rfl⟩ | ⟨b, off, cap, rfl, h0, hc, _, hcell⟩
    · exact digits_short p 0 c w (by omega)
    · exact digits_short _ _ _ w hn
  rcases hv with ⟨p, c, rfl, rfl⟩ | ⟨b, off, cap, rfl, h0, hc, _, hcell⟩
  · simp at hn
  by_cases hx : gl l 0 = 117
  · exact digits_some b off l.length cap l w hO rfl (by omega) hm hc hcell hx
  · have hd : dig l = (0, false) := by unfold dig; rw [if_neg hn, if_pos hx]
    rw [hd]
    exact digits_other b off l.length cap (gl l 0) w (by omega) hm (by simpa using hcell 0 h0) hx

set_option maxRecDepth 100000 in
theorem escapeNumber_one (v : Value) (l : List Int) (w : World) (hO : Oct l) (hm : l.length ≤ 140737488351232) (hv : Bs w v l) (h : Int) (hd : dig l = (h, true)) (hk : h < 55296 ∨ 57343 < h) :
    Calls Tryd.prog 72 #[v] w fun e w' => e = .returned (.tuple #[.int .i32 h, .int .i64 5]) ∧ w = w' := by
  have H := digits_any v l w hO hm hv
  rw [hd] at H
  have HH := Lib.hid H
  clear H hd hv hO hm
  rcases hk with hk | hk
  all_goals
    go_enter Tryd.func72, Tryd.ntmps72
    go_wp2_with (go_at_call 77; refine HH.out.mono ?_; rintro e w' ⟨rfl, rfl⟩)
    go_ret2
    exact ⟨rfl, rfl⟩

set_option maxRecDepth 100000 in
theorem escapeNumber_two (b off n c : Nat) (l : List Int) (w : World) (hO : Oct l) (hl : l.length = n) (hn : 11 ≤ n) (hm : n ≤ 140737488351232) (hv : Bs w (.slice (some ⟨b, off, none⟩) n c) l) (h k : Int)
    (hd : dig l = (h, true)) (h0 : 55296 ≤ h) (h1 : h ≤ 56319) (h5 : gl l 5 = 92) (hd2 : dig (l.drop 6) = (k, true)) (k0 : 56320 ≤ k) (k1 : k ≤ 57343) :
    Calls Tryd.prog 72 #[.slice (some ⟨b, off, none⟩) n c] w fun e w' => e = .returned (.tuple #[.int .i32 (65536 + (h - 55296) * 1024 + (k - 56320)), .int .i64 11]) ∧ w = w' := by
  have H := digits_any _ l w hO (by rw [hl]; exact hm) hv
  rw [hd] at H
  have HH := Lib.hid H
  obtain ⟨hnc, hlt, hcell⟩ : n ≤ c ∧ b < w.heap.size ∧ ∀ i, i < n → w.cell? ⟨b, off + i, none⟩ = some (.int .u8 (gl l i)) := by
    rcases hv with ⟨_, _, hv, rfl⟩ | ⟨b', off', cap', hv, _, hc, hlt, hcell⟩
    · simp at hl; omega
    · injection hv with ha hm2 hcap
      injection ha with ha
      injection ha with hb ho
      subst hb ho hcap
      rw [hl] at hc hcell
      exact ⟨hc, hlt, hcell⟩
  have hc5 := hcell 5 (by omega)
  rw [h5] at hc5
  have hdr : Bs w (.slice (some ⟨b, off + 6, none⟩) (n - 6) (c - 6)) (l.drop 6) := by
    have := Bs.drop (w := w) (b := b) (off := off) (cap := c) (k := 6) (l := l) (by omega) (by omega) hlt (fun i hi => hcell i (by omega))
    rw [hl] at this
    exact this
  have H2 := digits_any _ (l.drop 6) w (hO.drop 6) (by simp; omega) hdr
  rw [hd2] at H2
  have HH2 := Lib.hid H2
  have d1 : decide (56320 ≤ h) = false := decide_eq_false (by omega)
  have d2 : decide (h < 55296) = false := decide_eq_false (by omega)
  have d3 : decide (57343 < h) = false := decide_eq_false (by omega)
  have d4 : decide (k < 56320) = false := decide_eq_false (by omega)
  have d5 : decide (57343 < k) = false := decide_eq_false (by omega)
  have n6 : 6 < c := by omega
  clear H H2 hd hd2 hv hO h5 hl hdr hcell
  go_enter Tryd.func72, Tryd.ntmps72
  go_wp2_with fail
  refine HH.out.mono ?_
  rintro e w' ⟨rfl, rfl⟩
  go_wp2_with fail
  refine HH2.out.mono ?_
  rintro e w' ⟨rfl, rfl⟩
  go_wp2
  go_ret2
  exact ⟨rfl, rfl⟩

set_option maxRecDepth 100000 in
theorem Escape_u (b off n c : Nat) (r m : Int) (w : World) (hn : 0 < n) (hm : n ≤ 140737488351232) (hc0 : w.cell? ⟨b, off, none⟩ = some (.int .u8 117))
    (H : Calls Tryd.prog 72 #[.slice (some ⟨b, off, none⟩) n c] w fun e w' => e = .returned (.tuple #[.int .i32 r, .int .i64 m]) ∧ w = w') :
    Calls Tryd.prog 60 #[.slice (some ⟨b, off, none⟩) n c] w fun e w' => e = .returned (.tuple #[.int .i32 r, .int .i64 m]) ∧ w = w' := by
  have HH := Lib.hid H
  have b0 : ((n : Int) == 0) = false := beq_eq_false_iff_ne.2 (by omega)
  clear H
  go_enter Tryd.func60, Tryd.ntmps60
  go_wp2_with (go_at_call 72; refine HH.out.mono ?_; rintro e w' ⟨rfl, rfl⟩)
  go_ret2
  exact ⟨rfl, rfl⟩
end Go.Proofs.YtkifndecpbphbaaDoor.utf
