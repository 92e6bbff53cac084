/- One law for append of bytes, whatever the source; a byte's slice; strings of bytes. -/
import Derived.Test.YtbajejhhmacflaaDoorUtfR
import Derived.Laws.BytesString
import Derived.Lib.QuietBelow
import Derived.Deep.RegionLaw
import Derived.Laws.AppendOwnNone
namespace Go.Proofs.YtbajejhhmacflaaDoor.utf
open Go.PlainAid Go.ChangeShapes Go.WideShapes Go.ChangeAt Go.RowKit

theorem grownBy_refl (w : World) (row : Option Nat) : w.grownBy w row := ⟨rfl, rfl, rfl, Nat.le_refl _, fun _ _ _ => rfl⟩

/-- append(s, x...): s a row of the call's own, x any slice of bytes. -/
theorem wpList_append_bs {w : World} {ops : Array Oper} {rest : List Oper} {o : Oper} {a : Act} {Q : Exit → Act → World → Prop} (hgd : o.guard = none) (s x : Operand)
    (ho : o.op = .call { callee := .builtin .append, args := #[s, x], argTypes := #[22, 22] })
    (base : Nat) (g0 n cap0 : Nat) (xs : List Int) (hs : a.eval s = .slice (some ⟨g0, 0, none⟩) n cap0) (hown : w.ownsRow base 5 1 (.slice (some ⟨g0, 0, none⟩) n cap0) n (bcells xs))
    (p : Option Addr) (m c : Nat) (l : List Int) (hx : a.eval x = .slice p m c) (hp : p = none → m = 0 ∧ c = 0) (hB : Bs w (.slice p m c) l)
    (hlen : n + m ≤ 140737488355328) (hbase : base ≤ w.heap.size)
    (h : ∀ g cap w', w'.ownsRow base 5 1 (.slice (some ⟨g, 0, none⟩) (n + m) cap) (n + m) (bcells (xs ++ l)) → Below base w w' →
      wpList Tryd.prog ops Q rest (a.put o.dst (.slice (some ⟨g, 0, none⟩) (n + m) cap)) w') : wpList Tryd.prog ops Q (o :: rest) a w := by
  obtain ⟨i0, hi, hz0, hz1, hz2⟩ := info_byte
  cases p with
  | none =>
    obtain ⟨rfl, rfl⟩ := hp rfl
    have hl : l = [] := by
      rcases hB with ⟨_, _, _, h⟩ | ⟨_, _, _, hv, _⟩
      · exact h
      · cases hv
    subst hl
    refine wpList_append_own_none hgd s x _ ho base 5 i0 1 Tryd.underlying22 hi _ n (bcells xs) hs hown hx ?_
    exact h g0 cap0 w (by rw [List.append_nil]; exact hown) (Below.refl _ _)
  | some ad =>
    obtain ⟨hm, hn⟩ := Bs_news hB
    refine wpList_append_own w hgd s x _ ho base 5 i0 (.int .u8 0) 1 1 Tryd.underlying22 hi hz0 hz1 hz2 rfl (by decide) _ n (bcells xs) hs hown ad m c (bcells l) hx
      (by rw [bcells_length, hm, Nat.mul_one]) hn (bcells_one l) (by unfold maxLen; omega) (by omega) hbase ?_
    intro v' w' h1 h2 h3
    have hb : Below base w w' := (Below.refl _ _).grown h2 hbase (fun k hk => (hown.lt k hk).1)
    rw [← bcells_append] at h1
    obtain ⟨g, cap, rfl⟩ : ∃ g cap, v' = .slice (some ⟨g, 0, none⟩) (n + m) cap := by
      rcases h1.2 with ⟨hv, _⟩ | ⟨g, cap, cur, hv, _⟩
      · exact absurd (h3.1 hv).1 (by simp)
      · exact ⟨g, cap, hv⟩
    exact h g cap w' h1 hb

/-- .. with the length apart. -/
theorem Bs_own' {w : World} {B n : Nat} {v : Value} {l : List Int} (h : w.ownsRow B 5 1 v n (bcells l)) : Bs w v l := by
  have : n = l.length := by have := h.1; rw [bcells_length] at this; omega
  subst this
  exact Bs_own h

/-- append(nil, x...), x not empty. -/
theorem wpList_append_nil_bs {w : World} {ops : Array Oper} {rest : List Oper} {o : Oper} {a : Act} {Q : Exit → Act → World → Prop} (hgd : o.guard = none) (s x : Operand)
    (ho : o.op = .call { callee := .builtin .append, args := #[s, x], argTypes := #[22, 22] })
    (base : Nat) (hs : a.eval s = .slice none 0 0) (ad : Addr) (m c : Nat) (l : List Int) (hx : a.eval x = .slice (some ad) m c) (hB : Bs w (.slice (some ad) m c) l) (h0 : 0 < m)
    (hlen : m ≤ 140737488355328) (hbase : base ≤ w.heap.size)
    (h : ∀ g cap w', w'.ownsRow base 5 1 (.slice (some ⟨g, 0, none⟩) m cap) m (bcells l) → Below base w w' →
      wpList Tryd.prog ops Q rest (a.put o.dst (.slice (some ⟨g, 0, none⟩) m cap)) w') : wpList Tryd.prog ops Q (o :: rest) a w := by
  obtain ⟨i0, hi, hz0, hz1, hz2⟩ := info_byte
  obtain ⟨hm, hn⟩ := Bs_news hB
  have hown := World.ownsRow_nil w base 5 1
  refine wpList_append_own w hgd s x _ ho base 5 i0 (.int .u8 0) 1 1 Tryd.underlying22 hi hz0 hz1 hz2 rfl (by decide) _ 0 [] hs hown ad m c (bcells l) hx
    (by rw [bcells_length, hm, Nat.mul_one]) hn (bcells_one l) (by unfold maxLen; omega) (by omega) hbase ?_
  intro v' w' h1 h2 h3
  have hb : Below base w w' := (Below.refl _ _).grown h2 hbase (fun k hk => by cases hk)
  rw [Nat.zero_add, List.nil_append] at h1
  obtain ⟨g, cap, rfl⟩ : ∃ g cap, v' = .slice (some ⟨g, 0, none⟩) m cap := by
    rcases h1.2 with ⟨_, hv⟩ | ⟨g, cap, cur, hv, _⟩
    · omega
    · exact ⟨g, cap, hv⟩
  exact h g cap w' h1 hb

/-- New memory that holds given bytes. -/
theorem Bs_lit (w : World) (l : List Int) (h0 : 0 < l.length) : Bs (w.alloc (.cells (bcells l).toArray 5)) (.slice (some ⟨w.heap.size, 0, none⟩) l.length l.length) l := by
  refine .inr ⟨w.heap.size, 0, _, rfl, h0, Nat.le_refl _, by simp, fun i hi => ?_⟩
  rw [Nat.zero_add, cell_of_row _ w.heap.size i _ _ _ (heap_alloc_new w _)]
  rw [← bcells_at l i hi]
  simp

/-- append(nil, x...) as one step of a region that draws. -/
theorem step_append_nil_bs {w : World} {ops : Array Oper} {o : Oper} {a : Act} {K : Act → World → Prop} {Q : Exit → Act → World → Prop} {E : Prop} (hg : o.guard = none) (s x : Operand)
    (ho : o.op = .call { callee := .builtin .append, args := #[s, x], argTypes := #[22, 22] })
    (base : Nat) (hs : a.eval s = .slice none 0 0) (ad : Addr) (m c : Nat) (l : List Int) (hx : a.eval x = .slice (some ad) m c) (hB : Bs w (.slice (some ad) m c) l) (h0 : 0 < m)
    (hlen : m ≤ 140737488355328) (hbase : base ≤ w.heap.size)
    (h : ∀ g cap w', w'.ownsRow base 5 1 (.slice (some ⟨g, 0, none⟩) m cap) m (bcells l) → Below base w w' → K (a.put o.dst (.slice (some ⟨g, 0, none⟩) m cap)) w') :
    if Region.wanted o (yielded ops a.tmps) = true then Oper.wp Tryd.prog o a w K Q else E := by
  have hw : Region.wanted o (yielded ops a.tmps) = true := by simp [Region.wanted, hg]
  rw [if_pos hw]
  obtain ⟨i0, hi, hz0, hz1, hz2⟩ := info_byte
  obtain ⟨hm, hn⟩ := Bs_news hB
  have hown := World.ownsRow_nil w base 5 1
  refine wp_append_own w s x _ ho base 5 i0 (.int .u8 0) 1 1 Tryd.underlying22 hi hz0 hz1 hz2 rfl (by decide) _ 0 [] hs hown ad m c (bcells l) hx
    (by rw [bcells_length, hm, Nat.mul_one]) hn (bcells_one l) (by unfold maxLen; omega) (by omega) hbase ?_
  intro v' w' h1 h2 h3
  have hb : Below base w w' := (Below.refl _ _).grown h2 hbase (fun k hk => by cases hk)
  rw [Nat.zero_add, List.nil_append] at h1
  obtain ⟨g, cap, rfl⟩ : ∃ g cap, v' = .slice (some ⟨g, 0, none⟩) m cap := by
    rcases h1.2 with ⟨_, hv⟩ | ⟨g, cap, cur, hv, _⟩
    · omega
    · exact ⟨g, cap, hv⟩
  exact h g cap w' h1 hb
theorem step_append_bs {w : World} {ops : Array Oper} {o : Oper} {a : Act} {K : Act → World → Prop} {Q : Exit → Act → World → Prop} {E : Prop} (hg : o.guard = none) (s x : Operand)
    (ho : o.op = .call { callee := .builtin .append, args := #[s, x], argTypes := #[22, 22] })
    (base : Nat) (g0 n cap0 : Nat) (xs : List Int) (hs : a.eval s = .slice (some ⟨g0, 0, none⟩) n cap0) (hown : w.ownsRow base 5 1 (.slice (some ⟨g0, 0, none⟩) n cap0) n (bcells xs))
    (ad : Addr) (m c : Nat) (l : List Int) (hx : a.eval x = .slice (some ad) m c) (hB : Bs w (.slice (some ad) m c) l)
    (hlen : n + m ≤ 140737488355328) (hbase : base ≤ w.heap.size)
    (h : ∀ g cap w', w'.ownsRow base 5 1 (.slice (some ⟨g, 0, none⟩) (n + m) cap) (n + m) (bcells (xs ++ l)) → Below base w w' → K (a.put o.dst (.slice (some ⟨g, 0, none⟩) (n + m) cap)) w') :
    if Region.wanted o (yielded ops a.tmps) = true then Oper.wp Tryd.prog o a w K Q else E := by
  have hw : Region.wanted o (yielded ops a.tmps) = true := by simp [Region.wanted, hg]
  rw [if_pos hw]
  obtain ⟨i0, hi, hz0, hz1, hz2⟩ := info_byte
  obtain ⟨hm, hn⟩ := Bs_news hB
  refine wp_append_own w s x _ ho base 5 i0 (.int .u8 0) 1 1 Tryd.underlying22 hi hz0 hz1 hz2 rfl (by decide) _ n (bcells xs) hs hown ad m c (bcells l) hx
    (by rw [bcells_length, hm, Nat.mul_one]) hn (bcells_one l) (by unfold maxLen; omega) (by omega) hbase ?_
  intro v' w' h1 h2 h3
  have hb : Below base w w' := (Below.refl _ _).grown h2 hbase (fun k hk => (hown.lt k hk).1)
  rw [← bcells_append] at h1
  obtain ⟨g, cap, rfl⟩ : ∃ g cap, v' = .slice (some ⟨g, 0, none⟩) (n + m) cap := by
    rcases h1.2 with ⟨hv, _⟩ | ⟨g, cap, cur, hv, _⟩
    · exact absurd (h3.1 hv).1 (by simp)
    · exact ⟨g, cap, hv⟩
  exact h g cap w' h1 hb

theorem Bs_one (w : World) (x : Int) : Bs (w.alloc (.cells #[.int .u8 x] 5)) (.slice (some ⟨w.heap.size, 0, none⟩) 1 1) [x] := by
  refine .inr ⟨w.heap.size, 0, 1, rfl, by simp, by simp, by simp, fun i hi => ?_⟩
  match i, hi with
  | 0, _ => simp [gl]

/-- Bytes as a string. -/
def strOf (l : List Int) : ByteArray := l.foldl (fun r n => r.push (UInt8.ofNat n.toNat)) ByteArray.empty
theorem fold_push : ∀ (l : List Int) (s : ByteArray), (l.foldl (fun r n => r.push (UInt8.ofNat n.toNat)) s).data.toList = s.data.toList ++ l.map fun n => UInt8.ofNat n.toNat
  | [], s => by simp
  | x :: l, s => by
    rw [List.foldl_cons, fold_push l]
    simp [ByteArray.push]
theorem strOf_data (l : List Int) : (strOf l).data.toList = l.map fun n => UInt8.ofNat n.toNat := by
  unfold strOf
  rw [fold_push]
  rfl
theorem strOf_size (l : List Int) : (strOf l).size = l.length := by
  have := congrArg List.length (strOf_data l)
  simpa using this
theorem ints_strOf {l : List Int} (h : Oct l) : ints (strOf l) = l := by
  unfold ints
  rw [strOf_data, List.map_map]
  conv => rhs; rw [← List.map_id l]
  apply List.map_congr_left
  intro x hx
  have := h x hx
  simp only [Function.comp, id]
  show ((x.toNat % 256 : Nat) : Int) = x
  omega
theorem conv_bytes {W : World} {v : Value} {l : List Int} (h : Bs W v l) : (convert 22 9 v).run Tryd.prog W = .ok (.string (strOf l)) W := by
  rcases h with ⟨p, c, rfl, rfl⟩ | ⟨b, off, cap, rfl, h0, hc, hlt, h⟩
  · rw [run_convert_bytes_string W 22 9 5 p 0 c Tryd.underlying22 Tryd.underlying5 Tryd.underlying9]
    cases p with
    | none => simp [Conv.bytesToString, strOf]
    | some a => exact run_bytesToString W a 0 c [] (by simp [loadCells, loadCellsFrom])
  · rw [run_convert_bytes_string W 22 9 5 _ _ _ Tryd.underlying22 Tryd.underlying5 Tryd.underlying9]
    refine run_bytesToString W _ _ _ l ?_
    have := run_loadCells_list (P := Tryd.prog) W ⟨b, off, none⟩ (bcells l) (fun j u hj => by
      have e : (⟨b, off, none⟩ : Addr).add j = ⟨b, off + j, none⟩ := by unfold Addr.add; split <;> simp_all
      have hjl : j < l.length := by
        obtain ⟨k, _⟩ := List.getElem?_eq_some_iff.1 hj
        rwa [bcells_length] at k
      rw [bcells_at l j hjl] at hj
      cases hj
      rw [e]
      exact h j hjl)
    rw [bcells_length] at this
    exact this
theorem follows_mixed : Tryd.prog.follows .mixedOrders = true := by kernel_rfl
end Go.Proofs.YtbajejhhmacflaaDoor.utf
