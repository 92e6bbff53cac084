/- After; comparison of bytes. -/
import Derived.Test.YtebhbcbcnjdgjaaDoorA
import Derived.Lib.SliceRun
namespace Go.Proofs.YtebhbcbcnjdgjaaDoor.dk
open Go.PlainAid Go.ChangeShapes Go.WideShapes Go.ChangeAt Go.RowKit

/-- How many bytes are left where those at the end that are 255 are struck. -/
def stripN (b : List Int) : Nat → Nat
  | 0 => 0
  | k + 1 => if b.getD k 0 = 255 then stripN b k else k + 1
theorem stripN_le (b : List Int) : ∀ k, stripN b k ≤ k
  | 0 => Nat.le_refl _
  | k + 1 => by
    rw [stripN]
    split
    · exact Nat.le_succ_of_le (stripN_le b k)
    · exact Nat.le_refl _
theorem stripN_last (b : List Int) : ∀ k, 0 < stripN b k → b.getD (stripN b k - 1) 0 ≠ 255
  | 0, h => absurd h (by simp [stripN])
  | k + 1, h => by
    rw [stripN] at h ⊢
    split
    · rename_i h1
      rw [if_pos h1] at h
      exact stripN_last b k h
    · assumption
theorem stripN_zero (b : List Int) : ∀ k, stripN b k = 0 → ∀ i, i < k → b.getD i 0 = 255
  | 0, _, i, hi => absurd hi (by omega)
  | k + 1, h, i, hi => by
    rw [stripN] at h
    split at h
    · rename_i h1
      by_cases hik : i = k
      · subst hik; exact h1
      · exact stripN_zero b k h i (by omega)
    · omega
/-- The least bytes above all that begin by these. -/
def aft (b : List Int) : List Int := if stripN b b.length = 0 then [] else (b.take (stripN b b.length)).set (stripN b b.length - 1) (b.getD (stripN b b.length - 1) 0 + 1)
theorem aft_some (b : List Int) (h : stripN b b.length ≠ 0) : (aft b).length = stripN b b.length ∧ (∀ i, i < stripN b b.length - 1 → (aft b).getD i 0 = b.getD i 0) ∧ (aft b).getD (stripN b b.length - 1) 0 = b.getD (stripN b b.length - 1) 0 + 1 := by
  have hle := stripN_le b b.length
  unfold aft
  rw [if_neg h]
  refine ⟨by rw [List.length_set, List.length_take]; omega, fun i hi => ?_, ?_⟩
  · rw [List.getD_eq_getElem?_getD, List.getElem?_set_ne (by omega), List.getElem?_take, if_pos (by omega), List.getD_eq_getElem?_getD]
  · rw [List.getD_eq_getElem?_getD, List.getElem?_set_self (by rw [List.length_take]; omega)]
    rfl

def OwnPost (w : World) (l : List Int) (e : Ending) (w' : World) : Prop := ∃ p cc, e = .returned (.slice p l.length cc) ∧ w'.ownsRow w.heap.size 5 1 (.slice p l.length cc) l.length (bcells l) ∧ Below w.heap.size w w'
set_option maxRecDepth 100000 in
theorem Clone_any (w : World) (gb off n c : Nat) (l : List Int) (hR : Rd w (some ⟨gb, off, none⟩) n l) (hn : n ≤ 100000) :
    Calls Tryd.prog 29 #[.slice (some ⟨gb, off, none⟩) n c] w (OwnPost w l) := by
  have hrow : RowB w.heap.size [] (w.alloc (.cells #[] 5)) := heap_alloc_new _ _
  have hbV : Below w.heap.size w (w.alloc (.cells #[] 5)) := (Below.refl _ _).alloc (Nat.le_refl _) _
  have hown := row_owned (k := 0) hrow rfl (Nat.le_refl _) (by omega)
  obtain ⟨po, co, w3, hr3, ho3, hb3, _⟩ := append_bytes (c := c) hown (hR.below hbV) (by simp) (by omega) hbV.size
  have hl := hR.1
  rw [List.nil_append] at hr3 ho3
  have hFin : Hid (OwnPost w l (.returned (.slice po l.length co)) w3) := ⟨po, co, rfl, ho3, hbV.trans hb3⟩
  have hq : ∀ W, (binOp .eql 23 (.slice (some ⟨gb, off, none⟩) n c) (.slice none 0 0)).run Tryd.prog W = .ok (.bool false) W := fun W => Lib.run_eql_slice_nil W 23 5 _ n c 0 0 Tryd.underlying23
  have HR3 := Lib.hid hr3
  clear hrow hbV hown hr3 ho3 hb3 hR
  go_enter Tryd.func29, Tryd.ntmps29
  go_wp2_with (at_builtin; refine wpList_append_run rfl _ _ _ rfl _ _ _ _ rfl rfl HR3.out ?_)
  go_ret
  have hf := hFin.out
  rw [hl] at hf
  exact hf
theorem own_set {w : World} {B : Nat} {t : TypeId} {g n c : Nat} {xs : List Value} (h : w.ownsRow B t 1 (.slice (some ⟨g, 0, none⟩) n c) n xs) (i : Nat) (v : Value) :
    (w.setCell ⟨g, i, none⟩ v).ownsRow B t 1 (.slice (some ⟨g, 0, none⟩) n c) n (xs.set i v) ∧ B ≤ g ∧ (∀ k, k ≠ g → (w.setCell ⟨g, i, none⟩ v).heap[k]? = w.heap[k]?) ∧ Below B w (w.setCell ⟨g, i, none⟩ v) := by
  rcases h.2 with ⟨hv, _⟩ | ⟨g', cap, cur, hv, hg, hh, hn, hcm, hcs, ht⟩
  · cases hv
  · injection hv with h1 h2 h3
    have hgg : g' = g := by injection h1 with h1; injection h1 with h1 _ _; exact h1.symm
    subst hgg
    subst h3
    rw [setCell_eq_setRow w g' i _ _ _ v hh]
    refine ⟨⟨by rw [List.length_set]; exact h.1, .inr ⟨g', c, _, rfl, hg, setRow_heap w g' _ _ _ _ hh, hn, hcm, by rw [Array.size_setIfInBounds]; exact hcs, ?_⟩⟩, hg, fun k hk => setRow_other w g' k _ hk, below_setRow (Below.refl _ _) hg _⟩
    rw [Array.toList_setIfInBounds, List.take_set, ht]
def sgn (x y : Int) : Int := if x < y then -1 else if y < x then 1 else 0
set_option maxRecDepth 100000 in
theorem compare_any (w : World) (x y : Int) : Calls Tryd.prog 42 #[.int .i64 x, .int .i64 y] w fun e w' => e = .returned (.int .i64 (sgn x y)) ∧ w = w' := by
  by_cases h1 : x < y
  · have d : decide (x < y) = true := decide_eq_true h1
    have e : Hid (sgn x y = -1) := by show sgn x y = -1; unfold sgn; rw [if_pos h1]
    go_enter Tryd.func42, Tryd.ntmps42
    go_wp2_with fail
    go_ret
    exact ⟨by rw [e.out]; rfl, rfl⟩
  · have d : decide (x < y) = false := decide_eq_false h1
    by_cases h2 : y < x
    · have d2 : decide (y < x) = true := decide_eq_true h2
      have e : Hid (sgn x y = 1) := by show sgn x y = 1; unfold sgn; rw [if_neg h1, if_pos h2]
      go_enter Tryd.func42, Tryd.ntmps42
      go_wp2_with fail
      go_ret
      exact ⟨by rw [e.out]; rfl, rfl⟩
    · have d2 : decide (y < x) = false := decide_eq_false h2
      have e : Hid (sgn x y = 0) := by show sgn x y = 0; unfold sgn; rw [if_neg h1, if_neg h2]
      go_enter Tryd.func42, Tryd.ntmps42
      go_wp2_with fail
      go_ret
      exact ⟨by rw [e.out]; rfl, rfl⟩
set_option maxHeartbeats 4000000 in
set_option maxRecDepth 100000 in
theorem After_none (w : World) (p : Option Addr) (n c : Nat) (l : List Int) (hR : Rd w p n l) (hn : n ≤ 100000) (h0 : stripN l n = 0) :
    Calls Tryd.prog 19 #[.slice p n c] w fun e w' => e = .returned (.slice none 0 0) ∧ w = w' := by
  have HR := Lib.hid hR
  have hl := hR.1
  have H0 := Lib.hid h0
  clear hR h0
  go_enter Tryd.func19, Tryd.ntmps19
  go_wp2_with fail
  go_loopw [3] (fun v wr => ∃ j : Nat, v = .int .i64 (j : Int) ∧ j ≤ n ∧ wr = w ∧ stripN l j = 0) (fun v _ => (intOf v).toNat)
  case atStart => exact ⟨n, rfl, Nat.le_refl _, rfl, H0.out⟩
  case round =>
    obtain ⟨j, rfl, hj, rfl, hs⟩ := hrel
    cases j with
    | zero =>
      go_wp2_with fail
      go_ret
      exact ⟨rfl, rfl⟩
    | succ j =>
      have h255 : l.getD j 0 = 255 := by
        rw [stripN] at hs
        split at hs
        · assumption
        · omega
      have hs2 : stripN l j = 0 := by rw [stripN, if_pos h255] at hs; exact hs
      obtain ⟨gb, off, rfl, _⟩ := HR.out.form (by omega)
      have c0 := HR.out.cell j (by omega)
      rw [h255] at c0
      have d0 : decide (0 < j + 1) = true := decide_eq_true (by omega)
      have wj : IntKind.i64.wrap ((j : Int) + 1 - 1) = (j : Int) := by rw [IntKind.wrap_i64]; omega
      have hcast : ((j + 1 : Nat) : Int) = (j : Int) + 1 := by omega
      rw [hcast]
      have dj : decide ((0 : Int) < (j : Int) + 1) = true := decide_eq_true (by omega)
      have HS2 := Lib.hid hs2
      clear hs hs2 h255
      go_wp2_with fail
      exact ⟨⟨j, rfl, by omega, trivial, HS2.out⟩, by show (j : Int).toNat < ((j : Int) + 1).toNat; omega⟩
theorem aft_set (l : List Int) (j : Nat) (hj : stripN l l.length = j + 1) : (l.take (j + 1)).set j (l.getD j 0 + 1) = aft l := by
  unfold aft
  rw [hj, if_neg (by omega)]
  rfl
theorem bcells_set (l : List Int) (j : Nat) (x : Int) : (bcells l).set j (.int .u8 x) = bcells (l.set j x) := by
  unfold bcells
  rw [List.map_set]
set_option maxHeartbeats 4000000 in
set_option maxRecDepth 100000 in
theorem After_some (w : World) (gb off n c : Nat) (l : List Int) (hR : Rd w (some ⟨gb, off, none⟩) n l) (hby : Bys l) (hnc : n ≤ c) (hn : n ≤ 100000) (h0 : stripN l n ≠ 0) :
    Calls Tryd.prog 19 #[.slice (some ⟨gb, off, none⟩) n c] w (OwnPost w (aft l)) := by
  have HR := Lib.hid hR
  have hl := hR.1
  have H0 := Lib.hid h0
  have HBy := Lib.hid hby
  clear hR h0 hby
  go_enter Tryd.func19, Tryd.ntmps19
  go_wp2_with fail
  go_loopw [3] (fun v wr => ∃ j : Nat, v = .int .i64 (j : Int) ∧ j ≤ n ∧ wr = w ∧ stripN l j = stripN l n) (fun v _ => (intOf v).toNat)
  case atStart => exact ⟨n, rfl, Nat.le_refl _, rfl, rfl⟩
  case round =>
    obtain ⟨j, rfl, hj, rfl, hs⟩ := hrel
    cases j with
    | zero => exact absurd hs.symm H0.out
    | succ j =>
      have c0 := HR.out.cell j (by omega)
      have d0 : decide (0 < j + 1) = true := decide_eq_true (by omega)
      have wj : IntKind.i64.wrap ((j : Int) + 1 - 1) = (j : Int) := by rw [IntKind.wrap_i64]; omega
      have hcast : ((j + 1 : Nat) : Int) = (j : Int) + 1 := by omega
      rw [hcast]
      have dj : decide ((0 : Int) < (j : Int) + 1) = true := decide_eq_true (by omega)
      by_cases h255 : l.getD j 0 = 255
      · have hs2 : stripN l j = stripN l n := by rw [stripN, if_pos h255] at hs; exact hs
        rw [h255] at c0
        have HS2 := Lib.hid hs2
        clear hs hs2 h255
        go_wp2_with fail
        exact ⟨⟨j, rfl, by omega, trivial, HS2.out⟩, by show (j : Int).toNat < ((j : Int) + 1).toNat; omega⟩
      · have hs2 : stripN l n = j + 1 := by rw [stripN, if_neg h255] at hs; exact hs.symm
        have hx : 0 ≤ l.getD j 0 ∧ l.getD j 0 ≤ 255 := by
          rw [List.getD_eq_getElem?_getD, List.getElem?_eq_getElem (by omega)]
          exact HBy.out _ (List.getElem_mem _)
        have hset := aft_set l j (by rw [hl]; exact hs2)
        have hcl := Clone_any wr gb off (j + 1) c (l.take (j + 1)) (by have := HR.out.cut 0 (j + 1) (by omega); simpa using this) (by omega)
        have hlt : (l.take (j + 1)).length = j + 1 := by rw [List.length_take]; omega
        have hg : (l.take (j + 1)).getD j 0 = l.getD j 0 := by rw [List.getD_eq_getElem?_getD, List.getElem?_take, if_pos (by omega), List.getD_eq_getElem?_getD]
        have HC := Lib.hid hcl
        have de : (l.getD j 0 == 255) = false := beq_eq_false_iff_ne.2 h255
        have wu : IntKind.u8.wrap (l.getD j 0 + 1) = l.getD j 0 + 1 := by rw [IntKind.wrap_u8]; omega
        have HSet := Lib.hid hset
        have HG := Lib.hid hg
        have HLt := Lib.hid hlt
        have HS2 := Lib.hid hs2
        have dz : ((j : Int) + 1 == 0) = false := beq_eq_false_iff_ne.2 (by omega)
        have hjc : (j : Int) + 1 ≤ (c : Int) := by omega
        clear hset hcl hg hlt hs hs2 h255
        generalize l.getD j 0 = x at c0 hx de wu HSet HG
        go_wp2_with fail
        with_reducible refine HC.out.mono ?_
        clear HC c0
        rintro e w2 ⟨p, cc, rfl, ho, hb⟩
        rw [HLt.out] at ho ⊢
        have hg0 : ∃ g, p = some ⟨g, 0, none⟩ := by
          rcases ho.2 with ⟨_, h⟩ | ⟨g, cap, cur, hv, _⟩
          · omega
          · injection hv with h1
            exact ⟨g, h1⟩
        obtain ⟨g, rfl⟩ := hg0
        have hrd := owned_rd ho
        have c1 := hrd.cell j (by omega)
        rw [HG.out, Nat.zero_add] at c1
        have f1 : w2.frozen? ⟨g, j, none⟩ = false := by
          obtain ⟨cur, hc⟩ := owned_type ho (g := g) rfl
          exact frozen_of_row _ _ _ _ _ hc
        obtain ⟨s1, s2, s3, s4⟩ := own_set ho j (.int .u8 (x + 1))
        rw [bcells_set, HSet.out] at s1
        have hal : (aft l).length = j + 1 := by rw [← HSet.out, List.length_set]; exact HLt.out
        have hFin : Hid (OwnPost wr (aft l) (.returned (.slice (some ⟨g, 0, none⟩) (j + 1) cc)) (w2.setCell ⟨g, j, none⟩ (.int .u8 (x + 1)))) := ⟨_, cc, by rw [hal], by rw [hal]; exact s1, hb.trans s4⟩
        clear ho hb hrd s1 s2 s3 s4 hal HSet
        go_wp2_with fail
        go_ret
        exact hFin.out
end Go.Proofs.YtebhbcbcnjdgjaaDoor.dk
