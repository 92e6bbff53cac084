/- The document's answer: Put. -/
import Derived.Test.YtbajejhhmacflaaDoorUtfRB
namespace Go.Proofs.YtbajejhhmacflaaDoor.utf
open Go.PlainAid Go.ChangeShapes Go.WideShapes Go.ChangeAt Go.RowKit
theorem Rbytes_bad (v : Int) (hv : v = 65533) (w : World) : Calls Tryd.prog 29 #[.int .i64 65533] w fun e w' => e = .returned (.slice (some ⟨w.heap.size, 0, none⟩) (enc v).length (enc v).length) ∧ w.alloc (.cells (encCells v) 5) = w' := by
  subst hv
  exact Rbytes_any 65533 w (by decide) (by decide)

set_option maxHeartbeats 2000000 in
theorem RPut_good (p : Option Addr) (n c : Nat) (l : List Int) (r : Int) (w : World) (hp : p = none → n = 0 ∧ c = 0) (hB : Bs w (.slice p n c) l) (hn : n ≤ 140737488351232) (hg : okRune r = true) (h0 : 0 ≤ r) (h1 : r ≤ 1114111) :
    Calls Tryd.prog 23 #[.slice p n c, .int .i32 r] w fun e w' => ∃ g cap, e = .returned (.slice (some ⟨g, 0, none⟩) (n + (enc r).length) cap) ∧ Below w.heap.size w w' ∧ Bs w' (.slice (some ⟨g, 0, none⟩) (n + (enc r).length) cap) (l ++ enc r) := by
  have HV := Lib.hid (Rvalid r w)
  rw [hg] at HV
  have ho := own_empty w w.heap.size (Nat.le_refl _)
  have hb0 : Below w.heap.size w (w.alloc (.cells #[] 5)) := (Below.refl _ _).alloc (Nat.le_refl _) _
  have s0 := hB.below hb0
  have HPn := Lib.hid hp
  have hk : (enc r).length ≤ 4 := (enc_len r).2
  have HB0 := Lib.hid hb0
  clear hp hB hb0

  go_enter Tryd.func23, Tryd.ntmps23
  go_wp2_with (first | (go_at_call 27; with_reducible refine HV.out.mono ?_; rintro e w1 ⟨rfl, rfl⟩) | (at_builtin; refine wpList_append_bs rfl _ _ rfl w.heap.size _ 0 0 [] rfl ho p n c l rfl HPn.out s0 ?_ ?_ ?_))
  · omega
  · simp
  intro g1 cap1 w5 ho1 hb5
  have ho1 : w5.ownsRow w.heap.size 5 1 (.slice (some ⟨g1, 0, none⟩) n cap1) n (bcells l) := by simpa using ho1
  have hB5 := HB0.out.trans hb5
  have z5 := hB5.size
  clear hb5 ho s0
  have ho2 := ho1.alloc (.cells (encCells (r)) 5)
  have HBY : Hid (Calls Tryd.prog 29 #[.int .i64 r] w5 fun e w' => e = .returned (.slice (some ⟨w5.heap.size, 0, none⟩) (enc r).length (enc r).length) ∧ w5.alloc (.cells (encCells r) 5) = w') := by
    exact Lib.hid (Rbytes_any r w5 (by omega) (by omega))
  have hsp := Bs_put w5 (r)
  go_wp2_with (first | (go_at_call 29; refine HBY.out.mono ?_; rintro e w6 ⟨rfl, rfl⟩) | (at_builtin; refine wpList_append_bs rfl _ _ rfl w.heap.size _ n _ l rfl ho2 (some ⟨w5.heap.size, 0, none⟩) _ _ (enc (r)) rfl (fun h => by cases h) hsp ?_ ?_ ?_))
  · omega
  · simp; omega
  intro g3 cap3 w7 ho3 hb7
  have hB7 := (hB5.alloc z5 (.cells (encCells (r)) 5)).trans hb7
  go_wp2
  go_ret
  exact ⟨g3, cap3, rfl, hB7, Bs_own' ho3⟩

set_option maxHeartbeats 2000000 in
theorem RPut_bad (p : Option Addr) (n c : Nat) (l : List Int) (r : Int) (w : World) (hp : p = none → n = 0 ∧ c = 0) (hB : Bs w (.slice p n c) l) (hn : n ≤ 140737488351232) (hg : okRune r = false) (hr0 : -2147483648 ≤ r) (hr1 : r ≤ 2147483647) (v : Int) (hv : v = 65533) :
    Calls Tryd.prog 23 #[.slice p n c, .int .i32 r] w fun e w' => ∃ g cap, e = .returned (.slice (some ⟨g, 0, none⟩) (n + (enc v).length) cap) ∧ Below w.heap.size w w' ∧ Bs w' (.slice (some ⟨g, 0, none⟩) (n + (enc v).length) cap) (l ++ enc v) := by
  have HV := Lib.hid (Rvalid r w)
  rw [hg] at HV
  have ho := own_empty w w.heap.size (Nat.le_refl _)
  have hb0 : Below w.heap.size w (w.alloc (.cells #[] 5)) := (Below.refl _ _).alloc (Nat.le_refl _) _
  have s0 := hB.below hb0
  have HPn := Lib.hid hp
  have hk : (enc v).length ≤ 4 := (enc_len v).2
  have HB0 := Lib.hid hb0
  clear hp hB hb0
  have HVv := Lib.hid hv
  clear hv
  go_enter Tryd.func23, Tryd.ntmps23
  go_wp2_with (first | (go_at_call 27; with_reducible refine HV.out.mono ?_; rintro e w1 ⟨rfl, rfl⟩) | (at_builtin; refine wpList_append_bs rfl _ _ rfl w.heap.size _ 0 0 [] rfl ho p n c l rfl HPn.out s0 ?_ ?_ ?_))
  · omega
  · simp
  intro g1 cap1 w5 ho1 hb5
  have ho1 : w5.ownsRow w.heap.size 5 1 (.slice (some ⟨g1, 0, none⟩) n cap1) n (bcells l) := by simpa using ho1
  have hB5 := HB0.out.trans hb5
  have z5 := hB5.size
  clear hb5 ho s0
  have ho2 := ho1.alloc (.cells (encCells (v)) 5)
  have HBY : Hid (Calls Tryd.prog 29 #[.int .i64 65533] w5 fun e w' => e = .returned (.slice (some ⟨w5.heap.size, 0, none⟩) (enc v).length (enc v).length) ∧ w5.alloc (.cells (encCells v) 5) = w') := by
    exact Lib.hid (Rbytes_bad v HVv.out w5)
  have hsp := Bs_put w5 (v)
  go_wp2_with (first | (go_at_call 29; refine HBY.out.mono ?_; rintro e w6 ⟨rfl, rfl⟩) | (at_builtin; refine wpList_append_bs rfl _ _ rfl w.heap.size _ n _ l rfl ho2 (some ⟨w5.heap.size, 0, none⟩) _ _ (enc (v)) rfl (fun h => by cases h) hsp ?_ ?_ ?_))
  · omega
  · simp; omega
  intro g3 cap3 w7 ho3 hb7
  have hB7 := (hB5.alloc z5 (.cells (encCells (v)) 5)).trans hb7
  go_wp2
  go_ret
  exact ⟨g3, cap3, rfl, hB7, Bs_own' ho3⟩

theorem RPut_any (p : Option Addr) (n c : Nat) (l : List Int) (r : Int) (w : World) (hp : p = none → n = 0 ∧ c = 0) (hB : Bs w (.slice p n c) l) (hn : n ≤ 140737488351232) (hr0 : -2147483648 ≤ r) (hr1 : r ≤ 2147483647) :
    Calls Tryd.prog 23 #[.slice p n c, .int .i32 r] w fun e w' => ∃ g cap, e = .returned (.slice (some ⟨g, 0, none⟩) (n + (enc (fixed r)).length) cap) ∧ Below w.heap.size w w' ∧ Bs w' (.slice (some ⟨g, 0, none⟩) (n + (enc (fixed r)).length) cap) (l ++ enc (fixed r)) := by
  by_cases hg : 0 ≤ r ∧ (r < 55296 ∨ 57343 < r) ∧ r ≤ 1114111
  · rw [show fixed r = r from if_pos hg]
    exact RPut_good p n c l r w hp hB hn (decide_eq_true hg) hg.1 hg.2.2
  · rw [show fixed r = 65533 from if_neg hg]
    exact RPut_bad p n c l r w hp hB hn (decide_eq_false hg) hr0 hr1 65533 rfl
end Go.Proofs.YtbajejhhmacflaaDoor.utf
