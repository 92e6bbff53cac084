/- The document's answer: Next, of one byte. -/
import Derived.Test.YtbajejhhmacflaaDoorUtfRE
import Derived.Test.YtbajejhhmacflaaDoorUtfRC
import Derived.Test.YtbajejhhmacflaaDoorUtfHexE
namespace Go.Proofs.YtbajejhhmacflaaDoor.utf
open Go.PlainAid Go.ChangeShapes Go.WideShapes Go.ChangeAt Go.RowKit

set_option maxHeartbeats 1000000 in
theorem RNext_1a (b off n c : Nat) (l : List Int) (r : Int) (w : World) (hr0 : gl l 0 = r) (hB : Bs w (.slice (some ⟨b, off, none⟩) n c) l) (h0 : 0 < n) (hn : n ≤ 140737488351232) (h1 : 0 ≤ r) (h2 : r < 128) :
    Calls Tryd.prog 13 #[.slice (some ⟨b, off, none⟩) n c] w fun e w' => e = .returned (.tuple #[.int .i32 r, .int .i64 1]) ∧ Below w.heap.size w w' := by
  have hc := hB.first h0
  rw [hr0] at hc
  have hlen : (enc r).length = 1 := by unfold enc; rw [if_pos (show r < 128 by omega)]; rfl
  have hbs := Bs_put w r
  have HBY : Hid (∀ W, Calls Tryd.prog 29 #[.int .i64 r] W fun e w' => e = .returned (.slice (some ⟨W.heap.size, 0, none⟩) 1 1) ∧ W.alloc (.cells (encCells r) 5) = w') := fun W => by
    have := Rbytes_any r W (by omega) (by omega)
    rw [hlen] at this
    exact this
  have hb1 : Below w.heap.size w (w.alloc (.cells (encCells r) 5)) := (Below.refl _ _).alloc (Nat.le_refl _) _
  have HBG := Rbegins_any b off n c w.heap.size 0 _ _ l (enc r) _ (hB.below hb1) hbs h0 (by rw [hlen]; omega) hn
  rw [hlen] at HBG
  have hq : decide (l.take 1 = enc r) = true := by
    cases l with
    | nil => exact absurd (Bs_news hB).1 (by simp; omega)
    | cons a t => exact decide_eq_true (by unfold enc; rw [if_pos (show r < 128 by omega)]; have : a = r := hr0; simp [this])
  rw [hq] at HBG
  have HG := Lib.hid HBG
  have HV := Lib.hid (Rvalid r w)
  rw [show okRune r = true from decide_eq_true (by omega)] at HV
  have HB1 := Lib.hid hb1
  have n0 : ((n : Int) == 0) = false := beq_eq_false_iff_ne.2 (by omega)
  have n1 : decide ((n : Int) < 1) = false := decide_eq_false (by omega)
  have hw : IntKind.i32.wrap r = r := IntWalk.i32_in _ (by omega)
  clear hB hbs HBG hb1 hr0 hq hlen
  go_enter Tryd.func13, Tryd.ntmps13
  go_wp2
  refine wp_loop_rounds 1 ?_
  rw [rounds_succ]
  go_wp2_with (first
    | (go_at_call 27; with_reducible refine HV.out.mono ?_; rintro e w1 ⟨rfl, rfl⟩)
    | (go_at_call 29; with_reducible refine (HBY.out _).mono ?_; rintro e w2 ⟨rfl, rfl⟩)
    | (go_at_call 28; with_reducible refine HG.out.mono ?_; rintro e w3 ⟨rfl, hb3⟩))
  go_ret2
  refine ⟨rfl, ?_⟩
  have q := HB1.out.trans (hb3.mono HB1.out.size)
  exact q.alloc q.size _

set_option maxHeartbeats 1000000 in
theorem RNext_1b (b off n c : Nat) (l : List Int) (r : Int) (w : World) (hr0 : gl l 0 = r) (hB : Bs w (.slice (some ⟨b, off, none⟩) n c) l) (h0 : 0 < n) (hn : n ≤ 140737488351232) (h1 : 128 ≤ r) (h2 : r < 192) :
    Calls Tryd.prog 13 #[.slice (some ⟨b, off, none⟩) n c] w fun e w' => e = .returned (.tuple #[.int .i32 0, .int .i64 0]) ∧ Below w.heap.size w w' := by
  have hc := hB.first h0
  rw [hr0] at hc
  have hlen : (enc r).length = 2 := by unfold enc; rw [if_neg (show ¬ r < 128 by omega), if_pos (show r < 2048 by omega)]; rfl
  have hbs := Bs_put w r
  have HBY : Hid (∀ W, Calls Tryd.prog 29 #[.int .i64 r] W fun e w' => e = .returned (.slice (some ⟨W.heap.size, 0, none⟩) 2 2) ∧ W.alloc (.cells (encCells r) 5) = w') := fun W => by
    have := Rbytes_any r W (by omega) (by omega)
    rw [hlen] at this
    exact this
  have hb1 : Below w.heap.size w (w.alloc (.cells (encCells r) 5)) := (Below.refl _ _).alloc (Nat.le_refl _) _
  have HBG := Rbegins_any b off n c w.heap.size 0 _ _ l (enc r) _ (hB.below hb1) hbs h0 (by rw [hlen]; omega) hn
  rw [hlen] at HBG
  have hq : decide (l.take 2 = enc r) = false := by
    refine decide_eq_false (fun e => ?_)
    have k : gl (l.take 2) 0 = gl l 0 := by cases l <;> rfl
    rw [e, hr0] at k
    unfold enc at k
    rw [if_neg (show ¬ r < 128 by omega), if_pos (show r < 2048 by omega)] at k
    have : 192 + r / 64 = r := k
    omega
  rw [hq] at HBG
  have HG := Lib.hid HBG
  have HV := Lib.hid (Rvalid r w)
  rw [show okRune r = true from decide_eq_true (by omega)] at HV
  have HB1 := Lib.hid hb1
  have n0 : ((n : Int) == 0) = false := beq_eq_false_iff_ne.2 (by omega)
  have n1 : decide ((n : Int) < 1) = false := decide_eq_false (by omega)
  have hw : IntKind.i32.wrap r = r := IntWalk.i32_in _ (by omega)
  clear hB hbs HBG hb1 hr0 hq hlen
  go_enter Tryd.func13, Tryd.ntmps13
  go_wp2
  refine wp_loop_rounds 1 ?_
  rw [rounds_succ]
  go_wp2_with (first
    | (go_at_call 27; with_reducible refine HV.out.mono ?_; rintro e w1 ⟨rfl, rfl⟩)
    | (go_at_call 29; with_reducible refine (HBY.out _).mono ?_; rintro e w2 ⟨rfl, rfl⟩)
    | (go_at_call 28; with_reducible refine HG.out.mono ?_; rintro e w3 ⟨rfl, hb3⟩))
  go_ret2
  refine ⟨rfl, ?_⟩
  have q := HB1.out.trans (hb3.mono HB1.out.size)
  exact q
end Go.Proofs.YtbajejhhmacflaaDoor.utf
