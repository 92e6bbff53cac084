/- height; digitsOf and its closure; Neg; sign. -/
import Derived.Test.YtpnhgggdjlglnaaDoorG
import Derived.Laws.EntriesVeiled
namespace Go.Proofs.YtpnhgggdjlglnaaDoor.dk
open Go.PlainAid Go.ChangeShapes Go.WideShapes Go.ChangeAt Go.RowKit

/-- A number's fields as a value. -/
def dv (neg : Bool) (dg : ByteArray) (ex : Int) : Array Value := #[.bool neg, .string dg, .int .i64 ex]
set_option maxRecDepth 100000 in
theorem height_any (w : World) (neg : Bool) (dg : ByteArray) (ex : Int) (hs : dg.size ≤ 1000000000) (h1 : -1000000000 ≤ ex) (h2 : ex ≤ 1000000000) :
    Calls Tryd.prog 41 #[.agg #[.bool neg, .string dg, .int .i64 ex]] w fun e w' => e = .returned (.int .i64 ((dg.size : Int) + ex)) ∧ Below w.heap.size w w' := by
  have hb : Below w.heap.size w (w.alloc (.cells #[.bool neg, .string dg, .int .i64 ex] 23)) := (Below.refl _ _).alloc (Nat.le_refl _) _
  have HB := Lib.hid hb
  have w1 : IntKind.i64.wrap ((dg.size : Int) + ex) = (dg.size : Int) + ex := by rw [IntKind.wrap_i64]; omega
  clear hb
  go_enter Tryd.func41, Tryd.ntmps41
  go_wp2_with fail
  go_ret
  exact ⟨rfl, HB.out⟩
/-- The digit that stands at a power of ten. -/
def dat (l : List Int) (ex p : Int) : Int := if p < ex ∨ (l.length : Int) + ex ≤ p then 0 else l.getD ((l.length : Int) + ex - 1 - p).toNat 0 - 48
theorem dat_range (l : List Int) (ex p : Int) (hd : ∀ x ∈ l, isDig x = true) : 0 ≤ dat l ex p ∧ dat l ex p ≤ 9 := by
  unfold dat
  split
  · omega
  · rename_i h
    have hi : ((l.length : Int) + ex - 1 - p).toNat < l.length := by omega
    have := hd (l.getD ((l.length : Int) + ex - 1 - p).toNat 0) (by rw [List.getD_eq_getElem?_getD, List.getElem?_eq_getElem hi]; exact List.getElem_mem _)
    unfold isDig at this
    simp only [Bool.and_eq_true, decide_eq_true_eq] at this
    omega
set_option maxRecDepth 100000 in
theorem digitsOf_any (w : World) (neg : Bool) (dg : ByteArray) (ex : Int) (hs : dg.size ≤ 1000000000) (h1 : -1000000000 ≤ ex) (h2 : ex ≤ 1000000000) :
    Calls Tryd.prog 34 #[.agg #[.bool neg, .string dg, .int .i64 ex]] w fun e w' => ∃ g1 g2, e = .returned (.func (.func 47) #[] #[.pointer (some ⟨g1, 0, none⟩), .pointer (some ⟨g2, 0, none⟩)]) ∧ w.heap.size ≤ g1 ∧ w.heap.size ≤ g2 ∧
      w'.heap[g1]? = some (.cells #[.bool neg, .string dg, .int .i64 ex] 23 (0, 0)) ∧ Boxed w' g2 3 (.int .i64 ((dg.size : Int) + ex)) ∧ Below w.heap.size w w' := by
  have hb : Below w.heap.size w (w.alloc (.cells #[.bool neg, .string dg, .int .i64 ex] 23)) := (Below.refl _ _).alloc (Nat.le_refl _) _
  have hn : (w.alloc (.cells #[.bool neg, .string dg, .int .i64 ex] 23)).heap[w.heap.size]? = some (.cells #[.bool neg, .string dg, .int .i64 ex] 23 (0, 0)) := heap_alloc_new _ _
  have HB := Lib.hid hb
  have HN := Lib.hid hn
  have HH := Lib.hid (fun v => height_any v neg dg ex hs h1 h2)
  generalize (dg.size : Int) + ex = hi at HH ⊢
  clear hb hn
  go_enter Tryd.func34, Tryd.ntmps34
  go_wp2_with fail
  with_reducible refine (HH.out _).mono ?_
  rintro e w2 ⟨rfl, hb2⟩
  have hn2 := (hb2.block _ (lt_of_block HN.out)).trans HN.out
  have hb3 := (HB.out.trans (hb2.mono HB.out.size))
  have hn3 := (Below.heap_alloc w2 (.cells #[.int .i64 hi] 3) _ (lt_of_block hn2)).trans hn2
  have HF := Lib.hid (And.intro hn3 (And.intro (Boxed.new w2 3 (.int .i64 hi)) (hb3.alloc hb3.size (.cells #[.int .i64 hi] 3))))
  have HZ := Lib.hid hb3.size
  clear hn2 hb3 hn3 hb2 HH HN HB
  go_wp2_with fail
  go_ret
  exact ⟨_, _, rfl, Nat.le_refl _, HZ.out, HF.out.1, HF.out.2.1, HF.out.2.2⟩
set_option maxRecDepth 100000 in
theorem dat_any (w : World) (g1 g2 : Nat) (neg : Bool) (dg : ByteArray) (ex p : Int) (hd : ∀ x ∈ unstr dg, isDig x = true) (hs : dg.size ≤ 1000000000) (h1 : -1000000000 ≤ ex) (h2 : ex ≤ 1000000000) (hp1 : -1000000000 ≤ p) (hp2 : p ≤ 1000000000)
    (hr : w.heap[g1]? = some (.cells #[.bool neg, .string dg, .int .i64 ex] 23 (0, 0))) (hb : Boxed w g2 3 (.int .i64 ((dg.size : Int) + ex))) :
    Calls Tryd.prog 47 #[.int .i64 p, .pointer (some ⟨g1, 0, none⟩), .pointer (some ⟨g2, 0, none⟩)] w fun e w' => e = .returned (.int .i64 (dat (unstr dg) ex p)) ∧ w' = w := by
  have hul := unstr_length dg
  obtain ⟨⟨x0, x1, x2⟩, _⟩ := row3 hr
  have y := hb.cell
  by_cases c1 : p < ex
  · have d1 : decide (p < ex) = true := decide_eq_true c1
    rw [show dat (unstr dg) ex p = 0 by unfold dat; rw [if_pos (.inl c1)]]
    clear hr hb hd
    go_enter Tryd.func47, Tryd.ntmps47
    go_wp2_with fail
    go_ret
    exact ⟨rfl, rfl⟩
  have d1 : decide (p < ex) = false := decide_eq_false c1
  by_cases c2 : (dg.size : Int) + ex ≤ p
  · have d2 : decide ((dg.size : Int) + ex ≤ p) = true := decide_eq_true c2
    rw [show dat (unstr dg) ex p = 0 by unfold dat; rw [if_pos (.inr (by rw [hul]; exact c2))]]
    clear hr hb hd
    go_enter Tryd.func47, Tryd.ntmps47
    go_wp2_with fail
    go_ret
    exact ⟨rfl, rfl⟩
  have d2 : decide ((dg.size : Int) + ex ≤ p) = false := decide_eq_false c2
  obtain ⟨i, hi⟩ : ∃ i : Nat, (i : Int) = (dg.size : Int) + ex - 1 - p := ⟨((dg.size : Int) + ex - 1 - p).toNat, by omega⟩
  have hin : i < dg.size := by omega
  have w1 : IntKind.i64.wrap ((dg.size : Int) + ex - 1) = (dg.size : Int) + ex - 1 := by rw [IntKind.wrap_i64]; omega
  have w2 : IntKind.i64.wrap ((dg.size : Int) + ex - 1 - p) = (i : Int) := by rw [IntKind.wrap_i64]; omega
  have hat := byte_at dg i hin
  have hdg := hd ((unstr dg).getD i 0) (by rw [List.getD_eq_getElem?_getD, List.getElem?_eq_getElem (by omega)]; exact List.getElem_mem _)
  unfold isDig at hdg
  simp only [Bool.and_eq_true, decide_eq_true_eq] at hdg
  rw [show dat (unstr dg) ex p = (unstr dg).getD i 0 - 48 by unfold dat; rw [if_neg (by omega), hul, ← hi, Int.toNat_natCast], ← hat]
  rw [← hat] at hdg
  have w3 : IntKind.u8.wrap (((dg[i].toNat : Nat) : Int) - 48) = ((dg[i].toNat : Nat) : Int) - 48 := by rw [IntKind.wrap_u8]; omega
  have w4 : IntKind.i64.wrap (((dg[i].toNat : Nat) : Int) - 48) = ((dg[i].toNat : Nat) : Int) - 48 := by rw [IntKind.wrap_i64]; omega
  clear hr hb hd hat hi
  go_enter Tryd.func47, Tryd.ntmps47
  go_wp2_with fail
  go_ret
  exact ⟨rfl, rfl⟩
end Go.Proofs.YtpnhgggdjlglnaaDoor.dk
