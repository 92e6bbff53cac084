/- The closures of split: a sign; digits. -/
import Derived.Test.YtkifndecpbphbaaDoorD
import Derived.Test.YtkifndecpbphbaaDoorShelfI
import Derived.RangeFuncNested
namespace Go.Proofs.YtkifndecpbphbaaDoor.dk
open Go.PlainAid Go.ChangeShapes Go.WideShapes Go.ChangeAt Go.RowKit

theorem idx_in : ∀ (l : List UInt8) (c : UInt8), decide (0 ≤ Lib.indexByte l c) = (l.map fun b => (b.toNat : Int)).contains (c.toNat : Int)
  | [], c => rfl
  | b :: l, c => by
    have ih := idx_in l c
    have hg := Lib.indexByte_ge l c
    rw [Lib.indexByte, List.map_cons, List.contains_cons, ← ih]
    by_cases h : b = c
    · subst h; simp
    · have hb : (b == c) = false := beq_eq_false_iff_ne.2 h
      have hc : ((c.toNat : Int) == (b.toNat : Int)) = false := beq_eq_false_iff_ne.2 fun e => h (UInt8.toNat_inj.1 (by omega))
      rw [hb, hc]
      simp only [Bool.false_eq_true, if_false, Bool.false_or]
      split
      · rename_i h1
        rw [eq_of_beq h1]
      · rename_i h1
        have h2 : Lib.indexByte l c ≠ -1 := fun e => h1 (by rw [e]; rfl)
        exact decide_eq_decide.2 ⟨fun _ => by omega, fun _ => by omega⟩
theorem u8_back (b : UInt8) : ((b.toNat : Nat) : Int).toNat.toUInt8 = b := by
  rw [Int.toNat_natCast]
  exact UInt8.toNat_inj.1 (by simp)
theorem boxes_ne {w : World} {a b : Nat} {s t : TypeId} {u v : Value} (h : Boxed w a s u) (k : Boxed w b t v) (hst : s ≠ t) : a ≠ b := fun e => by
  subst e
  have := (show w.heap[a]? = _ from h).symm.trans k
  injection this with this
  injection this with _ this _
  exact hst this
/-- Is the sign at a place one of these? -/
def hit (l sg : List Int) (k : Nat) : Bool := decide (k < l.length) && sg.contains (l.getD k 0)
set_option maxRecDepth 100000 in
theorem next_yes (w : World) (ba bs : Nat) (s sg : ByteArray) (k : Nat) (hs : s.size ≤ 1000000000) (hA : Boxed w ba 3 (.int .i64 k)) (hS : Boxed w bs 9 (.string s)) (hh : hit (unstr s) (unstr sg) k = true) :
    Calls Tryd.prog 66 #[.string sg, .pointer (some ⟨ba, 0, none⟩), .pointer (some ⟨bs, 0, none⟩)] w fun e w' => e = .returned (.int .u8 ((unstr s).getD k 0)) ∧ w' = w.setCell ⟨ba, 0, none⟩ (.int .i64 ((k : Int) + 1)) := by
  unfold hit at hh
  rw [unstr_length] at hh
  simp only [Bool.and_eq_true, decide_eq_true_eq] at hh
  obtain ⟨hk, hin⟩ := hh
  have hat := byte_at s k hk
  rw [← hat] at hin ⊢
  have hi := fun v => Tryd.strings_IndexByte sg (s[k].toNat : Int) v
  have hr := idx_in sg.data.toList s[k]
  rw [u8_back] at hi
  rw [show (List.map (fun b => (b.toNat : Int)) sg.data.toList).contains (s[k].toNat : Int) = true from hin] at hr
  have HI := Lib.hid hi
  clear hi hin hat
  generalize Lib.indexByte sg.data.toList s[k] = r at HI hr
  have hne := boxes_ne hA hS (by decide)
  have hA2 := hA.set (.int .i64 ((k : Int) + 1))
  have hS2 := hS.other (Ne.symm hne) (.int .i64 ((k : Int) + 1))
  have a1 := hA.cell
  have a2 := hA.frozen
  have a3 := hS.cell
  have a4 := hA2.cell
  have a5 := hS2.cell
  have w1 : IntKind.i64.wrap ((k : Int) + 1) = (k : Int) + 1 := by rw [IntKind.wrap_i64]; omega
  have w2 : IntKind.i64.wrap ((k : Int) + 1 - 1) = (k : Int) := by rw [IntKind.wrap_i64]; omega
  have d1 : decide ((k : Int) < ((s.size : Nat) : Int)) = true := decide_eq_true (by omega)
  clear hA hS hA2 hS2 hne
  go_enter Tryd.func66, Tryd.ntmps66
  go_wp2_with fail
  with_reducible refine (HI.out _).mono ?_
  rintro e w3 ⟨rfl, rfl⟩
  clear HI
  go_wp2_with fail
  go_ret
  exact ⟨rfl, rfl⟩
set_option maxRecDepth 100000 in
theorem next_no (w : World) (ba bs : Nat) (s sg : ByteArray) (k : Nat) (hA : Boxed w ba 3 (.int .i64 k)) (hS : Boxed w bs 9 (.string s)) (hh : hit (unstr s) (unstr sg) k = false) :
    Calls Tryd.prog 66 #[.string sg, .pointer (some ⟨ba, 0, none⟩), .pointer (some ⟨bs, 0, none⟩)] w fun e w' => e = .returned (.int .u8 0) ∧ w' = w := by
  have a1 := hA.cell
  have a3 := hS.cell
  unfold hit at hh
  rw [unstr_length] at hh
  by_cases hk : k < s.size
  · rw [decide_eq_true hk, Bool.true_and] at hh
    have hat := byte_at s k hk
    rw [← hat] at hh
    have hi := fun v => Tryd.strings_IndexByte sg (s[k].toNat : Int) v
    have hr := idx_in sg.data.toList s[k]
    rw [u8_back] at hi
    rw [show (List.map (fun b => (b.toNat : Int)) sg.data.toList).contains (s[k].toNat : Int) = false from hh] at hr
    have HI := Lib.hid hi
    clear hi hh hat
    generalize Lib.indexByte sg.data.toList s[k] = r at HI hr
    have d1 : decide ((k : Int) < ((s.size : Nat) : Int)) = true := decide_eq_true (by omega)
    clear hA hS
    go_enter Tryd.func66, Tryd.ntmps66
    go_wp2_with fail
    with_reducible refine (HI.out _).mono ?_
    rintro e w3 ⟨rfl, rfl⟩
    clear HI
    go_wp2_with fail
    go_ret
    exact ⟨rfl, rfl⟩
  · have d1 : decide ((k : Int) < ((s.size : Nat) : Int)) = false := decide_eq_false (by omega)
    clear hA hS
    go_enter Tryd.func66, Tryd.ntmps66
    go_wp2_with fail
    go_ret
    exact ⟨rfl, rfl⟩
end Go.Proofs.YtkifndecpbphbaaDoor.dk
