/- Bytes, as they are compared. -/
import Derived.Test.YtebhbcbcnjdgjaaDoorB
import Derived.Lib.Strings
import Derived.Lib.IndexBytes
namespace Go.Proofs.YtebhbcbcnjdgjaaDoor.dk
open Go.PlainAid Go.ChangeShapes Go.WideShapes Go.ChangeAt Go.RowKit

set_option maxHeartbeats 4000000 in
set_option maxRecDepth 100000 in
theorem bytes_lt (w : World) (a b : ByteArray) (k : Nat) (ha : k < a.size) (hb : k < b.size) (hs : a.size ≤ 1000000) (he : ∀ i, i < k → (unstr a).getD i 0 = (unstr b).getD i 0) (hlt : (unstr a).getD k 0 < (unstr b).getD k 0) :
    Calls Tryd.prog 30 #[.string a, .string b] w fun e w' => e = .returned (.int .i64 (-1)) ∧ ∃ y, w' = w.drewN y := by
  have HE := Lib.hid he
  have HLt := Lib.hid hlt
  clear he hlt
  go_enter Tryd.func30, Tryd.ntmps30
  go_wp2_with fail
  go_loopw [5] (fun v wr => ∃ j : Nat, v = .int .i64 (j : Int) ∧ j ≤ k ∧ Hid (∃ y, wr = w.drewN y)) (fun v _ => k - (intOf v).toNat)
  case atStart => exact ⟨0, rfl, Nat.zero_le _, ⟨0, rfl⟩⟩
  case round =>
    obtain ⟨j, rfl, hj, HY⟩ := hrel
    have d1 : decide ((j : Int) < (a.size : Int)) = true := decide_eq_true (by omega)
    have d2 : decide ((j : Int) < (b.size : Int)) = true := decide_eq_true (by omega)
    have hja : j < a.size := by omega
    have hjb : j < b.size := by omega
    have d1n : decide (j < a.size) = true := decide_eq_true hja
    have d2n : decide (j < b.size) = true := decide_eq_true hjb
    have ea : ((a[j].toNat : Nat) : Int) = (unstr a).getD j 0 := by
      unfold unstr
      rw [List.getD_eq_getElem?_getD, List.getElem?_map, Lib.data_getElem? a j hja]
      rfl
    have eb : ((b[j].toNat : Nat) : Int) = (unstr b).getD j 0 := by
      unfold unstr
      rw [List.getD_eq_getElem?_getD, List.getElem?_map, Lib.data_getElem? b j hjb]
      rfl
    by_cases hjk : j < k
    · have hab : ((a[j].toNat : Nat) : Int) = ((b[j].toNat : Nat) : Int) := by rw [ea, eb]; exact HE.out j hjk
      have dne : (((a[j].toNat : Nat) : Int) != ((b[j].toNat : Nat) : Int)) = false := by rw [hab]; exact bne_self_eq_false _
      clear ea eb hab
      go_wp2_with fail
      go_quiet (fail)
      go_wp2_with fail
      exact ⟨⟨j + 1, by go_num, by omega, by obtain ⟨y, hy⟩ := HY.out; exact ⟨_, by rw [hy, World.drewN_drewN]⟩⟩, by show k - ((j : Int) + 1).toNat < k - (j : Int).toNat; omega⟩
    · obtain rfl : j = k := by omega
      have hab : ((a[j].toNat : Nat) : Int) < ((b[j].toNat : Nat) : Int) := by rw [ea, eb]; exact HLt.out
      have dne : (((a[j].toNat : Nat) : Int) != ((b[j].toNat : Nat) : Int)) = true := by rw [bne_iff_ne]; omega
      have HS : Hid (sgn ((a[j].toNat : Nat) : Int) ((b[j].toNat : Nat) : Int) = -1) := by show sgn _ _ = -1; unfold sgn; rw [if_pos hab]
      have hC : ∀ v : World, Calls Tryd.prog 42 #[.int .i64 ((a[j].toNat : Nat) : Int), .int .i64 ((b[j].toNat : Nat) : Int)] v fun e w' => e = .returned (.int .i64 (-1)) ∧ w' = v := fun v => (compare_any v ((a[j].toNat : Nat) : Int) ((b[j].toNat : Nat) : Int)).mono fun e w' hh => ⟨hh.1.trans (by rw [HS.out]), hh.2.symm⟩
      have HC := Lib.hid hC
      have hA : (a[j].toNat : Int) ≤ 255 := by have := a[j].toNat_lt; omega
      have hB : (b[j].toNat : Int) ≤ 255 := by have := b[j].toNat_lt; omega
      have wa : IntKind.i64.wrap ((a[j].toNat : Nat) : Int) = ((a[j].toNat : Nat) : Int) := by rw [IntKind.wrap_i64]; omega
      have wb : IntKind.i64.wrap ((b[j].toNat : Nat) : Int) = ((b[j].toNat : Nat) : Int) := by rw [IntKind.wrap_i64]; omega
      clear ea eb hab hC
      go_wp2_with fail
      go_quiet (fail)
      generalize hwz : wr.drewN _ = wz
      have HZ : Hid (∃ y, wz = w.drewN y) := by obtain ⟨y, hy⟩ := HY.out; exact ⟨_, by rw [← hwz, hy, World.drewN_drewN]⟩
      clear hwz HY
      go_wp2_with fail
      go_quiet ((go_at_call 42; exact Calls.quiet_of_same (HC.out _)))
      go_wp2_with fail
      go_ret
      exact ⟨rfl, by obtain ⟨y, hy⟩ := HZ.out; exact ⟨_, by rw [hy, World.drewN_drewN]⟩⟩
set_option maxHeartbeats 4000000 in
set_option maxRecDepth 100000 in
theorem Bytes_lt (w : World) (p : Option Addr) (n c : Nat) (A : List Int) (q : Option Addr) (m d : Nat) (B : List Int) (hA : Rd w p n A) (hB : Rd w q m B) (ha : Bys A) (hb : Bys B) (hn : n ≤ 1000000) (k : Nat) (hkn : k < n) (hkm : k < m) (he : ∀ i, i < k → A.getD i 0 = B.getD i 0) (hlt : A.getD k 0 < B.getD k 0) :
    Calls Tryd.prog 21 #[.slice p n c, .slice q m d] w fun e w' => e = .returned (.int .i64 (-1)) ∧ ∃ y, w' = w.drewN y := by
  have V1 := conv_rd (c := c) hA
  have V2 := conv_rd (c := d) hB
  have HC := Lib.hid (bytes_lt w (strOf A) (strOf B) k (by rw [strOf_size, hA.1]; exact hkn) (by rw [strOf_size, hB.1]; exact hkm) (by rw [strOf_size, hA.1]; exact hn) (fun i hi => by rw [unstr_strOf _ ha, unstr_strOf _ hb]; exact he i hi) (by rw [unstr_strOf _ ha, unstr_strOf _ hb]; exact hlt))
  generalize strOf A = a at V1 HC
  generalize strOf B = b at V2 HC
  clear hA hB ha hb he hlt
  go_enter Tryd.func21, Tryd.ntmps21
  go_wp2_with (go_at_call 30; with_reducible refine HC.out.mono ?_; rintro e w' ⟨rfl, y, rfl⟩)
  go_ret
  exact ⟨rfl, _, rfl⟩
end Go.Proofs.YtebhbcbcnjdgjaaDoor.dk
