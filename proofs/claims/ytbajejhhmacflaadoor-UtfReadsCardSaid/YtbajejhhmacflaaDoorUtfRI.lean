/- The document's answer: Check. -/
import Derived.Test.YtbajejhhmacflaaDoorUtfRH
namespace Go.Proofs.YtbajejhhmacflaaDoor.utf
open Go.PlainAid Go.ChangeShapes Go.WideShapes Go.ChangeAt Go.RowKit

set_option maxHeartbeats 1000000 in
theorem RCheck_some (b off cap : Nat) (l : List Int) (w : World) (hO : Oct l) (hm : l.length ≤ 140737488351232) (h0 : 0 < l.length) (hc : l.length ≤ cap) (hlt : b < w.heap.size)
    (hcell : ∀ i, i < l.length → w.cell? ⟨b, off + i, none⟩ = some (.int .u8 (gl l i))) :
    Calls Tryd.prog 17 #[.slice (some ⟨b, off, none⟩) l.length cap] w fun e w' => e = .returned (.int .i64 (chk l)) ∧ Below w.heap.size w w' := by
  have HC := Lib.hid hcell
  clear hcell
  go_enter Tryd.func17, Tryd.ntmps17
  go_wp2
  go_loopw [3] (fun i wr => ∃ k : Nat, k ≤ l.length ∧ i = .int .i64 k ∧ Hid (chk l = chkF l.length (l.drop k) k) ∧ Below w.heap.size w wr) (fun i _ => l.length - (intOf i).toNat)
  case atStart => exact ⟨0, by omega, rfl, rfl, Below.refl _ _⟩
  case round =>
    obtain ⟨k, hk, rfl, hN, hb⟩ := hrel
    have hbs := hb.size
    by_cases hkl : k < l.length
    · have hkc : k < cap := by omega
      have hOd := hO.drop k
      have hld : (l.drop k).length = l.length - k := by simp
      have hcall := RNext_any b (off + k) (l.length - k) (cap - k) (l.drop k) wr hOd
        (Bs.drop hkl hc (by omega) fun i hi => (hb.cell (p := ⟨b, off + i, none⟩) hlt).trans (HC.out i hi)) (by omega) (by omega)
      have hlen := nxl_len hOd
      have hne : l.drop k ≠ [] := fun e => by rw [e] at hld; simp at hld; omega
      by_cases hz : (nxl (l.drop k)).2 = 0
      · have hres : Hid (chk l = k) := by
          have := hN.out
          rw [chkF_bad k hne hz (by omega)] at this
          exact this
        rw [hlen.2.2.2 hz] at hcall
        have H := Lib.hid hcall
        clear hcall hlen hz hne hOd hld hN
        go_wp2_with (go_at_call 13; refine H.out.mono ?_; rintro e w' ⟨rfl, hb'⟩)
        go_ret
        exact ⟨ret_int hres.out.symm, hb.trans (hb'.mono hbs)⟩
      · obtain ⟨m, hmm⟩ := Int.eq_ofNat_of_zero_le hlen.1
        have hres : Hid (chk l = chkF l.length (l.drop (k + m)) ((k + m : Nat) : Int)) := by
          have := hN.out
          rw [chkF_step hOd k hne hz (by omega), hmm, List.drop_drop] at this
          rw [show ((k + m : Nat) : Int) = (k : Int) + (m : Int) by omega]
          exact this
        rw [hmm] at hcall hlen hz
        obtain ⟨hm1, hm2, hm3⟩ : m ≠ 0 ∧ m ≤ 4 ∧ k + m ≤ l.length := by omega
        have hmz : ((m : Int) == 0) = false := beq_eq_false_iff_ne.2 (by omega)
        have H := Lib.hid hcall
        clear hcall hlen hz hne hOd hld hN hmm
        go_wp2_with (go_at_call 13; refine H.out.mono ?_; rintro e w' ⟨rfl, hb'⟩)
        go_roundw
        case rel => exact ⟨k + m, by omega, by go_num, hres, hb.trans (hb'.mono hbs)⟩
        case measure => simp [intOf]; omega
    · have hkl' : k = l.length := by omega
      have hres : Hid (chk l = -1) := by
        have := hN.out
        rw [hkl', List.drop_length, chkF_nil] at this
        exact this
      clear hN hkl'
      go_wp2
      go_ret
      exact ⟨ret_int hres.out.symm, hb⟩

theorem RCheck_none (p : Option Addr) (c : Nat) (w : World) :
    Calls Tryd.prog 17 #[.slice p 0 c] w fun e w' => e = .returned (.int .i64 (-1)) ∧ w = w' := by
  go_enter Tryd.func17, Tryd.ntmps17
  go_wp2
  go_rounds 1
  go_ret
  exact ⟨rfl, rfl⟩

theorem RCheck_any (v : Value) (l : List Int) (w : World) (hO : Oct l) (hm : l.length ≤ 140737488351232) (hv : Bs w v l) :
    Calls Tryd.prog 17 #[v] w fun e w' => e = .returned (.int .i64 (chk l)) ∧ Below w.heap.size w w' := by
  rcases hv with ⟨p, c, rfl, rfl⟩ | ⟨b, off, cap, rfl, h0, hc, hlt, hcell⟩
  · refine (RCheck_none p c w).mono ?_
    rintro e w' ⟨rfl, rfl⟩
    exact ⟨rfl, Below.refl _ _⟩
  · exact RCheck_some b off cap l w hO hm h0 hc hlt hcell

end Go.Proofs.YtbajejhhmacflaaDoor.utf
