/- Contracts: Check, Next, rank, Less. -/
import Derived.Test.YtbajejhhmacflaaDoorUtfC
namespace Go.Proofs.YtbajejhhmacflaaDoor.utf
open Go.PlainAid Go.ChangeShapes Go.WideShapes Go.ChangeAt Go.RowKit

theorem ret_int {k : IntKind} {a b : Int} (h : a = b) : Ending.returned (.int k a) = .returned (.int k b) := by rw [h]
theorem ret_bool {a b : Bool} (h : a = b) : Ending.returned (.bool a) = .returned (.bool b) := by rw [h]

theorem Bs.drop {w : World} {b off cap k : Nat} {l : List Int} (hk : k < l.length) (hc : l.length ≤ cap) (hlt : b < w.heap.size) (h : ∀ i, i < l.length → w.cell? ⟨b, off + i, none⟩ = some (.int .u8 (gl l i))) :
    Bs w (.slice (some ⟨b, off + k, none⟩) (l.length - k) (cap - k)) (l.drop k) := by
  have e : l.length - k = (l.drop k).length := by simp
  rw [e]
  refine .inr ⟨b, off + k, cap - k, rfl, by simp; omega, by simp; omega, hlt, fun i hi => ?_⟩
  rw [gl_drop, ← h (k + i) (by simp at hi; omega), Nat.add_assoc]

theorem Next_any (v : Value) (l : List Int) (w : World) (hO : Oct l) (hm : l.length ≤ maxLen) (hv : Bs w v l) (hF : Forms w) :
    Calls Tryd.prog 12 #[v] w fun e w' => e = .returned (.tuple #[.int .i32 (nxl l).1, .int .i64 (nxl l).2]) ∧ Below w.heap.size w w' := by
  have H := Lib.hid (nextB_any v l w hO hm hv hF)
  clear hv hF hm hO
  go_enter Tryd.func12, Tryd.ntmps12
  go_wp2_with (go_at_call 26; refine H.out.mono ?_; rintro e w' ⟨rfl, hb⟩)
  go_ret2
  exact ⟨rfl, hb⟩

set_option maxHeartbeats 1000000 in
theorem Check_some (b off cap : Nat) (l : List Int) (w : World) (hO : Oct l) (hm : l.length ≤ maxLen) (h0 : 0 < l.length) (hc : l.length ≤ cap) (hlt : b < w.heap.size)
    (hcell : ∀ i, i < l.length → w.cell? ⟨b, off + i, none⟩ = some (.int .u8 (gl l i))) (hF : Forms w) :
    Calls Tryd.prog 16 #[.slice (some ⟨b, off, none⟩) l.length cap] w fun e w' => e = .returned (.int .i64 (chk l)) ∧ Below w.heap.size w w' := by
  have hm' := hm
  unfold maxLen at hm
  have HC := Lib.hid hcell
  clear hcell
  have HF := Lib.hid hF
  clear hF
  go_enter Tryd.func16, Tryd.ntmps16
  go_wp2
  go_loopw [3] (fun i wr => ∃ k : Nat, k ≤ l.length ∧ i = .int .i64 k ∧ Hid (chk l = chkF l.length (l.drop k) k) ∧ Below w.heap.size w wr) (fun i _ => l.length - (intOf i).toNat)
  case atStart => exact ⟨0, by omega, rfl, rfl, Below.refl _ _⟩
  case round =>
    obtain ⟨k, hk, rfl, hN, hb⟩ := hrel
    have hbs := hb.size
    by_cases hkl : k < l.length
    · have hkc : k < cap := by omega
      have hOd := hO.drop k
      have hld : (l.drop k).length = l.length - k := by simp
      have hcall := nextB_any (.slice (some ⟨b, off + k, none⟩) (l.length - k) (cap - k)) (l.drop k) wr hOd (by omega)
        (Bs.drop hkl hc (by omega) fun i hi => (hb.cell (p := ⟨b, off + i, none⟩) hlt).trans (HC.out i hi)) (HF.out.below hb HF.out.size)
      have hlen := nxl_len hOd
      have hne : l.drop k ≠ [] := fun e => by rw [e] at hld; simp at hld; omega
      by_cases hz : (nxl (l.drop k)).2 = 0
      · have hres : Hid (chk l = k) := by
          have := hN.out
          rw [chkF_bad k hne hz (by omega)] at this
          exact this
        rw [hlen.2.2.2 hz] at hcall
        have H := Lib.hid hcall
        clear hcall hlen hz hne hOd hld hN
        go_wp2_with (go_at_call 26; refine H.out.mono ?_; rintro e w' ⟨rfl, hb'⟩)
        go_ret
        exact ⟨ret_int hres.out.symm, hb.trans (hb'.mono hbs)⟩
      · obtain ⟨m, hmm⟩ := Int.eq_ofNat_of_zero_le hlen.1
        have hres : Hid (chk l = chkF l.length (l.drop (k + m)) ((k + m : Nat) : Int)) := by
          have := hN.out
          rw [chkF_step hOd k hne hz (by omega), hmm, List.drop_drop] at this
          rw [show ((k + m : Nat) : Int) = (k : Int) + (m : Int) by omega]
          exact this
        rw [hmm] at hcall hlen hz
        obtain ⟨hm1, hm2, hm3⟩ : m ≠ 0 ∧ m ≤ 4 ∧ k + m ≤ l.length := by omega
        have hmz : ((m : Int) == 0) = false := beq_eq_false_iff_ne.2 (by omega)
        have H := Lib.hid hcall
        clear hcall hlen hz hne hOd hld hN hmm
        go_wp2_with (go_at_call 26; refine H.out.mono ?_; rintro e w' ⟨rfl, hb'⟩)
        go_roundw
        case rel => exact ⟨k + m, by omega, by go_num, hres, hb.trans (hb'.mono hbs)⟩
        case measure => simp [intOf]; omega
    · have hkl' : k = l.length := by omega
      have hres : Hid (chk l = -1) := by
        have := hN.out
        rw [hkl', List.drop_length, chkF_nil] at this
        exact this
      clear hN hkl'
      go_wp2
      go_ret
      exact ⟨ret_int hres.out.symm, hb⟩

theorem Check_none (p : Option Addr) (c : Nat) (w : World) :
    Calls Tryd.prog 16 #[.slice p 0 c] w fun e w' => e = .returned (.int .i64 (-1)) ∧ w = w' := by
  go_enter Tryd.func16, Tryd.ntmps16
  go_wp2
  go_rounds 1
  go_ret
  exact ⟨rfl, rfl⟩

theorem Check_any (v : Value) (l : List Int) (w : World) (hO : Oct l) (hm : l.length ≤ maxLen) (hv : Bs w v l) (hF : Forms w) :
    Calls Tryd.prog 16 #[v] w fun e w' => e = .returned (.int .i64 (chk l)) ∧ Below w.heap.size w w' := by
  rcases hv with ⟨p, c, rfl, rfl⟩ | ⟨b, off, cap, rfl, h0, hc, hlt, hcell⟩
  · refine (Check_none p c w).mono ?_
    rintro e w' ⟨rfl, rfl⟩
    exact ⟨rfl, Below.refl _ _⟩
  · exact Check_some b off cap l w hO hm h0 hc hlt hcell hF

theorem rank_bad (s : ByteArray) (w : World) (hm : s.size ≤ maxLen) (hF : Forms w) (h0 : 0 < s.size) (hz : (nxl (ints s)).2 = 0) :
    Calls Tryd.prog 41 #[.string s] w fun e w' => e = .returned (.tuple #[.int .i32 (1114112 + s[0].toNat), .int .i64 1]) ∧ Below w.heap.size w w' := by
  have hcall := nextS_any s w hm hF
  rw [(nxl_len (ints_oct s)).2.2.2 hz] at hcall
  have H := Lib.hid hcall
  clear hcall hF hz
  unfold maxLen at hm
  obtain ⟨e1, e2⟩ : 0 ≤ (s[0].toNat : Int) ∧ (s[0].toNat : Int) ≤ 255 := by have := s[0].toNat_lt; omega
  go_enter Tryd.func41, Tryd.ntmps41
  go_wp2_with (go_at_call 32; refine H.out.mono ?_; rintro e w' ⟨rfl, hb'⟩)
  go_ret2
  exact ⟨rfl, hb'⟩
theorem rank_good (s : ByteArray) (w : World) (hm : s.size ≤ maxLen) (hF : Forms w) (r n : Int) (hr : nxl (ints s) = (r, n)) (hz : n ≠ 0) :
    Calls Tryd.prog 41 #[.string s] w fun e w' => e = .returned (.tuple #[.int .i32 r, .int .i64 n]) ∧ Below w.heap.size w w' := by
  have hcall := nextS_any s w hm hF
  rw [hr] at hcall
  have H := Lib.hid hcall
  have hz' : (n == 0) = false := beq_eq_false_iff_ne.2 hz
  clear hcall hF hr hz
  unfold maxLen at hm
  go_enter Tryd.func41, Tryd.ntmps41
  go_wp2_with (go_at_call 32; refine H.out.mono ?_; rintro e w' ⟨rfl, hb'⟩)
  go_ret2
  exact ⟨rfl, hb'⟩
theorem rank_any (s : ByteArray) (w : World) (hm : s.size ≤ maxLen) (hF : Forms w) (h0 : 0 < s.size) :
    Calls Tryd.prog 41 #[.string s] w fun e w' => e = .returned (.tuple #[.int .i32 (rk (ints s)).1, .int .i64 (rk (ints s)).2]) ∧ Below w.heap.size w w' := by
  by_cases hz : (nxl (ints s)).2 = 0
  · refine (rank_bad s w hm hF h0 hz).mono ?_
    rintro e w' ⟨rfl, hb⟩
    have e : rk (ints s) = (1114112 + gl (ints s) 0, 1) := if_pos hz
    rw [e, ints_gl, ← get_bt s 0 h0]
    exact ⟨rfl, hb⟩
  · refine (rank_good s w hm hF _ _ rfl hz).mono ?_
    rintro e w' ⟨rfl, hb⟩
    have e : rk (ints s) = nxl (ints s) := if_neg hz
    rw [e]
    exact ⟨rfl, hb⟩
end Go.Proofs.YtbajejhhmacflaaDoor.utf
