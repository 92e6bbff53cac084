/- The document's answer: Count. -/
import Derived.Test.YtbajejhhmacflaaDoorUtfRI
import Derived.Test.YtbajejhhmacflaaDoorUtfMA
import Derived.Test.YtbajejhhmacflaaDoorUtfT
namespace Go.Proofs.YtbajejhhmacflaaDoor.utf
open Go.PlainAid Go.ChangeShapes Go.WideShapes Go.ChangeAt Go.RowKit

set_option maxHeartbeats 2000000 in
theorem RCount_any (s : ByteArray) (w : World) (hs : s.size ≤ 1000) :
    Calls Tryd.prog 19 #[.string s] w fun e w' => e = .returned (.int .i64 (cnt (ints s))) ∧ Below w.heap.size w w' := by
  have hcv := Lib.run_convert_string_bytes (P := Tryd.prog) w 9 22 5 s Tryd.underlying9 Tryd.underlying22 Tryd.underlying5
  have hsz := Lib.bytesWorld_size w 5 s
  have hc0 := grownCap_ge w s.size 0 5
  have hO := ints_oct s
  have hl := ints_length s
  have HC : Hid (∀ i, i < s.size → (Lib.bytesWorld w 5 s).cell? ⟨w.heap.size, i, none⟩ = some (.int .u8 (gl (ints s) i))) := fun i hi => conv_cells w s i hi
  have HB0 := Lib.hid (bytes_below' w s 5)
  generalize Lib.bytesWorld w 5 s = w1 at hcv hsz HC HB0
  generalize grownCap w s.size 0 5 = cap at hcv hc0
  have HCV := Lib.hid hcv
  clear hcv
  generalize hL : ints s = l at hO hl HC
  clear hL
  have hcr := cnt_range _ (Nat.le_refl _) hO
  obtain ⟨v, hv⟩ : ∃ v, v = cnt l := ⟨_, rfl⟩
  have HV : Hid (v = 0 + cnt (l.drop 0)) := by rw [Int.zero_add]; exact hv
  rw [← hv] at hcr ⊢
  clear hv
  obtain ⟨hv0, hv1⟩ := hcr
  go_enter Tryd.func19, Tryd.ntmps19
  go_wp2
  rw [HCV.out]
  clear HCV
  go_wp2
  go_loopw [4, 5] (fun c i wr => ∃ (k : Nat) (m : Int), c = .int .i64 m ∧ i = .int .i64 k ∧ k ≤ s.size ∧ 0 ≤ m ∧ m ≤ k ∧ Hid (v = m + cnt (l.drop k)) ∧ Below (w.heap.size + 1) w1 wr) (fun _ i _ => s.size - (intOf i).toNat)
  case atStart => exact ⟨0, 0, rfl, rfl, Nat.zero_le _, by omega, by omega, HV, Below.refl _ _⟩
  case round =>
    obtain ⟨k, m, rfl, rfl, hk, hm0, hmk, HM, hb⟩ := hrel
    have hbs := hb.size
    by_cases hkl : k < s.size
    · have hkc : k < cap := by omega
      have hOd := hO.drop k
      have hld : (l.drop k).length = s.size - k := by simp [hl]
      have hBd : Bs wr (.slice (some ⟨w.heap.size, k, none⟩) (s.size - k) (cap - k)) (l.drop k) := by
        have := Bs.drop (w := wr) (b := w.heap.size) (off := 0) (cap := cap) (k := k) (l := l) (by omega) (by omega) (by omega) (fun i hi => by
          rw [Nat.zero_add]
          exact (hb.cell (p := ⟨w.heap.size, i, none⟩) (by show w.heap.size < w.heap.size + 1; omega)).trans (HC.out i (by omega)))
        rw [Nat.zero_add, hl] at this
        exact this
      have hcall := RNext_any w.heap.size k (s.size - k) (cap - k) (l.drop k) wr hOd hBd (by omega) (by omega)
      have hlen := nxl_len hOd
      have hne : l.drop k ≠ [] := fun e => by rw [e] at hld; simp at hld; omega
      have hv := HM.out
      have ls := rk_len hOd hne
      rw [cnt_step hOd hne] at hv
      have hrk : (rk (l.drop k)).2 = max 1 (nxl (l.drop k)).2 := by
        unfold rk
        by_cases hz : (nxl (l.drop k)).2 = 0
        · rw [if_pos hz, hz]; rfl
        · rw [if_neg hz]; omega
      rw [hrk, List.drop_drop] at hv
      rw [hrk] at ls
      generalize nxl (l.drop k) = p at hcall hlen hv ls
      obtain ⟨r1, n1⟩ := p
      simp only at hlen hv ls
      obtain ⟨k1, hk1⟩ := Int.eq_ofNat_of_zero_le (show 0 ≤ max 1 n1 by omega)
      have hn0 : 0 ≤ n1 := hlen.1
      have hn4 : n1 ≤ 4 := hlen.2.1
      have hle : k + k1 ≤ s.size := by omega
      have hle1 : 1 ≤ k1 := by omega
      have HVv : Hid (v = (m + 1) + cnt (l.drop (k + k1))) := by
        rw [hv, hk1]; simp only [Int.toNat_natCast]; show m + (1 + _) = m + 1 + _; omega
      have HH := Lib.hid hcall
      have HK := Lib.hid hk1
      clear hcall hlen hv ls hrk hne hBd hOd HM hld hk1
      go_wp2_with (go_at_call 13; with_reducible refine HH.out.mono ?_; rintro e w2 ⟨rfl, hb2⟩)
      have hK := HK.out
      constructor
      · exact ⟨k + k1, m + 1, rfl, congrArg (Value.int .i64) (by omega), hle, by omega, by omega, HVv, hb.trans (hb2.mono (by omega))⟩
      · show s.size - ((k : Int) + max 1 n1).toNat < s.size - (k : Int).toNat
        omega
    · have hkl' : k = s.size := by omega
      have hv : Hid (v = m) := by
        have := HM.out
        rw [hkl', ← hl, List.drop_length, cnt_nil] at this
        rw [this]; show m + 0 = m; omega
      clear HM hkl' HC
      go_wp2
      go_ret
      exact ⟨ret_int hv.out.symm, HB0.out.trans (hb.mono (by omega))⟩
end Go.Proofs.YtbajejhhmacflaaDoor.utf
