/- The document's answer: marks. -/
import Derived.Test.YtbajejhhmacflaaDoorUtfRH
import Derived.Test.YtbajejhhmacflaaDoorUtfMA
namespace Go.Proofs.YtbajejhhmacflaaDoor.utf
open Go.PlainAid Go.ChangeShapes Go.WideShapes Go.ChangeAt Go.RowKit

theorem below_up {B C : Nat} {a b : World} (h : Below C a b) (hB : B ≤ C) : Below B a b := h.mono hB

set_option maxHeartbeats 2000000 in
theorem Marks_any (s : ByteArray) (w : World) (hs : s.size ≤ 1000) :
    Calls Tryd.prog 42 #[.string s] w fun e w' => ∃ v, e = .returned v ∧ Is w' v (marks (ints s)) ∧ Below w.heap.size w w' := by
  have hcv := Lib.run_convert_string_bytes (P := Tryd.prog) w 9 22 5 s Tryd.underlying9 Tryd.underlying22 Tryd.underlying5
  have hsz := Lib.bytesWorld_size w 5 s
  have hc0 := grownCap_ge w s.size 0 5
  have hO := ints_oct s
  have hl := ints_length s
  have HC : Hid (∀ i, i < s.size → (Lib.bytesWorld w 5 s).cell? ⟨w.heap.size, i, none⟩ = some (.int .u8 (gl (ints s) i))) := fun i hi => conv_cells w s i hi
  have HB0 := Lib.hid (bytes_below' w s 5)
  generalize Lib.bytesWorld w 5 s = w1 at hcv hsz HC HB0
  generalize grownCap w s.size 0 5 = cap at hcv hc0
  have HCV := Lib.hid hcv
  clear hcv
  generalize hL : ints s = l at hO hl HC
  clear hL
  go_enter Tryd.func42, Tryd.ntmps42
  go_wp2
  rw [HCV.out]
  clear HCV
  go_wp2
  go_loopw [4, 5] (fun o i wr => ∃ (k : Nat) (xs : List Int), i = .int .i64 k ∧ k ≤ s.size ∧ xs.length ≤ k ∧ Hid (xs.length = 0 → o = .slice none 0 0) ∧ Hid (wr.ownsRow (w.heap.size + 1) 3 1 o xs.length (icells xs)) ∧ Hid (marks l = xs ++ marks (l.drop k)) ∧ Below (w.heap.size + 1) w1 wr) (fun _ i _ => s.size - (intOf i).toNat)
  case atStart => exact ⟨0, [], rfl, Nat.zero_le _, Nat.le_refl _, fun _ => rfl, World.ownsRow_nil _ _ _ _, rfl, Below.refl _ _⟩
  case round =>
    obtain ⟨k, xs, rfl, hk, hxk, HZ, HW, HM, hb⟩ := hrel
    have hbs := hb.size
    by_cases hkl : k < s.size
    · have hkc : k < cap := by omega
      have hOd := hO.drop k
      have hld : (l.drop k).length = s.size - k := by simp [hl]
      have hgk := hO.gl k
      have hcell : wr.cell? ⟨w.heap.size, k, none⟩ = some (.int .u8 (gl l k)) := (hb.cell (p := ⟨w.heap.size, k, none⟩) (by show w.heap.size < w.heap.size + 1; omega)).trans (HC.out k hkl)
      have hBd : Bs wr (.slice (some ⟨w.heap.size, k, none⟩) (s.size - k) (cap - k)) (l.drop k) := by
        have := Bs.drop (w := wr) (b := w.heap.size) (off := 0) (cap := cap) (k := k) (l := l) (by omega) (by omega) (by omega) (fun i hi => by
          rw [Nat.zero_add]
          exact (hb.cell (p := ⟨w.heap.size, i, none⟩) (by show w.heap.size < w.heap.size + 1; omega)).trans (HC.out i (by omega)))
        rw [Nat.zero_add, hl] at this
        exact this
      have hcall := RNext_any w.heap.size k (s.size - k) (cap - k) (l.drop k) wr hOd hBd (by omega) (by omega)
      have hlen := nxl_len hOd
      have hne : l.drop k ≠ [] := fun e => by rw [e] at hld; simp at hld; omega
      have hm := HM.out
      rw [marks_step hOd hne, List.drop_drop] at hm
      by_cases hz : (nxl (l.drop k)).2 = 0
      · have hrk : rk (l.drop k) = (1114112 + gl l k, 1) := by unfold rk; rw [if_pos hz, gl_drop, Nat.add_zero]
        have hup : up (1114112 + gl l k) = 2097152 + gl l k := by unfold up; rw [if_neg (by omega)]; omega
        have HN : Hid (marks l = (xs ++ [2097152 + gl l k]) ++ marks (l.drop (k + 1))) := by
          rw [hrk] at hm
          simp only [hup] at hm
          rw [hm, List.append_assoc]
          rfl
        rw [hlen.2.2.2 hz] at hcall
        have H := Lib.hid hcall
        clear hcall hlen hz hne hOd hld HM hm hrk hup
        obtain ⟨x, hx⟩ : ∃ x, x = gl l k := ⟨_, rfl⟩
        rw [← hx] at hcell HN hgk
        have hgk0 := hgk.1
        have hgk1 := hgk.2
        clear hx hgk
        go_wp2_with (first | (go_at_call 13; refine H.out.mono ?_; rintro e w2 ⟨rfl, hb2⟩; have hc2 := (hb2.cell (p := ⟨w.heap.size, k, none⟩) (by show w.heap.size < wr.heap.size; omega)).trans hcell; have hs2 := hb2.size; have HW2 := Lib.hid (own_below HW.out hb2)) | (at_builtin; refine wpList_append_i rfl _ _ rfl (w.heap.size + 1) _ xs.length xs rfl (own_below HW2.out ((Below.refl _ _).alloc (Nat.le_refl _) _)) ⟨w2.heap.size, 0, none⟩ 1 (2097152 + x) rfl ?_ ?_ ?_ ?_))
        · simp [Addr.add]
        · omega
        · simp; omega
        intro v3 w3 ho3 hb3
        go_wp2
        constructor
        · refine ⟨k + 1, xs ++ [2097152 + x], by go_num, by omega, by simp; omega, fun h => absurd h (by simp), ?_, HN.out, ?_⟩
          · rw [List.length_append]; exact ho3
          · exact (hb.trans (hb2.mono (by omega))).trans (((Below.refl _ _).alloc (by omega) _).trans hb3)
        · simp [intOf]; omega
      · obtain ⟨m, hmm⟩ := Int.eq_ofNat_of_zero_le hlen.1
        have hch : 0 ≤ (nxl (l.drop k)).1 ∧ (nxl (l.drop k)).1 ≤ 1114111 := by
          rcases nxl_is hOd with h | ⟨h, _⟩
          · have := ch_is_rune (hOd.gl 0).1 h; unfold IsRune at this; omega
          · rw [h] at hz; exact absurd rfl hz
        have hrk : rk (l.drop k) = nxl (l.drop k) := by unfold rk; rw [if_neg hz]
        have hup : up (nxl (l.drop k)).1 = (nxl (l.drop k)).1 := by unfold up; rw [if_pos (by omega)]
        have HN : Hid (marks l = (xs ++ [(nxl (l.drop k)).1]) ++ marks (l.drop (k + m))) := by
          rw [hrk, hmm] at hm
          simp only [hup] at hm
          rw [hm, List.append_assoc]
          rfl
        rw [hmm] at hcall hlen hz
        obtain ⟨hm1, hm2, hm3⟩ : m ≠ 0 ∧ m ≤ 4 ∧ k + m ≤ s.size := by omega
        have hmz : ((m : Int) == 0) = false := beq_eq_false_iff_ne.2 (by omega)
        have H := Lib.hid hcall
        clear hcall hlen hz hne hOd hld HM hm hrk hup hmm
        obtain ⟨x, hx⟩ : ∃ x, x = (nxl (l.drop k)).1 := ⟨_, rfl⟩
        rw [← hx] at H HN hch
        obtain ⟨hch0, hch1⟩ := hch
        clear hx hgk
        go_wp2_with (first | (go_at_call 13; refine H.out.mono ?_; rintro e w2 ⟨rfl, hb2⟩; have hc2 := (hb2.cell (p := ⟨w.heap.size, k, none⟩) (by show w.heap.size < wr.heap.size; omega)).trans hcell; have hs2 := hb2.size; have HW2 := Lib.hid (own_below HW.out hb2)) | (at_builtin; refine wpList_append_i rfl _ _ rfl (w.heap.size + 1) _ xs.length xs rfl (own_below HW2.out ((Below.refl _ _).alloc (Nat.le_refl _) _)) ⟨w2.heap.size, 0, none⟩ 1 (x) rfl ?_ ?_ ?_ ?_))
        · simp [Addr.add]
        · omega
        · simp; omega
        intro v3 w3 ho3 hb3
        go_wp2
        constructor
        · refine ⟨k + m, xs ++ [x], by go_num, by omega, by simp; omega, fun h => absurd h (by simp), ?_, HN.out, ?_⟩
          · rw [List.length_append]; exact ho3
          · exact (hb.trans (hb2.mono (by omega))).trans (((Below.refl _ _).alloc (by omega) _).trans hb3)
        · simp [intOf]; omega
    · have hkl' : k = s.size := by omega
      have hm := HM.out
      rw [hkl', ← hl, List.drop_length, marks_nil, List.append_nil] at hm
      have HI : Hid (Is wr u4 (marks l)) := by
        rw [hm]
        exact Is_own rfl HZ.out HW.out
      clear HM HZ HW hm hkl'
      go_wp2
      go_ret
      exact ⟨_, rfl, HI.out, HB0.out.trans (hb.mono (by omega))⟩
end Go.Proofs.YtbajejhhmacflaaDoor.utf
