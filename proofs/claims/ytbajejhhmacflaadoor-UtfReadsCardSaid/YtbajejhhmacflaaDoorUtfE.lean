/- The contract of Less. -/
import Derived.Test.YtbajejhhmacflaaDoorUtfD
import Derived.Lib.Strings
import Derived.Lib.IndexBytes
namespace Go.Proofs.YtbajejhhmacflaaDoor.utf
open Go.PlainAid Go.ChangeShapes Go.WideShapes Go.ChangeAt Go.RowKit

def strSize : Value → Nat | .string s => s.size | _ => 0
theorem ints_drop (s : ByteArray) (k : Nat) : ints (s.extract k s.size) = (ints s).drop k := by
  unfold ints
  rw [Lib.extract_to_end, List.map_drop]
theorem ints_nil_of {s : ByteArray} (h : s.size = 0) : ints s = [] := List.length_eq_zero_iff.1 (by rw [ints_length]; exact h)
theorem ints_ne_of {s : ByteArray} (h : 0 < s.size) : ints s ≠ [] := fun e => by have := ints_length s; rw [e] at this; simp at this; omega

theorem toList_nil {s : ByteArray} (h : s.size = 0) : s.toList = [] := by
  rw [ByteArray.toList_eq]; exact List.length_eq_zero_iff.1 (by simpa using h)
theorem toList_ne {s : ByteArray} (h : 0 < s.size) : ¬ s.toList = [] := fun e => by
  rw [ByteArray.toList_eq] at e
  have : s.data.toList.length = s.size := by simp
  rw [e] at this; simp at this; omega
theorem isEmpty_ne {s : ByteArray} (h : 0 < s.size) : (!s.toList.isEmpty) = true := by simpa using toList_ne h

set_option maxHeartbeats 1000000 in
theorem Less_any (a b : ByteArray) (w : World) (ha : a.size ≤ maxLen) (hb : b.size ≤ maxLen) (hF : Forms w) :
    Calls Tryd.prog 24 #[.string a, .string b] w fun e w' => e = .returned (.bool (lx (ranks (ints a)) (ranks (ints b)))) ∧ Below w.heap.size w w' := by
  have HF := Lib.hid hF
  clear hF
  obtain ⟨v, hv⟩ : ∃ v, v = lx (ranks (ints a)) (ranks (ints b)) := ⟨_, rfl⟩
  have HV : Hid (v = lx (ranks (ints a)) (ranks (ints b))) := hv
  rw [← hv]
  clear hv
  go_enter Tryd.func24, Tryd.ntmps24
  go_wp2
  go_loopw [0, 1] (fun x y wr => ∃ s t : ByteArray, x = .string s ∧ y = .string t ∧ s.size ≤ maxLen ∧ t.size ≤ maxLen ∧ Hid (v = lx (ranks (ints s)) (ranks (ints t))) ∧ Below w.heap.size w wr) (fun x _ _ => strSize x)
  case atStart => exact ⟨a, b, rfl, rfl, ha, hb, HV, Below.refl _ _⟩
  case round =>
    clear HV ha hb
    obtain ⟨s, t, rfl, rfl, hs, ht, hN, hb⟩ := hrel
    have hbs := hb.size
    by_cases hte : t.size = 0
    · have hv : Hid (v = false) := by
        have := hN.out
        rw [ints_nil_of hte, ranks_nil] at this
        rw [this]; show lx _ [] = false; cases ranks (ints s) <;> rfl
      have hte' : t.toList = [] := toList_nil hte
      clear hN hte
      by_cases hse : s.toList = []
      · go_wp2
        go_ret
        exact ⟨ret_bool hv.out.symm, hb⟩
      · have hse' : (!s.toList.isEmpty) = true := by simpa using hse
        go_wp2
        go_ret
        exact ⟨ret_bool hv.out.symm, hb⟩
    have hte' : (!t.toList.isEmpty) = true := isEmpty_ne (by omega)
    have hte2 : ¬ t.toList = [] := toList_ne (by omega)
    by_cases hse : s.size = 0
    · have hv : Hid (v = true) := by
        have := hN.out
        rw [ints_nil_of hse, ranks_nil, ranks_step (ints_oct t) (ints_ne_of (by omega))] at this
        exact this
      have hse' : s.toList = [] := toList_nil hse
      clear hN hse hte
      go_wp2
      go_ret
      exact ⟨ret_bool hv.out.symm, hb⟩
    have hse' : (!s.toList.isEmpty) = true := isEmpty_ne (by omega)
    have hse2 : ¬ s.toList = [] := toList_ne (by omega)
    have H1 := Lib.hid (rank_any s wr hs (HF.out.below hb HF.out.size) (by omega))
    have H2 : ∀ W, Forms W → Calls Tryd.prog 41 #[.string t] W fun e w' => e = .returned (.tuple #[.int .i32 (rk (ints t)).1, .int .i64 (rk (ints t)).2]) ∧ Below W.heap.size W w' := fun W h => rank_any t W ht h (by omega)
    have ls := rk_len (ints_oct s) (ints_ne_of (by omega))
    have lt := rk_len (ints_oct t) (ints_ne_of (by omega))
    have hv := hN.out
    rw [ranks_step (ints_oct s) (ints_ne_of (by omega)), ranks_step (ints_oct t) (ints_ne_of (by omega)), ← ints_drop, ← ints_drop] at hv
    rw [ints_length] at ls lt
    clear hN
    revert H1 H2 ls lt hv
    generalize rk (ints s) = p
    generalize rk (ints t) = q
    obtain ⟨r1, n1⟩ := p
    obtain ⟨r2, n2⟩ := q
    intro H1 H2 ls lt hv
    obtain ⟨m1, e1⟩ := Int.eq_ofNat_of_zero_le (show 0 ≤ n1 by have := ls.1; simp only at this; omega)
    obtain ⟨m2, e2⟩ := Int.eq_ofNat_of_zero_le (show 0 ≤ n2 by have := lt.1; simp only at this; omega)
    subst e1
    subst e2
    simp only [Int.toNat_natCast] at hv ls lt
    obtain ⟨ls1, ls2⟩ := ls
    obtain ⟨lt1, lt2⟩ := lt
    have hm1 : m1 ≤ s.size := by omega
    have hm2 : m2 ≤ t.size := by omega
    have hs' := hs
    have ht' := ht
    unfold maxLen at hs' ht'
    have H2h := Lib.hid H2
    clear H2
    by_cases he : r1 = r2
    · have hv' : Hid (v = lx (ranks (ints (s.extract m1 s.size))) (ranks (ints (t.extract m2 t.size)))) := by
        rw [lx_eq he] at hv; exact hv
      have he' : (r1 != r2) = false := by simp [he]
      clear hv he hs ht hse hte
      go_wp2_with (go_at_call 41; refine H1.out.mono ?_)
      rintro e w1 rfl hb1
      have H2' := Lib.hid (H2h.out w1 (HF.out.below (hb.trans (hb1.mono hbs)) HF.out.size))
      go_wp2_with (go_at_call 41; refine H2'.out.mono ?_)
      rintro e w2 ⟨rfl, hb2⟩
      go_wp2
      go_quiet (fail)
      go_wp2
      have z1 : (s.extract m1 s.size).size = s.size - m1 := by simp
      have z2 : (t.extract m2 t.size).size = t.size - m2 := by simp
      exact ⟨⟨_, _, rfl, rfl, by unfold maxLen; omega, by unfold maxLen; omega, hv', below_drewN ((hb.trans (hb1.mono hbs)).trans (hb2.mono (by have := hb1.size; omega))) _⟩, by show (s.extract m1 s.size).size < s.size; omega⟩
    · have he' : (r1 != r2) = true := by simp [he]
      have hv' : Hid (v = decide (r1 < r2)) := by
        rcases Int.lt_or_gt_of_ne he with h | h
        · rw [lx_lt h] at hv; rw [hv]; exact (decide_eq_true h).symm
        · rw [lx_gt h] at hv; rw [hv]; exact (decide_eq_false (by omega)).symm
      clear hv he hs ht hse hte
      go_wp2_with (go_at_call 41; refine H1.out.mono ?_)
      rintro e w1 rfl hb1
      have H2' := Lib.hid (H2h.out w1 (HF.out.below (hb.trans (hb1.mono hbs)) HF.out.size))
      go_wp2_with (go_at_call 41; refine H2'.out.mono ?_)
      rintro e w2 ⟨rfl, hb2⟩
      go_wp2
      go_ret
      exact ⟨ret_bool hv'.out.symm, (hb.trans (hb1.mono hbs)).trans (hb2.mono (by have := hb1.size; omega))⟩
end Go.Proofs.YtbajejhhmacflaaDoor.utf
