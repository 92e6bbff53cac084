/- The contract of Count. -/
import Derived.Test.YtbajejhhmacflaaDoorUtfE
namespace Go.Proofs.YtbajejhhmacflaaDoor.utf
open Go.PlainAid Go.ChangeShapes Go.WideShapes Go.ChangeAt Go.RowKit

/-- 'Count': so many characters; a byte that begins none counts one. -/
def cntF : Nat → List Int → Int
  | 0, _ => 0
  | f + 1, l => if l = [] then 0 else 1 + cntF f (l.drop (rk l).2.toNat)
def cnt (l : List Int) : Int := cntF l.length l
theorem cntF_nil (f : Nat) : cntF f [] = 0 := by cases f <;> simp [cntF]
theorem cntF_fuel : ∀ (f g : Nat) {l : List Int} (_ : Oct l), l.length ≤ f → l.length ≤ g → cntF f l = cntF g l := by
  intro f
  induction f with
  | zero => intro g l _ hl _; rw [List.length_eq_zero_iff.1 (Nat.le_zero.1 hl), cntF_nil, cntF_nil]
  | succ f ih =>
    intro g l h hl hg
    by_cases hn : l = []
    · rw [hn, cntF_nil, cntF_nil]
    cases g with
    | zero => exact absurd (List.length_eq_zero_iff.1 (Nat.le_zero.1 hg)) hn
    | succ g =>
      have hm := rk_len h hn
      unfold cntF
      rw [if_neg hn, if_neg hn, ih g (h.drop _) (by simp; omega) (by simp; omega)]
theorem cnt_nil : cnt [] = 0 := rfl
theorem cnt_step {l : List Int} (h : Oct l) (hn : l ≠ []) : cnt l = 1 + cnt (l.drop (rk l).2.toNat) := by
  have hm := rk_len h hn
  have hl : 0 < l.length := List.length_pos_iff.2 hn
  unfold cnt
  obtain ⟨f, hf⟩ : ∃ f, l.length = f + 1 := ⟨l.length - 1, by omega⟩
  rw [hf]
  conv => lhs; unfold cntF
  rw [if_neg hn, cntF_fuel f _ (h.drop _) (by simp; omega) (Nat.le_refl _)]
theorem cnt_range : ∀ (n : Nat) {l : List Int}, l.length ≤ n → Oct l → 0 ≤ cnt l ∧ cnt l ≤ l.length := by
  intro n
  induction n with
  | zero => intro l hl _; rw [List.length_eq_zero_iff.1 (Nat.le_zero.1 hl)]; exact ⟨by decide, by decide⟩
  | succ n ih =>
    intro l hl h
    by_cases hn : l = []
    · rw [hn]; exact ⟨by decide, by decide⟩
    have hm := rk_len h hn
    have := ih (l := l.drop (rk l).2.toNat) (by simp; omega) (h.drop _)
    have hd : ((l.drop (rk l).2.toNat).length : Int) = l.length - (rk l).2 := by simp; omega
    rw [cnt_step h hn]
    omega

set_option maxHeartbeats 1000000 in
theorem Count_any (a : ByteArray) (w : World) (ha : a.size ≤ maxLen) (hF : Forms w) :
    Calls Tryd.prog 18 #[.string a] w fun e w' => e = .returned (.int .i64 (cnt (ints a))) ∧ Below w.heap.size w w' := by
  have HF := Lib.hid hF
  clear hF
  have hc := cnt_range _ (Nat.le_refl _) (ints_oct a)
  rw [ints_length] at hc
  obtain ⟨v, hv⟩ : ∃ v, v = cnt (ints a) := ⟨_, rfl⟩
  have HV : Hid (v = 0 + cnt (ints a)) := by rw [Int.zero_add]; exact hv
  rw [← hv] at hc ⊢
  clear hv
  unfold maxLen at ha
  obtain ⟨hv0, hv1⟩ := hc
  go_enter Tryd.func18, Tryd.ntmps18
  go_wp2
  go_loopw [0, 3] (fun x k wr => ∃ (s : ByteArray) (m : Int), x = .string s ∧ k = .int .i64 m ∧ s.size ≤ a.size ∧ 0 ≤ m ∧ Hid (v = m + cnt (ints s)) ∧ Below w.heap.size w wr) (fun x _ _ => strSize x)
  case atStart => exact ⟨a, 0, rfl, rfl, Nat.le_refl _, by omega, HV, Below.refl _ _⟩
  case round =>
    clear HV
    obtain ⟨s, m, rfl, rfl, hs, hm0, hN, hb⟩ := hrel
    have hbs := hb.size
    by_cases hse : s.size = 0
    · have hv : Hid (v = m) := by
        have := hN.out
        rw [ints_nil_of hse, cnt_nil] at this
        rw [this]; show m + 0 = m; omega
      have hse' : s.toList = [] := toList_nil hse
      clear hN hse
      go_wp2
      go_ret
      exact ⟨ret_int hv.out.symm, hb⟩
    have hse' : (!s.toList.isEmpty) = true := isEmpty_ne (by omega)
    have hse2 : ¬ s.toList = [] := toList_ne (by omega)
    have hsm : s.size ≤ maxLen := by unfold maxLen; omega
    have H1 := nextS_any s wr hsm (HF.out.below hb HF.out.size)
    have ls := rk_len (ints_oct s) (ints_ne_of (by omega))
    have ln := nxl_len (ints_oct s)
    have hv := hN.out
    have hcr := cnt_range _ (Nat.le_refl _) ((ints_oct s).drop (rk (ints s)).2.toNat)
    rw [cnt_step (ints_oct s) (ints_ne_of (by omega))] at hv
    have hrk : (rk (ints s)).2 = max (nxl (ints s)).2 1 := by
      unfold rk
      by_cases hz : (nxl (ints s)).2 = 0
      · rw [if_pos hz, hz]; rfl
      · rw [if_neg hz]; omega
    rw [hrk] at ls hv hcr
    rw [← ints_drop] at hv hcr
    rw [ints_length] at ls ln
    revert H1 ls hv ln hcr
    generalize nxl (ints s) = p
    obtain ⟨r1, n1⟩ := p
    intro H1 ls ln hv hcr
    obtain ⟨k1, hk1⟩ := Int.eq_ofNat_of_zero_le (show 0 ≤ max n1 1 by omega)
    simp only at hv ls hcr
    rw [hk1] at hv ls hcr
    simp only [Int.toNat_natCast] at hv hcr
    have hmax : (max n1 1).toNat = k1 := by omega
    have hle : k1 ≤ s.size := by omega
    have hle1 : 1 ≤ k1 := by omega
    have hmb : m + 1 ≤ 9223372036854775807 := by
      have : m + 1 ≤ v := by omega
      omega
    have HK := Lib.hid hk1
    have HVv : Hid (v = (m + 1) + cnt (ints (s.extract k1 s.size))) := by rw [hv]; show m + (1 + _) = m + 1 + _; omega
    have HH := Lib.hid H1
    clear hk1 H1 hv ls ln hcr hrk hN hse
    go_wp2_with (go_at_call 32; refine HH.out.mono ?_; rintro e w1 ⟨rfl, hb1⟩)
    have z1 : (s.extract k1 s.size).size = s.size - k1 := by simp
    exact ⟨⟨_, _, rfl, rfl, by omega, by omega, HVv, hb.trans (hb1.mono hbs)⟩, by show (s.extract k1 s.size).size < s.size; omega⟩
end Go.Proofs.YtbajejhhmacflaaDoor.utf
