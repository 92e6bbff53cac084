/- For every three texts UtfOrder answers true: the ways together. -/
import Derived.Test.YtbajejhhmacflaaDoorUtfOrder
namespace Go.Proofs.YtbajejhhmacflaaDoor.utf
open Go.PlainAid Go.ChangeShapes Go.WideShapes Go.ChangeAt Go.RowKit
theorem bytesLess_lx : ∀ (x y : List UInt8), Op.bytesLess x y = lx (x.map fun b => (b.toNat : Int)) (y.map fun b => (b.toNat : Int))
  | x, [] => by cases x <;> rfl
  | [], _ :: _ => rfl
  | a :: x, b :: y => by
    simp only [Op.bytesLess, List.map_cons, lx, bytesLess_lx x y]
    have e1 : decide (a < b) = decide ((a.toNat : Int) < (b.toNat : Int)) := by
      rw [Bool.eq_iff_iff]; simp [UInt8.lt_iff_toNat_lt]
    have e2 : (a == b) = ((a.toNat : Int) == (b.toNat : Int)) := by
      by_cases h : a = b
      · subst h; simp
      · have h2 : ¬ (a.toNat : Int) = (b.toNat : Int) := fun e => h (UInt8.toNat_inj.1 (by omega))
        rw [beq_eq_false_iff_ne.2 h, beq_eq_false_iff_ne.2 h2]
    rw [e1, e2]

theorem ints_inj {s t : ByteArray} (h : ints s = ints t) : s.toList = t.toList := by
  rw [ByteArray.toList_eq, ByteArray.toList_eq]
  unfold ints at h
  exact List.map_inj_right (f := fun b : UInt8 => (b.toNat : Int)) (fun x y e => UInt8.toNat_inj.1 (Int.ofNat_inj.1 e)) |>.1 h

theorem order_any (a b c : ByteArray) (w : World) (hs : a.size ≤ 140737488351232 ∧ b.size ≤ 140737488351232 ∧ c.size ≤ 140737488351232) (hF : Forms w) :
    Calls Tryd.prog 6 #[.string a, .string b, .string c] w fun e w' => e = .returned (.bool true) ∧ Below w.heap.size w w' := by
  by_cases hbig : 1000 < a.size + b.size + c.size
  · exact order_great a b c w hs.1 hs.2.1 hs.2.2 hF hbig
  have hsm : a.size + b.size + c.size ≤ 1000 := by omega
  have HL : Hid (∀ (s t : ByteArray) (W : World), s.size ≤ 1000 → t.size ≤ 1000 → Forms W → Calls Tryd.prog 24 #[.string s, .string t] W fun e w' => e = .returned (.bool ((fun s t => lx (ranks (ints s)) (ranks (ints t))) s t)) ∧ Below W.heap.size W w') :=
    fun s t W h1 h2 h3 => Less_any s t W (by unfold maxLen; omega) (by unfold maxLen; omega) h3
  have HC : Hid (∀ (s : ByteArray) (W : World), s.size ≤ 1000 → Forms W → Calls Tryd.prog 16 #[.slice (some ⟨W.heap.size, 0, none⟩) s.size (grownCap W s.size 0 5)] (Lib.bytesWorld W 5 s) fun e w' => e = .returned (.int .i64 ((fun s => chk (ints s)) s)) ∧ Below W.heap.size W w') := by
    intro s W h1 h2
    refine (Check_any _ (ints s) _ (ints_oct s) (by rw [ints_length]; unfold maxLen; omega) (Bs_conv W s) (h2.below (bytes_below W s _) h2.size)).mono ?_
    rintro e w' ⟨rfl, hb⟩
    exact ⟨rfl, (bytes_below W s _).trans (hb.mono (by rw [Lib.bytesWorld_size]; omega))⟩
  have haa : Hid (lx (ranks (ints a)) (ranks (ints a)) = false) := lx_self _
  have hql : ¬ 0 ≤ chk (ints a) → ¬ 0 ≤ chk (ints b) → Op.bytesLess a.toList b.toList = lx (ranks (ints a)) (ranks (ints b)) := by
    intro h1 h2
    have ga : chk (ints a) = -1 := by
      rcases chkF_range _ (ints_oct a) 0 (by decide) (Nat.le_refl _) with h | h
      · exact h
      · exact absurd h.1 h1
    have gb : chk (ints b) = -1 := by
      rcases chkF_range _ (ints_oct b) 0 (by decide) (Nat.le_refl _) with h | h
      · exact h
      · exact absurd h.1 h2
    rw [order_good _ 0 0 (Nat.le_refl _) (ints_oct a) (ints_oct b) (by decide) (by decide) ga gb, bytesLess_lx, ByteArray.toList_eq, ByteArray.toList_eq]
    rfl
  by_cases hx : lx (ranks (ints a)) (ranks (ints b)) = true
  · have hy := lx_asymm hx
    by_cases hz : lx (ranks (ints b)) (ranks (ints c)) = true
    · have hac := lx_trans hx hz
      by_cases hca : 0 ≤ chk (ints a)
      · exact order_xz_a a b c w _ _ hF hsm HL HC hx hy haa hz hac hca
      by_cases hcb : 0 ≤ chk (ints b)
      · exact order_xz_b a b c w _ _ hF hsm HL HC hx hy haa hz hac hca hcb
      · exact order_xz_n a b c w _ _ hF hsm HL HC hx hy haa hz hac hca hcb ((hql hca hcb).trans hx)
    · have hz' : lx (ranks (ints b)) (ranks (ints c)) = false := by simpa using hz
      by_cases hca : 0 ≤ chk (ints a)
      · exact order_xn_a a b c w _ _ hF hsm HL HC hx hy haa hz' hca
      by_cases hcb : 0 ≤ chk (ints b)
      · exact order_xn_b a b c w _ _ hF hsm HL HC hx hy haa hz' hca hcb
      · exact order_xn_n a b c w _ _ hF hsm HL HC hx hy haa hz' hca hcb ((hql hca hcb).trans hx)
  · have hx' : lx (ranks (ints a)) (ranks (ints b)) = false := by simpa using hx
    by_cases hy : lx (ranks (ints b)) (ranks (ints a)) = true
    · have hne : (a.toList == b.toList) = false := by
        rw [beq_eq_false_iff_ne]
        intro e
        have : ints a = ints b := by unfold ints; rw [ByteArray.toList_eq, ByteArray.toList_eq] at e; rw [e]
        rw [this, lx_self] at hy
        cases hy
      by_cases hca : 0 ≤ chk (ints a)
      · exact order_ny_a a b c w _ _ hF hsm HL HC hx' hy haa hne hca
      by_cases hcb : 0 ≤ chk (ints b)
      · exact order_ny_b a b c w _ _ hF hsm HL HC hx' hy haa hne hca hcb
      · exact order_ny_n a b c w _ _ hF hsm HL HC hx' hy haa hne hca hcb ((hql hca hcb).trans hx')
    · have hy' : lx (ranks (ints b)) (ranks (ints a)) = false := by simpa using hy
      have heq : (a.toList == b.toList) = true := by
        rw [beq_iff_eq]
        exact ints_inj (ranks_inj _ (Nat.le_refl _) (ints_oct a) (ints_oct b) (lx_total hx' hy'))
      by_cases hca : 0 ≤ chk (ints a)
      · exact order_nn_a a b c w _ _ hF hsm HL HC hx' hy' haa heq hca
      by_cases hcb : 0 ≤ chk (ints b)
      · exact order_nn_b a b c w _ _ hF hsm HL HC hx' hy' haa heq hca hcb
      · exact order_nn_n a b c w _ _ hF hsm HL HC hx' hy' haa heq hca hcb ((hql hca hcb).trans hx')

end Go.Proofs.YtbajejhhmacflaaDoor.utf
