/- A number's value, and that it tells the number. -/
import Derived.Test.YtpnhgggdjlglnaaDoorX4
namespace Go.Proofs.YtpnhgggdjlglnaaDoor.dk

/-- Far below every exponent that is met. -/
def low : Int := -4000
theorem low_eq : low = -4000 := rfl
/-- A number's digits' value, and its own, in units of ten to low. -/
def Nm.l (d : Nm) : List Int := unstr d.dg
def Nm.mag (d : Nm) : Int := nv d.l * 10 ^ (d.ex - low).toNat
def Nm.val (d : Nm) : Int := if d.neg then - d.mag else d.mag
structure Nm.Norm (d : Nm) : Prop where
  n : Nrm d.l
  z : d.l = [] → d.neg = false ∧ d.ex = 0
theorem unstr_inj {a b : ByteArray} (h : unstr a = unstr b) : a = b := by
  obtain ⟨⟨a⟩⟩ := a
  obtain ⟨⟨b⟩⟩ := b
  have : a = b := List.map_inj_right (fun x y e => UInt8.toNat_inj.1 (by omega)) |>.1 h
  rw [this]
theorem unstr_nil {a : ByteArray} (h : unstr a = []) : a = ⟨#[]⟩ := ba_nil (by rw [← unstr_length, h]; rfl)
theorem Nm.ext3 {a b : Nm} (h1 : a.neg = b.neg) (h2 : a.dg = b.dg) (h3 : a.ex = b.ex) : a = b := by
  obtain ⟨x, y, z⟩ := a
  obtain ⟨u, v, w⟩ := b
  cases h1
  cases h2
  cases h3
  rfl
theorem Nm.mag_nonneg {d : Nm} (h : Nrm d.l) : 0 ≤ d.mag := by
  have h1 := (nv_range d.l h.dig).1
  have h2 := ten_pos (d.ex - low).toNat
  exact Int.mul_nonneg h1 (by omega)
theorem Nm.mag_pos {d : Nm} (h : Nrm d.l) (h0 : d.l ≠ []) : 0 < d.mag := Int.mul_pos (h.pos0 h0) (ten_pos _)
theorem Nm.mag_zero {d : Nm} (h0 : d.l = []) : d.mag = 0 := by
  unfold Nm.mag
  rw [h0]
  exact Int.zero_mul _
/-- Of one value is one number. -/
theorem Nm.uniq {a b : Nm} (ha : a.Norm) (hb : b.Norm) (la : low ≤ a.ex) (lb : low ≤ b.ex) (h : a.val = b.val) : a = b := by
  by_cases ea : a.l = []
  · have ma := Nm.mag_zero ea
    have va : a.val = 0 := by
      unfold Nm.val
      rw [ma]
      split <;> rfl
    by_cases eb : b.l = []
    · obtain ⟨n1, x1⟩ := ha.z ea
      obtain ⟨n2, x2⟩ := hb.z eb
      exact Nm.ext3 (n1.trans n2.symm) (unstr_inj (ea.trans eb.symm)) (x1.trans x2.symm)
    · exfalso
      have mb := Nm.mag_pos hb.n eb
      rw [va] at h
      unfold Nm.val at h
      split at h <;> omega
  · have ma := Nm.mag_pos ha.n ea
    by_cases eb : b.l = []
    · exfalso
      have mb := Nm.mag_zero eb
      have vb : b.val = 0 := by
        unfold Nm.val
        rw [mb]
        split <;> rfl
      rw [vb] at h
      unfold Nm.val at h
      split at h <;> omega
    · have mb := Nm.mag_pos hb.n eb
      have hn : a.neg = b.neg ∧ a.mag = b.mag := by
        unfold Nm.val at h
        cases e1 : a.neg <;> cases e2 : b.neg <;> rw [e1, e2] at h <;> simp only [if_true, if_false, Bool.false_eq_true] at h
        · exact ⟨rfl, h⟩
        · omega
        · omega
        · exact ⟨rfl, by omega⟩
      obtain ⟨h1, h2⟩ := nrm_inj ha.n hb.n ea eb hn.2
      exact Nm.ext3 hn.1 (unstr_inj h1) (by omega)
theorem Nm.ok_norm {d : Nm} (h : d.ok = true) : d.Norm := by
  unfold Nm.ok dsane at h
  by_cases h0 : (unstr d.dg).length = 0
  · rw [if_pos h0] at h
    have e : d.l = [] := List.eq_nil_of_length_eq_zero h0
    refine ⟨⟨fun x hx => ?_, fun c t he => ?_, fun t c he => ?_⟩, fun _ => ?_⟩
    · rw [e] at hx
      cases hx
    · rw [e] at he
      cases he
    · rw [e] at he
      exact absurd he (by simp)
    · simpa using h
  · rw [if_neg h0] at h
    simp only [Bool.and_eq_true, decide_eq_true_eq, Bool.not_eq_true', decide_eq_false_iff_not] at h
    obtain ⟨⟨⟨⟨⟨h1, h2⟩, h3⟩, h4⟩, h5⟩, h6⟩ := h
    refine ⟨⟨fun x hx => List.all_eq_true.1 h4 x hx, fun c t he => ?_, fun t c he => ?_⟩, fun e => absurd (by show d.l.length = 0; rw [e]; rfl) h0⟩
    · intro hc
      apply h2
      show d.l.getD 0 0 = 48
      rw [he, hc]
      rfl
    · intro hc
      apply h3
      show d.l.getD (d.l.length - 1) 0 = 48
      rw [he, hc]
      simp
theorem Nm.ok_low {d : Nm} (h : d.ok = true) : -440 ≤ d.ex ∧ d.ex ≤ 400 ∧ d.dg.size ≤ 40 := by
  obtain ⟨a, b, c⟩ := dsane_any h
  exact ⟨b, c, a⟩
theorem fmN_l (neg : Bool) (s : ByteArray) (ex : Int) : (fmN neg s ex).l = tz (lz (unstr s)) := by
  show unstr (fdig s) = _
  unfold fdig
  split
  · rename_i h
    rw [← fsh_list, ba_nil h]
  · exact fsh_list s
/-- A form's value: that of its digits, at its exponent. -/
theorem fmN_norm (neg : Bool) (s : ByteArray) (ex : Int) (h : Digs (unstr s)) : (fmN neg s ex).Norm := by
  refine ⟨by rw [fmN_l]; exact nrm_strip h, fun e => ?_⟩
  rw [fmN_l, ← fsh_list] at e
  have hz : (fsh s).size = 0 := by rw [← unstr_length, e]; rfl
  show fneg neg s = false ∧ fexp s ex = 0
  unfold fneg fexp
  rw [if_pos hz, if_pos hz]
  exact ⟨rfl, rfl⟩
theorem fmN_ex (neg : Bool) (s : ByteArray) (ex : Int) (h0 : low ≤ ex) : low ≤ (fmN neg s ex).ex := by
  show low ≤ fexp s ex
  unfold fexp
  have := fsh_le s
  rw [low_eq] at *
  split <;> omega
theorem fmN_mag (neg : Bool) (s : ByteArray) (ex : Int) (h0 : low ≤ ex) : (fmN neg s ex).mag = nv (unstr s) * 10 ^ (ex - low).toNat := by
  have hs := nv_strip (unstr s)
  unfold Nm.mag
  rw [fmN_l]
  by_cases hz : (fsh s).size = 0
  · have e : tz (lz (unstr s)) = [] := by rw [← fsh_list, ba_nil hz]; rfl
    rw [e] at hs ⊢
    rw [hs]
    show 0 * _ = 0 * _ * _
    rw [Int.zero_mul, Int.zero_mul, Int.zero_mul]
  · have hx : (fmN neg s ex).ex = ex + ((fln s).size : Int) - ((fsh s).size : Int) := by
      show fexp s ex = _
      unfold fexp
      rw [if_neg hz]
    have l1 : (lz (unstr s)).length = (fln s).size := by rw [← fln_list, unstr_length]
    have l2 : (tz (lz (unstr s))).length = (fsh s).size := by rw [← fsh_list, unstr_length]
    have hle := fsh_le s
    rw [hs, hx, l1, l2, Int.mul_assoc, ← Int.pow_add]
    congr 2
    omega
theorem fmN_val (neg : Bool) (s : ByteArray) (ex : Int) (h0 : low ≤ ex) : (fmN neg s ex).val = if neg then - (nv (unstr s) * 10 ^ (ex - low).toNat) else nv (unstr s) * 10 ^ (ex - low).toNat := by
  have hm := fmN_mag neg s ex h0
  unfold Nm.val
  rw [hm]
  show (if fneg neg s then _ else _) = _
  unfold fneg
  by_cases hz : (fsh s).size = 0
  · have e : tz (lz (unstr s)) = [] := by rw [← fsh_list, ba_nil hz]; rfl
    have hs := nv_strip (unstr s)
    rw [e] at hs
    have : nv (unstr s) = 0 := by rw [hs]; exact Int.zero_mul _
    rw [this, Int.zero_mul]
    cases neg <;> simp
  · rw [if_neg hz]
end Go.Proofs.YtpnhgggdjlglnaaDoor.dk
