/- The document's Mul answers as the program's. -/
import Derived.Test.YtpnhgggdjlglnaaDoorRc
import Derived.Test.YtpnhgggdjlglnaaDoorC1
import Derived.Deep.DeepCutAuto
import Derived.Deep.CutBlock
namespace Go.Proofs.YtpnhgggdjlglnaaDoor.dk
open Go.PlainAid Go.ChangeShapes Go.WideShapes Go.ChangeAt Go.RowKit

/-- A text of n digits, whose value is v. -/
structure AllP (n : Nat) (v : Int) (s : ByteArray) : Prop where
  size : s.size = n
  digs : Digs (unstr s)
  val : nv (unstr s) = v
theorem AllP.step {n : Nat} {v u : Int} {s x : ByteArray} (h : AllP n v s) (hx : AllP n u x) (hlt : v + u < 10 ^ n) : AllP n (v + u) ((plusB s x).extract 1 (plusB s x).size) := by
  have hn : x.size = s.size := hx.size.trans h.size.symm
  have hv := plus_val h.digs hx.digs hn
  have ht := plus_text h.digs hx.digs hn
  have hd := plus_digs h.digs hx.digs hn
  have hs : (plusB s x).size = n + 1 := by rw [plus_size, h.size]
  have hc := plus_carry h.digs hx.digs hn s.size (Nat.le_refl _)
  have hcut := cut_post (plusB s x) 1 (by omega)
  have hlen := psum_len (plusF s x) s.size
  rw [ht] at hv hcut
  have hr := nv_range _ (show Digs (psum (plusF s x) s.size).2 from psum_dig _ _)
  have e : nv ((48 + (psum (plusF s x) s.size).1) :: (psum (plusF s x) s.size).2) = (48 + (psum (plusF s x) s.size).1 - 48) * 10 ^ (psum (plusF s x) s.size).2.length + nv (psum (plusF s x) s.size).2 := rfl
  rw [e, hlen, h.size, h.val, hx.val] at hv
  rw [hlen, h.size] at hr
  rw [h.size] at hc hcut hlen
  have hcut2 : unstr ((plusB s x).extract 1 (plusB s x).size) = (psum (plusF s x) n).2 := hcut
  generalize (psum (plusF s x) n).1 = C at hv hc
  rcases (show C = 0 ∨ C = 1 by omega) with rfl | rfl
  · refine ⟨by rw [ByteArray.size_extract]; omega, by rw [hcut2]; exact psum_dig _ _, ?_⟩
    rw [hcut2, ← hv]
    simp
  · exfalso
    have h0 : (0 : Int) ≤ nv (psum (plusF s x) n).2 := (nv_range _ (show Digs (psum (plusF s x) n).2 from psum_dig _ _)).1
    rw [show (48 + 1 - 48 : Int) = 1 by decide, Int.one_mul] at hv
    omega
structure RW (w : World) (n1 n2 : Bool) (d1 d2 : ByteArray) (e1 e2 : Int) (W : World) : Prop where
  r1 : W.heap[w.heap.size]? = some (.cells #[.bool n1, .string d1, .int .i64 e1] 23 (0, 0))
  r2 : W.heap[w.heap.size + 1]? = some (.cells #[.bool n2, .string d2, .int .i64 e2] 23 (0, 0))
  r3 : W.heap[w.heap.size + 1 + 1]? = some (.cells #[.bool false, .string ⟨#[]⟩, .int .i64 0] 23 (0, 0))
  b : Below w.heap.size w W
theorem RW.below {w : World} {n1 n2 : Bool} {d1 d2 : ByteArray} {e1 e2 : Int} {W V : World} (h : RW w n1 n2 d1 d2 e1 e2 W) (hb : Below W.heap.size W V) : RW w n1 n2 d1 d2 e1 e2 V :=
  ⟨(hb.block _ (lt_of_block h.r1)).trans h.r1, (hb.block _ (lt_of_block h.r2)).trans h.r2, (hb.block _ (lt_of_block h.r3)).trans h.r3, h.b.trans (hb.mono h.b.size)⟩
/-- What has been summed up before digit i, and before its k-th time. -/
def mB (l1 l2 : List Int) (i : Nat) : Int := nv l1 * (nv (l2.take i) * 10 ^ (l2.length - i))
def mX (l1 l2 : List Int) (i : Nat) : Int := nv l1 * 10 ^ (l2.length - 1 - i)
theorem mB_next (l1 l2 : List Int) (i : Nat) (h : i < l2.length) : mB l1 l2 (i + 1) = mB l1 l2 i + (l2.getD i 0 - 48) * mX l1 l2 i := by
  unfold mB mX
  rw [List.take_add_one, List.getElem?_eq_getElem h, show l2.length - i = (l2.length - 1 - i) + 1 by omega, show l2.length - (i + 1) = l2.length - 1 - i by omega, Int.pow_succ]
  show nv l1 * (nv (List.take i l2 ++ [l2[i]]) * _) = _
  rw [nv_last, List.getD_eq_getElem?_getD, List.getElem?_eq_getElem h]
  show nv l1 * ((nv (List.take i l2) * 10 + (l2[i] - 48)) * 10 ^ (l2.length - 1 - i)) = nv l1 * (nv (List.take i l2) * (10 ^ (l2.length - 1 - i) * 10)) + (l2[i] - 48) * (nv l1 * 10 ^ (l2.length - 1 - i))
  generalize (10 : Int) ^ (l2.length - 1 - i) = P
  generalize nv (List.take i l2) = t
  generalize l2[i] - 48 = c
  generalize nv l1 = a
  rw [Int.add_mul, Int.mul_add, Int.mul_left_comm c a P, Int.mul_assoc t 10 P, Int.mul_comm 10 P]
theorem mB_all (l1 l2 : List Int) : mB l1 l2 l2.length = nv l1 * nv l2 := by
  unfold mB
  rw [List.take_length, Nat.sub_self, Int.pow_zero, Int.mul_one]
theorem mB_lt {l1 l2 : List Int} (h1 : Digs l1) (h2 : Digs l2) (i : Nat) (h : i ≤ l2.length) : mB l1 l2 i < 10 ^ (l1.length + l2.length) := by
  have r1 := nv_range l1 h1
  have r2 := nv_range (l2.take i) (fun x hx => h2 x (List.mem_of_mem_take hx))
  rw [List.length_take, show min i l2.length = i by omega] at r2
  unfold mB
  have p1 := ten_pos (l2.length - i)
  have s1 := Int.mul_lt_mul_of_pos_right r2.2 p1
  rw [← Int.pow_add, show i + (l2.length - i) = l2.length by omega] at s1
  have s0 := Int.mul_nonneg r2.1 (Int.le_of_lt p1)
  generalize nv (List.take i l2) * 10 ^ (l2.length - i) = t at *
  rw [Int.pow_add]
  have s2 := Int.mul_le_mul_of_nonneg_right (show nv l1 ≤ 10 ^ l1.length by omega) s0
  have s3 := Int.mul_lt_mul_of_pos_left s1 (ten_pos l1.length)
  omega
theorem mX_nonneg {l1 l2 : List Int} (h1 : Digs l1) (i : Nat) : 0 ≤ mX l1 l2 i := Int.mul_nonneg (nv_range l1 h1).1 (Int.le_of_lt (ten_pos _))
theorem ref_mul {a b : Nm} (ha : a.ok = true) (hb : b.ok = true) {s : ByteArray} (hd : Digs (unstr s)) (hv : nv (unstr s) = nv a.l * nv b.l) : fmN (a.neg != b.neg) s (a.ex + b.ex) = mulN a b := by
  have la := Nm.ok_low ha
  have lb := Nm.ok_low hb
  have na := Nm.ok_norm ha
  have nb := Nm.ok_norm hb
  have e : low ≤ a.ex + b.ex := by rw [low_eq]; omega
  refine Nm.uniq (fmN_norm _ _ _ hd) (mulN_norm a b) (fmN_ex _ _ _ e) (fmN_ex _ _ _ e) ?_
  rw [fmN_val _ _ _ e, hv]
  show _ = (fmN _ _ _).val
  rw [fmN_val _ _ _ e, unstr_pdig, pdig_val _ _ _ _ na.n.dig nb.n.dig]
  rfl
set_option maxRecDepth 100000 in
set_option maxHeartbeats 4000000 in
theorem mulr_bad1 (w : World) (n1 n2 : Bool) (d1 d2 : ByteArray) (e1 e2 : Int) (s1 : d1.size ≤ 1000000) (s2 : d2.size ≤ 1000000) (h1 : dsane n1 (unstr d1) e1 = false) :
    Calls Tryd.prog 14 #[.agg #[.bool n1, .string d1, .int .i64 e1], .agg #[.bool n2, .string d2, .int .i64 e2]] w fun e w' => e = .returned (.tuple #[.agg #[.bool false, .string ⟨#[]⟩, .int .i64 0], .int .i64 1]) ∧ Below w.heap.size w w' := by
  obtain ⟨wa, hwa, r1, r2, r3, hB⟩ := three_rows_at w n1 n2 d1 d2 e1 e2
  have HS1 := Lib.hid (fun v => sane_ref v n1 d1 e1 (by omega))
  have HS2 := Lib.hid (fun v => sane_ref v n2 d2 e2 (by omega))
  have HW := Lib.hid hwa
  have HR1 := Lib.hid r1
  have HR2 := Lib.hid r2
  have HR3 := Lib.hid r3
  have HB := Lib.hid hB
  obtain ⟨⟨x0, x1, x2⟩, _⟩ := row3 r1
  clear hwa r1 r2 r3 hB
  rw [h1] at HS1
  clear h1
  go_enter Tryd.func14, Tryd.ntmps14
  go_upto_region 1 with fail
  rw [← HW.out]
  clear HW
  go_wp2_with fail
  with_reducible refine (HS1.out _).mono ?_
  rintro e w2 ⟨rfl, hb2⟩
  have HT1 := Lib.hid ((hb2.block _ (lt_of_block HR1.out)).trans HR1.out)
  have HT2 := Lib.hid ((hb2.block _ (lt_of_block HR2.out)).trans HR2.out)
  have HT3 := Lib.hid ((hb2.block _ (lt_of_block HR3.out)).trans HR3.out)
  have HK := Lib.hid (HB.out.trans (hb2.mono HB.out.size))
  clear x0 x1 x2 hb2 HR1 HR2 HR3 HB
  obtain ⟨⟨z0, z1, z2⟩, f0, f1, f2⟩ := row3 HT3.out
  have hS := set3 (v0 := (.bool false)) (v1 := (.string ⟨#[]⟩)) (v2 := (.int .i64 0)) HT3.out (by omega) HK.out
  have HS := Lib.hid hS
  clear hS HT3 HK
  go_wp2_with fail
  refine bodyPost_ret (results_row_tmp rfl _ _ (w.heap.size + 1 + 1) _ _ _ _ rfl HS.out.1 Tryd.underlying23 rfl (by kernel_rfl)) rfl ⟨rfl, HS.out.2⟩
set_option maxRecDepth 100000 in
set_option maxHeartbeats 4000000 in
theorem mulr_bad2 (w : World) (n1 n2 : Bool) (d1 d2 : ByteArray) (e1 e2 : Int) (s1 : d1.size ≤ 1000000) (s2 : d2.size ≤ 1000000) (h1 : dsane n1 (unstr d1) e1 = true) (h2 : dsane n2 (unstr d2) e2 = false) :
    Calls Tryd.prog 14 #[.agg #[.bool n1, .string d1, .int .i64 e1], .agg #[.bool n2, .string d2, .int .i64 e2]] w fun e w' => e = .returned (.tuple #[.agg #[.bool false, .string ⟨#[]⟩, .int .i64 0], .int .i64 1]) ∧ Below w.heap.size w w' := by
  obtain ⟨wa, hwa, r1, r2, r3, hB⟩ := three_rows_at w n1 n2 d1 d2 e1 e2
  have HS1 := Lib.hid (fun v => sane_ref v n1 d1 e1 (by omega))
  have HS2 := Lib.hid (fun v => sane_ref v n2 d2 e2 (by omega))
  have HW := Lib.hid hwa
  have HR1 := Lib.hid r1
  have HR2 := Lib.hid r2
  have HR3 := Lib.hid r3
  have HB := Lib.hid hB
  obtain ⟨⟨x0, x1, x2⟩, _⟩ := row3 r1
  clear hwa r1 r2 r3 hB
  rw [h1] at HS1
  rw [h2] at HS2
  clear h1 h2
  go_enter Tryd.func14, Tryd.ntmps14
  go_upto_region 1 with fail
  rw [← HW.out]
  clear HW
  go_wp2_with fail
  with_reducible refine (HS1.out _).mono ?_
  rintro e w2 ⟨rfl, hb2⟩
  have HT1 := Lib.hid ((hb2.block _ (lt_of_block HR1.out)).trans HR1.out)
  have HT2 := Lib.hid ((hb2.block _ (lt_of_block HR2.out)).trans HR2.out)
  have HT3 := Lib.hid ((hb2.block _ (lt_of_block HR3.out)).trans HR3.out)
  have HK := Lib.hid (HB.out.trans (hb2.mono HB.out.size))
  clear x0 x1 x2 hb2 HR1 HR2 HR3 HB
  obtain ⟨⟨y0, y1, y2⟩, _⟩ := row3 HT2.out
  go_wp2_with fail
  with_reducible refine (HS2.out _).mono ?_
  rintro e w3 ⟨rfl, hb3⟩
  have HR1 := Lib.hid ((hb3.block _ (lt_of_block HT1.out)).trans HT1.out)
  have HR2 := Lib.hid ((hb3.block _ (lt_of_block HT2.out)).trans HT2.out)
  have HR3 := Lib.hid ((hb3.block _ (lt_of_block HT3.out)).trans HT3.out)
  have HB := Lib.hid (HK.out.trans (hb3.mono HK.out.size))
  clear y0 y1 y2 hb3 HT1 HT2 HT3 HK HS1 HS2
  obtain ⟨⟨z0, z1, z2⟩, f0, f1, f2⟩ := row3 HR3.out
  have hS := set3 (v0 := (.bool false)) (v1 := (.string ⟨#[]⟩)) (v2 := (.int .i64 0)) HR3.out (by omega) HB.out
  have HS := Lib.hid hS
  clear hS HR3 HB
  go_wp2_with fail
  refine bodyPost_ret (results_row_tmp rfl _ _ (w.heap.size + 1 + 1) _ _ _ _ rfl HS.out.1 Tryd.underlying23 rfl (by kernel_rfl)) rfl ⟨rfl, HS.out.2⟩
set_option maxRecDepth 100000 in
set_option maxHeartbeats 4000000 in
theorem mulr_ok (w : World) (n1 n2 : Bool) (d1 d2 : ByteArray) (e1 e2 : Int) (s1 : d1.size ≤ 1000000) (s2 : d2.size ≤ 1000000) (h1 : dsane n1 (unstr d1) e1 = true) (h2 : dsane n2 (unstr d2) e2 = true) :
    Calls Tryd.prog 14 #[.agg #[.bool n1, .string d1, .int .i64 e1], .agg #[.bool n2, .string d2, .int .i64 e2]] w fun e w' => e = .returned (pairV (mulN ⟨n1, d1, e1⟩ ⟨n2, d2, e2⟩).told) ∧ Below w.heap.size w w' := by
  have oa : (⟨n1, d1, e1⟩ : Nm).ok = true := h1
  have ob : (⟨n2, d2, e2⟩ : Nm).ok = true := h2
  obtain ⟨k11, k12, k13⟩ := dsane_any h1
  obtain ⟨k21, k22, k23⟩ := dsane_any h2
  have u1 : Digs (unstr d1) := (Nm.ok_norm oa).n.dig
  have u2 : Digs (unstr d2) := (Nm.ok_norm ob).n.dig
  obtain ⟨⟨⟨tn, td, te⟩, tc⟩, htp⟩ : ∃ p, (mulN ⟨n1, d1, e1⟩ ⟨n2, d2, e2⟩).told = p := ⟨_, rfl⟩
  rw [htp]
  have HM := Lib.hid (fun (s : ByteArray) hd hv => ref_mul oa ob (s := s) hd hv)
  have HTp := Lib.hid htp
  have HG := Lib.hid (And.intro u1 u2)
  have HK0 := Lib.hid (And.intro k11 (And.intro k21 (And.intro k12 (And.intro k13 (And.intro k22 k23)))))
  obtain ⟨n, hn⟩ : ∃ n : Nat, n = d1.size + d2.size := ⟨_, rfl⟩
  have HNn := Lib.hid hn
  have wn : IntKind.i64.wrap ((d1.size : Int) + (d2.size : Int)) = (n : Int) := by rw [IntKind.wrap_i64]; omega
  have HZ0 := Lib.hid (fun v => zeros_ref v (n : Int) (by omega) (by omega))
  rw [show (n : Int).toNat = n by omega] at HZ0
  have hZ : AllP n (mB (unstr d1) (unstr d2) 0) (zers n) := ⟨zers_size n, by rw [zers_list]; exact zeros_digs n, by
    rw [zers_list, nv_zeros]
    show 0 = nv (unstr d1) * (0 * _)
    rw [Int.zero_mul, Int.mul_zero]⟩
  have HZP := Lib.hid hZ
  have HL1 := Lib.hid (And.intro (unstr_length d1) (unstr_length d2))
  unfold pairV
  clear oa ob u1 u2 htp hn hZ k11 k12 k13 k21 k22 k23
  obtain ⟨wa, hwa, r1, r2, r3, hB⟩ := three_rows_at w n1 n2 d1 d2 e1 e2
  have HS1 := Lib.hid (fun v => sane_ref v n1 d1 e1 (by omega))
  have HS2 := Lib.hid (fun v => sane_ref v n2 d2 e2 (by omega))
  have HW := Lib.hid hwa
  have HR1 := Lib.hid r1
  have HR2 := Lib.hid r2
  have HR3 := Lib.hid r3
  have HB := Lib.hid hB
  obtain ⟨⟨x0, x1, x2⟩, _⟩ := row3 r1
  clear hwa r1 r2 r3 hB
  rw [h1] at HS1
  rw [h2] at HS2
  clear h1 h2
  go_enter Tryd.func14, Tryd.ntmps14
  go_upto_region 1 with fail
  rw [← HW.out]
  clear HW
  go_wp2_with fail
  with_reducible refine (HS1.out _).mono ?_
  rintro e w2 ⟨rfl, hb2⟩
  have HT1 := Lib.hid ((hb2.block _ (lt_of_block HR1.out)).trans HR1.out)
  have HT2 := Lib.hid ((hb2.block _ (lt_of_block HR2.out)).trans HR2.out)
  have HT3 := Lib.hid ((hb2.block _ (lt_of_block HR3.out)).trans HR3.out)
  have HK := Lib.hid (HB.out.trans (hb2.mono HB.out.size))
  clear x0 x1 x2 hb2 HR1 HR2 HR3 HB
  obtain ⟨⟨y0, y1, y2⟩, _⟩ := row3 HT2.out
  go_wp2_with fail
  with_reducible refine (HS2.out _).mono ?_
  rintro e w3 ⟨rfl, hb3⟩
  have HR1 := Lib.hid ((hb3.block _ (lt_of_block HT1.out)).trans HT1.out)
  have HR2 := Lib.hid ((hb3.block _ (lt_of_block HT2.out)).trans HT2.out)
  have HR3 := Lib.hid ((hb3.block _ (lt_of_block HT3.out)).trans HT3.out)
  have HB := Lib.hid (HK.out.trans (hb3.mono HK.out.size))
  clear y0 y1 y2 hb3 HT1 HT2 HT3 HK HS1 HS2
  have HRW := Lib.hid (show RW w n1 n2 d1 d2 e1 e2 w3 from ⟨HR1.out, HR2.out, HR3.out, HB.out⟩)
  obtain ⟨⟨p0, p1, p2⟩, _⟩ := row3 HR1.out
  obtain ⟨⟨q0, q1, q2⟩, _⟩ := row3 HR2.out
  clear HR1 HR2 HR3 HB
  go_wp2_with fail
  with_reducible refine (HZ0.out _).mono ?_
  rintro e w4 ⟨rfl, rfl⟩
  go_wp2_with fail
  clear p0 p1 p2 q0 q1 q2
  go_loopw [7, 8] (fun sv iv wr => ∃ (s : ByteArray) (i : Nat), i ≤ d2.size ∧ sv = .string s ∧ iv = .int .i64 (i : Int) ∧ Hid (AllP n (mB (unstr d1) (unstr d2) i) s) ∧ Hid (RW w n1 n2 d1 d2 e1 e2 wr)) (fun _ iv _ => d2.size - (intOf iv).toNat)
  case atStart => exact ⟨zers n, 0, Nat.zero_le _, rfl, rfl, HZP, HRW⟩
  case round =>
    obtain ⟨s, i, hi, rfl, rfl, HA, HI⟩ := hrel
    by_cases hin : i < d2.size
    · have di : decide ((i : Int) < (d2.size : Int)) = true := decide_eq_true (by omega)
      have din : decide (i < d2.size) = true := decide_eq_true hin
      have hk0 := HK0.out
      have hnn := HNn.out
      have hl1 := HL1.out
      obtain ⟨z, hz⟩ : ∃ z : Nat, z = d2.size - 1 - i := ⟨_, rfl⟩
      have wz1 : IntKind.i64.wrap ((d2.size : Int) - 1) = (d2.size : Int) - 1 := by rw [IntKind.wrap_i64]; omega
      have wz2 : IntKind.i64.wrap ((d2.size : Int) - 1 - (i : Int)) = (z : Int) := by rw [IntKind.wrap_i64]; omega
      have wi : IntKind.i64.wrap ((i : Int) + 1) = (i : Int) + 1 := by rw [IntKind.wrap_i64]; omega
      have HZ := Lib.hid (fun v => zeros_ref v (z : Int) (by omega) (by omega))
      rw [show (z : Int).toNat = z by omega] at HZ
      have zz := zers_size z
      have cz : ¬ 9223372036854775807 < d1.size + (zers z).size := by rw [zz]; omega
      have HWd := Lib.hid (fun v => wide_ref v (d1 ++ zers z) n (by rw [ByteArray.size_append, zz]; omega) (by omega))
      have HXp : Hid (AllP n (mX (unstr d1) (unstr d2) i) (wideB (d1 ++ zers z) n)) := by
        refine ⟨wide_size _ _ (by rw [ByteArray.size_append, zz]; omega), wide_digs ?_, ?_⟩
        · rw [unstr_app, zers_list]
          exact Digs.append HG.out.1 (zeros_digs _)
        · rw [wide_nv, unstr_app, zers_list, nv_append, nv_zeros, List.length_replicate, Int.add_zero]
          unfold mX
          rw [hl1.2, hz]
      generalize wideB (d1 ++ zers z) n = X at HWd HXp
      generalize zers z = ZZ at HZ HWd cz
      obtain ⟨⟨p0, p1, p2⟩, _⟩ := row3 HI.out.r1
      obtain ⟨⟨q0, q1, q2⟩, _⟩ := row3 HI.out.r2
      have eB := byte_at d2 i hin
      have rB := dig_range (HG.out.2 ((unstr d2).getD i 0) (by rw [List.getD_eq_getElem?_getD, List.getElem?_eq_getElem (by omega)]; exact List.getElem_mem _))
      rw [← eB] at rB
      obtain ⟨q, hq⟩ : ∃ q : Nat, (q : Int) = ((d2[i].toNat : Nat) : Int) - 48 := ⟨(((d2[i].toNat : Nat) : Int) - 48).toNat, by omega⟩
      have wq1 : IntKind.u8.wrap (((d2[i].toNat : Nat) : Int) - 48) = (q : Int) := by rw [IntKind.wrap_u8]; omega
      have wq2 : IntKind.i64.wrap (q : Int) = (q : Int) := by rw [IntKind.wrap_i64]; omega
      have HNx : Hid (mB (unstr d1) (unstr d2) (i + 1) = mB (unstr d1) (unstr d2) i + (q : Int) * mX (unstr d1) (unstr d2) i) := by
        have := mB_next (unstr d1) (unstr d2) i (by omega)
        rw [← eB, ← hq] at this
        exact this
      have HLt : Hid (mB (unstr d1) (unstr d2) (i + 1) < 10 ^ n) := by
        have := mB_lt HG.out.1 HG.out.2 (i + 1) (by omega)
        rw [hl1.1, hl1.2, ← hnn] at this
        exact this
      have HXn := Lib.hid (mX_nonneg (l2 := unstr d2) HG.out.1 i)
      have HQ9 := Lib.hid (show q ≤ 9 by omega)
      clear hk0 hnn hl1 hz zz eB rB hq
      go_upto_region 8 with fail
      clear p0 p1 p2 q0 q1 q2
      refine wp_region_held_drew (S := (fun W : World => W = wr.drew)) (by kernel_rfl) rfl (fun hHeld => ?_)
      clear hHeld
      have HD := Lib.hid (HI.out.below (Below.refl wr.heap.size wr).drew)
      generalize wr.drew = wd at HD ⊢
      have hT : (fun W : World => W = wd) wd := rfl
      clear HI
      refine wpAnyH_take (i := 0) (oi := { dst := some 36, op := Op.fieldAddr 23 (Operand.tmp 2) 1, type := 0, pos := "ref.go:272", after := #[], guard := none }) (v := ?_) rfl (by kernel_rfl) (by kernel_rfl) (by kernel_rfl) (fun _ _ _ h => h) (Or.inl ⟨by rfl, ?_⟩) (by assumption) ?_
      rotate_left
      · intro w hSw
        try dsimp only at hSw
        go_simp
        try with_reducible rfl
      try simp only [Act.put, List.setIfInBounds_toArray, List.set_cons_zero, List.set_cons_succ]
      refine wpAnyH_take (i := 1) (oi := { dst := some 37, op := Op.load 9 (Operand.tmp 36), type := 9, pos := "ref.go:272", after := #[{ on := 0, ground := Ground.data }], guard := none }) (v := ?_) rfl (by kernel_rfl) (by kernel_rfl) (by kernel_rfl) (fun _ _ _ h => h) (Or.inl ⟨by rfl, ?_⟩) (by assumption) ?_
      rotate_left
      · intro w hSw
        try dsimp only at hSw
        rw [show w = _ from hSw]
        obtain ⟨⟨c0, c1, c2⟩, _⟩ := row3 HD.out.r1
        go_simp
        try with_reducible rfl
      try simp only [Act.put, List.setIfInBounds_toArray, List.set_cons_zero, List.set_cons_succ]
      refine wpAnyH_take (i := 2) (oi := { dst := some 38, op := Op.fieldAddr 23 (Operand.tmp 3) 1, type := 0, pos := "ref.go:272", after := #[], guard := none }) (v := ?_) rfl (by kernel_rfl) (by kernel_rfl) (by kernel_rfl) (fun _ _ _ h => h) (Or.inl ⟨by rfl, ?_⟩) (by assumption) ?_
      rotate_left
      · intro w hSw
        try dsimp only at hSw
        go_simp
        try with_reducible rfl
      try simp only [Act.put, List.setIfInBounds_toArray, List.set_cons_zero, List.set_cons_succ]
      refine wpAnyH_take (i := 3) (oi := { dst := some 39, op := Op.load 9 (Operand.tmp 38), type := 9, pos := "ref.go:272", after := #[{ on := 2, ground := Ground.data }], guard := none }) (v := ?_) rfl (by kernel_rfl) (by kernel_rfl) (by kernel_rfl) (fun _ _ _ h => h) (Or.inl ⟨by rfl, ?_⟩) (by assumption) ?_
      rotate_left
      · intro w hSw
        try dsimp only at hSw
        rw [show w = _ from hSw]
        obtain ⟨⟨c0, c1, c2⟩, _⟩ := row3 HD.out.r2
        go_simp
        try with_reducible rfl
      try simp only [Act.put, List.setIfInBounds_toArray, List.set_cons_zero, List.set_cons_succ]
      refine wpAnyH_take (i := 4) (oi := { dst := some 40, op := Op.call { callee := Callee.builtin Builtin.len, args := #[Operand.tmp 39], argTypes := #[9] }, type := 3, pos := "ref.go:272", after := #[{ on := 3, ground := Ground.data }], guard := none }) (v := ?_) rfl (by kernel_rfl) (by kernel_rfl) (by kernel_rfl) (fun _ _ _ h => h) (Or.inl ⟨by rfl, ?_⟩) (by assumption) ?_
      rotate_left
      · intro w hSw
        try dsimp only at hSw
        go_simp
        try with_reducible rfl
      try simp only [Act.put, List.setIfInBounds_toArray, List.set_cons_zero, List.set_cons_succ]
      refine wpAnyH_take (i := 5) (oi := { dst := some 41, op := Op.binOp BinOp.sub 3 (Operand.tmp 40) (Operand.const (Value.int IntKind.i64 1)) 3, type := 3, pos := "ref.go:272", after := #[{ on := 4, ground := Ground.data }], guard := none }) (v := ?_) rfl (by kernel_rfl) (by kernel_rfl) (by kernel_rfl) (fun _ _ _ h => h) (Or.inl ⟨by rfl, ?_⟩) (by assumption) ?_
      rotate_left
      · intro w hSw
        try dsimp only at hSw
        go_simp
        try with_reducible rfl
      try simp only [Act.put, List.setIfInBounds_toArray, List.set_cons_zero, List.set_cons_succ]
      refine wpAnyH_take (i := 6) (oi := { dst := some 42, op := Op.move (Operand.tmp 8), type := 3, pos := "ref.go:272", after := #[], guard := none }) (v := ?_) rfl (by kernel_rfl) (by kernel_rfl) (by kernel_rfl) (fun _ _ _ h => h) (Or.inl ⟨by rfl, ?_⟩) (by assumption) ?_
      rotate_left
      · intro w hSw
        try dsimp only at hSw
        go_simp
        try with_reducible rfl
      try simp only [Act.put, List.setIfInBounds_toArray, List.set_cons_zero, List.set_cons_succ]
      refine wpAnyH_take (i := 7) (oi := { dst := some 43, op := Op.binOp BinOp.sub 3 (Operand.tmp 41) (Operand.tmp 42) 3, type := 3, pos := "ref.go:272", after := #[{ on := 5, ground := Ground.data }, { on := 6, ground := Ground.data }], guard := none }) (v := ?_) rfl (by kernel_rfl) (by kernel_rfl) (by kernel_rfl) (fun _ _ _ h => h) (Or.inl ⟨by rfl, ?_⟩) (by assumption) ?_
      rotate_left
      · intro w hSw
        try dsimp only at hSw
        go_simp
        try with_reducible rfl
      try simp only [Act.put, List.setIfInBounds_toArray, List.set_cons_zero, List.set_cons_succ]
      refine wpAnyH_take (i := 10) (oi := { dst := some 46, op := Op.move (Operand.tmp 6), type := 3, pos := "ref.go:272", after := #[], guard := none }) (v := ?_) rfl (by kernel_rfl) (by kernel_rfl) (by kernel_rfl) (fun _ _ _ h => h) (Or.inl ⟨by rfl, ?_⟩) (by assumption) ?_
      rotate_left
      · intro w hSw
        try dsimp only at hSw
        go_simp
        try with_reducible rfl
      try simp only [Act.put, List.setIfInBounds_toArray, List.set_cons_zero, List.set_cons_succ]
      refine wpAnyH_ready (rs := [8]) (by kernel_rfl) (by simp) ?_
      refine AllReadyH.cons (o := { dst := some 44, op := Op.call { callee := Callee.value (Operand.func 28), args := #[Operand.tmp 43], argTypes := #[3] }, type := 9, pos := "ref.go:272", after := #[{ on := 7, ground := Ground.data }], guard := none }) rfl (fun K hK => ?_) AllReadyH.nil
      go_simp
      with_reducible refine (HZ.out _).mono ?_
      rintro e wz ⟨rfl, rfl⟩
      refine hK.out _ _ hT (fun _ => ?_)
      clear hK K
      try simp only [Act.put, List.setIfInBounds_toArray, List.set_cons_zero, List.set_cons_succ]
      refine wpAnyH_take (i := 9) (oi := { dst := some 45, op := Op.binOp BinOp.add 9 (Operand.tmp 37) (Operand.tmp 44) 9, type := 9, pos := "ref.go:272", after := #[{ on := 1, ground := Ground.data }, { on := 8, ground := Ground.data }], guard := none }) (v := ?_) rfl (by kernel_rfl) (by kernel_rfl) (by kernel_rfl) (fun _ _ _ h => h) (Or.inl ⟨by rfl, ?_⟩) (by assumption) ?_
      rotate_left
      · intro w hSw
        try dsimp only at hSw
        go_simp
        try with_reducible rfl
      try simp only [Act.put, List.setIfInBounds_toArray, List.set_cons_zero, List.set_cons_succ]
      refine wpAnyH_ready (rs := [11]) (by kernel_rfl) (by simp) ?_
      refine AllReadyH.cons (o := { dst := some 47, op := Op.call { callee := Callee.value (Operand.func 29), args := #[Operand.tmp 45, Operand.tmp 46], argTypes := #[9, 3] }, type := 9, pos := "ref.go:272", after := #[{ on := 9, ground := Ground.data }, { on := 10, ground := Ground.data }, { on := 8, ground := Ground.chain }], guard := none }) rfl (fun K hK => ?_) AllReadyH.nil
      go_simp
      with_reducible refine (HWd.out _).mono ?_
      rintro e wy ⟨rfl, rfl⟩
      refine hK.out _ _ hT (fun _ => ?_)
      clear hK K
      try simp only [Act.put, List.setIfInBounds_toArray, List.set_cons_zero, List.set_cons_succ]
      refine wpAnyH_take (i := 12) (oi := { dst := some 9, op := Op.assign (Operand.tmp 47), type := 9, pos := "ref.go:272", after := #[{ on := 11, ground := Ground.data }, { on := 11, ground := Ground.chain }, { on := 0, ground := Ground.phase }, { on := 1, ground := Ground.phase }, { on := 2, ground := Ground.phase }, { on := 3, ground := Ground.phase }, { on := 4, ground := Ground.phase }, { on := 5, ground := Ground.phase }, { on := 6, ground := Ground.phase }, { on := 7, ground := Ground.phase }, { on := 8, ground := Ground.phase }, { on := 9, ground := Ground.phase }, { on := 10, ground := Ground.phase }, { on := 11, ground := Ground.phase }], guard := none }) (v := ?_) rfl (by kernel_rfl) (by kernel_rfl) (by kernel_rfl) (fun _ _ _ h => h) (Or.inl ⟨by rfl, ?_⟩) (by assumption) ?_
      rotate_left
      · intro w hSw
        try dsimp only at hSw
        go_simp
        try with_reducible rfl
      try simp only [Act.put, List.setIfInBounds_toArray, List.set_cons_zero, List.set_cons_succ]
      refine wpAnyH_done (by kernel_rfl) ?_ _
      clear hT
      go_wp2_with fail
      go_loopw [7, 10] (fun sv kv wv => ∃ (y : ByteArray) (k : Nat), k ≤ q ∧ sv = .string y ∧ kv = .int .i64 (k : Int) ∧ Hid (AllP n (mB (unstr d1) (unstr d2) i + (k : Int) * mX (unstr d1) (unstr d2) i) y) ∧ Hid (RW w n1 n2 d1 d2 e1 e2 wv)) (fun _ kv _ => q - (intOf kv).toNat)
      case atStart => exact ⟨s, 0, Nat.zero_le _, rfl, rfl, by show AllP _ (_ + 0 * _) _; rw [Int.zero_mul, Int.add_zero]; exact HA.out, HD⟩
      case round =>
        obtain ⟨y, k, hk, rfl, rfl, HY, HX⟩ := hrel
        obtain ⟨⟨p0, p1, p2⟩, _⟩ := row3 HX.out.r1
        obtain ⟨⟨q0, q1, q2⟩, _⟩ := row3 HX.out.r2
        by_cases hkq : k < q
        · have dk : decide ((k : Int) < (q : Int)) = true := decide_eq_true (by omega)
          have dkn : decide (k < q) = true := decide_eq_true hkq
          have h9 := HQ9.out
          have wk : IntKind.i64.wrap ((k : Int) + 1) = (k : Int) + 1 := by rw [IntKind.wrap_i64]; omega
          have hyz := HY.out.size
          have hxz := HXp.out.size
          have hnn := HNn.out
          have hk0 := HK0.out
          have HPl := Lib.hid (fun v => plus_ref v y X HY.out.digs HXp.out.digs (hxz.trans hyz.symm) (by omega))
          have hps := plus_size (a := y) (b := X)
          have hlt : mB (unstr d1) (unstr d2) i + (k : Int) * mX (unstr d1) (unstr d2) i + mX (unstr d1) (unstr d2) i < 10 ^ n := by
            have h1 := HNx.out
            have h2 := HLt.out
            have h3 := Int.mul_le_mul_of_nonneg_right (show (k : Int) + 1 ≤ (q : Int) by omega) HXn.out
            rw [Int.add_mul, Int.one_mul] at h3
            omega
          have HSt := Lib.hid (HY.out.step HXp.out hlt)
          have e1 : mB (unstr d1) (unstr d2) i + (k : Int) * mX (unstr d1) (unstr d2) i + mX (unstr d1) (unstr d2) i = mB (unstr d1) (unstr d2) i + ((k + 1 : Nat) : Int) * mX (unstr d1) (unstr d2) i := by
            rw [show ((k + 1 : Nat) : Int) = (k : Int) + 1 by omega, Int.add_mul, Int.one_mul, Int.add_assoc]
          rw [e1] at HSt
          generalize plusB y X = PB at HPl hps HSt
          have b1 : (1 : Int) ≤ (PB.size : Int) := by omega
          have b2 : 1 ≤ PB.size := by omega
          clear h9 hyz hxz hnn hk0 hps hlt e1 HY
          go_wp2_with fail
          with_reducible refine (HPl.out _).mono ?_
          rintro e w5 ⟨rfl, hb5⟩
          have HX5 := Lib.hid (HX.out.below hb5)
          clear p0 p1 p2 q0 q1 q2 hb5 HX
          go_wp2_with fail
          exact ⟨⟨_, k + 1, by omega, rfl, by go_num, HSt, HX5⟩, by show q - ((k : Int) + 1).toNat < q - (k : Int).toNat; omega⟩
        · have dk : decide ((k : Int) < (q : Int)) = false := decide_eq_false (by omega)
          have dkn : decide (k < q) = false := decide_eq_false hkq
          obtain rfl : k = q := by omega
          have HY2 : Hid (AllP n (mB (unstr d1) (unstr d2) (i + 1)) y) := by
            show AllP _ _ _
            rw [HNx.out]
            exact HY.out
          clear HY
          go_wp2_with fail
          exact ⟨⟨y, i + 1, by omega, rfl, by go_num, HY2, HX⟩, by show d2.size - ((i : Int) + 1).toNat < d2.size - (i : Int).toNat; omega⟩
    · have di : decide ((i : Int) < (d2.size : Int)) = false := decide_eq_false (by omega)
      have din : decide (i < d2.size) = false := decide_eq_false hin
      obtain rfl : i = d2.size := by omega
      have hl1 := HL1.out
      have hk0 := HK0.out
      have hnn := HNn.out
      have hav := HA.out.val
      rw [← hl1.2, mB_all] at hav
      have hfm := HM.out s HA.out.digs hav
      have hsz := HA.out.size
      have hF := fun v => form_ref v (n1 != n2) s (e1 + e2) (by omega) (by omega) (by omega)
      rw [fmd_eq] at hF
      have hv2 : (⟨fneg (n1 != n2) s, fdig s, fexp s (e1 + e2)⟩ : Nm) = mulN ⟨n1, d1, e1⟩ ⟨n2, d2, e2⟩ := hfm
      rw [show (n1 != n2) = (!(n1 == n2)) from rfl] at hF hv2
      generalize fneg (!(n1 == n2)) s = en at hF hv2
      generalize hed : fdig s = ed at hF hv2
      generalize fexp s (e1 + e2) = ee at hF hv2
      have sE : ed.size ≤ 1000000 := by rw [← hed]; have := fdig_size s; omega
      have hTd := fun v => told_ref v en ed ee (by omega)
      rw [hv2, HTp.out] at hTd
      have HF := Lib.hid hF
      have HTd := Lib.hid hTd
      obtain ⟨⟨p0, p1, p2⟩, _⟩ := row3 HI.out.r1
      obtain ⟨⟨q0, q1, q2⟩, _⟩ := row3 HI.out.r2
      have we : IntKind.i64.wrap (e1 + e2) = e1 + e2 := by rw [IntKind.wrap_i64]; omega
      clear hl1 hk0 hnn hav hfm hsz hF hv2 hed sE hTd HM HA
      go_wp2_with fail
      with_reducible refine (HF.out _).mono ?_
      rintro e w7 ⟨rfl, hb7⟩
      have HI7 := Lib.hid (HI.out.below hb7)
      clear p0 p1 p2 q0 q1 q2 hb7 HI
      go_wp2_with fail
      with_reducible refine (HTd.out _).mono ?_
      rintro e w8 ⟨rfl, hb8⟩
      try unfold pairV
      have HI8 := Lib.hid (HI7.out.below hb8)
      clear hb8 HI7
      obtain ⟨⟨z0, z1, z2⟩, f0, f1, f2⟩ := row3 HI8.out.r3
      have hS := set3 (v0 := .bool tn) (v1 := .string td) (v2 := .int .i64 te) HI8.out.r3 (by omega) HI8.out.b
      have HS := Lib.hid hS
      clear hS HI8
      go_wp2_with fail
      refine bodyPost_ret (results_row_tmp rfl _ _ (w.heap.size + 1 + 1) _ _ _ _ rfl HS.out.1 Tryd.underlying23 rfl (by kernel_rfl)) rfl ⟨rfl, HS.out.2⟩
theorem MulR_pair (w : World) (n1 : Bool) (d1 : ByteArray) (e1 : Int) (n2 : Bool) (d2 : ByteArray) (e2 : Int) (s1 : d1.size ≤ 1000000) (s2 : d2.size ≤ 1000000) :
    Calls Tryd.prog 14 #[.agg #[.bool n1, .string d1, .int .i64 e1], .agg #[.bool n2, .string d2, .int .i64 e2]] w fun e w' => e = .returned (pairV (mulP ⟨n1, d1, e1⟩ ⟨n2, d2, e2⟩)) ∧ Below w.heap.size w w' := by
  unfold mulP
  by_cases h1 : dsane n1 (unstr d1) e1 = true
  · by_cases h2 : dsane n2 (unstr d2) e2 = true
    · rw [if_pos ⟨h1, h2⟩]
      exact mulr_ok w n1 n2 d1 d2 e1 e2 s1 s2 h1 h2
    · rw [if_neg fun h => h2 h.2]
      exact mulr_bad2 w n1 n2 d1 d2 e1 e2 s1 s2 h1 (by simpa using h2)
  · rw [if_neg fun h => h1 h.1]
    exact mulr_bad1 w n1 n2 d1 d2 e1 e2 s1 s2 (by simpa using h1)
end Go.Proofs.YtpnhgggdjlglnaaDoor.dk
