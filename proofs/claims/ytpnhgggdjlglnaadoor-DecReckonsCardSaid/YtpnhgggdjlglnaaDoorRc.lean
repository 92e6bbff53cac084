/- The document's own functions: Sane, told, zeros, wide. -/
import Derived.Test.YtpnhgggdjlglnaaDoorRa
import Derived.Test.YtpnhgggdjlglnaaDoorF0
import Derived.Test.YtpnhgggdjlglnaaDoorRb
import Derived.Deep.DeepCutAuto
import Derived.Deep.CutBlock
namespace Go.Proofs.YtpnhgggdjlglnaaDoor.dk
open Go.PlainAid Go.ChangeShapes Go.WideShapes Go.ChangeAt Go.RowKit

set_option maxRecDepth 100000 in
theorem digit_ref (w : World) (c : Int) : Calls Tryd.prog 46 #[.int .u8 c] w fun e w' => e = .returned (.bool (isDig c)) ∧ w' = w := by
  unfold isDig
  by_cases h1 : 48 ≤ c
  · have d1 : decide (48 ≤ c) = true := decide_eq_true h1
    by_cases h2 : c ≤ 57
    · have d2 : decide (c ≤ 57) = true := decide_eq_true h2
      rw [d1, d2]
      go_enter Tryd.func46, Tryd.ntmps46
      go_wp2_with fail
      go_ret
      exact ⟨rfl, rfl⟩
    · have d2 : decide (c ≤ 57) = false := decide_eq_false h2
      rw [d1, d2]
      go_enter Tryd.func46, Tryd.ntmps46
      go_wp2_with fail
      go_ret
      exact ⟨rfl, rfl⟩
  · have d1 : decide (48 ≤ c) = false := decide_eq_false h1
    rw [d1, Bool.false_and]
    go_enter Tryd.func46, Tryd.ntmps46
    go_wp2_with fail
    go_ret
    exact ⟨rfl, rfl⟩
theorem all_false {l : List Int} {j : Nat} (hj : j < l.length) (h : isDig (l.getD j 0) = false) : l.all isDig = false := by
  cases e : l.all isDig with
  | false => rfl
  | true =>
    have := List.all_eq_true.1 e (l.getD j 0) (by rw [List.getD_eq_getElem?_getD, List.getElem?_eq_getElem hj]; exact List.getElem_mem _)
    rw [h] at this
    cases this
theorem all_true {l : List Int} (h : ∀ i, i < l.length → isDig (l.getD i 0) = true) : l.all isDig = true := by
  refine List.all_eq_true.2 fun x hx => ?_
  obtain ⟨i, hi, rfl⟩ := List.getElem_of_mem hx
  have := h i hi
  rw [List.getD_eq_getElem?_getD, List.getElem?_eq_getElem hi] at this
  exact this
/-- What the last line of the document's Sane tells. -/
def endOk (l : List Int) (ex : Int) : Bool :=
  decide (l.length ≤ 40) && decide (-1000 ≤ ex) && decide (ex ≤ 1000) && decide (-400 ≤ (l.length : Int) + ex) && decide ((l.length : Int) + ex ≤ 400) && !decide (l.getD 0 0 = 48) && !decide (l.getD (l.length - 1) 0 = 48)
theorem endOk_eq (neg : Bool) {l : List Int} (ex : Int) (h0 : l.length ≠ 0) (ha : l.all isDig = true) : dsane neg l ex = endOk l ex := by
  unfold dsane endOk
  rw [if_neg h0, ha, Bool.eq_iff_iff]
  simp only [Bool.and_eq_true, decide_eq_true_eq, Bool.not_eq_true', decide_eq_false_iff_not]
  constructor
  · rintro ⟨⟨⟨⟨⟨a, b⟩, c⟩, _⟩, d⟩, e⟩
    exact ⟨⟨⟨⟨⟨⟨a, by omega⟩, by omega⟩, by omega⟩, by omega⟩, b⟩, c⟩
  · rintro ⟨⟨⟨⟨⟨⟨a, b⟩, c⟩, d⟩, e⟩, f⟩, g⟩
    exact ⟨⟨⟨⟨⟨a, f⟩, g⟩, trivial⟩, by omega⟩, by omega⟩
set_option maxRecDepth 100000 in
set_option maxHeartbeats 2000000 in
theorem sane_ref0 (w : World) (neg : Bool) (ex : Int) :
    Calls Tryd.prog 27 #[.agg #[.bool neg, .string ⟨#[]⟩, .int .i64 ex]] w fun e w' => e = .returned (.bool (dsane neg (unstr ⟨#[]⟩) ex)) ∧ Below w.heap.size w w' := by
  have e : Hid (dsane neg (unstr ⟨#[]⟩) ex = (!neg && decide (ex = 0))) := rfl
  have hb : Below w.heap.size w (w.alloc (.cells #[.bool neg, .string ⟨#[]⟩, .int .i64 ex] 23)) := (Below.refl _ _).alloc (Nat.le_refl _) _
  cases neg with
  | true =>
    go_enter Tryd.func27, Tryd.ntmps27
    go_wp2_with fail
    go_ret
    exact ⟨by rw [e.out]; rfl, hb⟩
  | false =>
    by_cases hx : ex = 0
    · subst hx
      go_enter Tryd.func27, Tryd.ntmps27
      go_wp2_with fail
      go_ret
      exact ⟨by rw [e.out]; rfl, hb⟩
    · have ee : (!false && decide (ex = 0)) = false := by simp [hx]
      have dx : (ex == 0) = false := beq_eq_false_iff_ne.2 hx
      go_enter Tryd.func27, Tryd.ntmps27
      go_wp2_with fail
      go_ret
      exact ⟨by rw [e.out, ee]; rfl, hb⟩
set_option maxRecDepth 100000 in
set_option maxHeartbeats 4000000 in
theorem sane_ref1 (w : World) (neg : Bool) (dg : ByteArray) (ex : Int) (h0 : ¬ dg.size = 0) (hs : dg.size ≤ 1000000000) :
    Calls Tryd.prog 27 #[.agg #[.bool neg, .string dg, .int .i64 ex]] w fun e w' => e = .returned (.bool (dsane neg (unstr dg) ex)) ∧ Below w.heap.size w w' := by
  have hlen := unstr_length dg
  have dz : (((dg.size : Nat) : Int) == 0) = false := beq_eq_false_iff_ne.2 (by omega)
  obtain ⟨wa, hwa⟩ : ∃ wa, wa = w.alloc (.cells #[.bool neg, .string dg, .int .i64 ex] 23) := ⟨_, rfl⟩
  have hB : Below w.heap.size w wa := by rw [hwa]; exact (Below.refl _ _).alloc (Nat.le_refl _) _
  have r1 : wa.heap[w.heap.size]? = some (.cells #[.bool neg, .string dg, .int .i64 ex] 23 (0, 0)) := by rw [hwa]; exact heap_alloc_new _ _
  have HW := Lib.hid hwa
  have HB := Lib.hid hB
  have HR := Lib.hid r1
  obtain ⟨⟨x0, x1, x2⟩, _⟩ := row3 r1
  have HL := Lib.hid hlen
  clear hwa hB r1 hlen
  go_enter Tryd.func27, Tryd.ntmps27
  go_upto_region 1 with fail
  rw [← HW.out]
  clear HW
  go_wp2_with fail
  go_loopw [4] (fun iv wr => ∃ i : Nat, i ≤ dg.size ∧ iv = .int .i64 (i : Int) ∧ Hid (∀ k, k < i → isDig ((unstr dg).getD k 0) = true) ∧ wr = wa) (fun iv _ => dg.size - (intOf iv).toNat)
  case atStart => exact ⟨0, Nat.zero_le _, rfl, fun k hk => absurd hk (by omega), rfl⟩
  case round =>
    obtain ⟨i, hi, rfl, HI, rfl⟩ := hrel
    by_cases hin : i < dg.size
    · have di : decide ((i : Int) < (dg.size : Int)) = true := decide_eq_true (by omega)
      have din : decide (i < dg.size) = true := decide_eq_true hin
      have hat := byte_at dg i hin
      have wi : IntKind.i64.wrap ((i : Int) + 1) = (i : Int) + 1 := by rw [IntKind.wrap_i64]; omega
      have HD := Lib.hid (fun v => digit_ref v (((dg[i].toNat : Nat) : Int)))
      have hl := HL.out
      cases hdg : isDig ((unstr dg).getD i 0) with
      | true =>
        rw [show isDig ((dg[i].toNat : Nat) : Int) = true by rw [hat]; exact hdg] at HD
        have HN : Hid (∀ k, k < i + 1 → isDig ((unstr dg).getD k 0) = true) := fun k hk => by
          by_cases hki : k < i
          · exact HI.out k hki
          · rw [show k = i by omega]; exact hdg
        clear hdg hl HI hat
        go_wp2_with fail
        with_reducible refine (HD.out _).mono ?_
        rintro e w2 ⟨rfl, rfl⟩
        go_wp2_with fail
        exact ⟨⟨i + 1, by omega, by go_num, HN, by trivial⟩, by show dg.size - ((i : Int) + 1).toNat < dg.size - (i : Int).toNat; omega⟩
      | false =>
        rw [show isDig ((dg[i].toNat : Nat) : Int) = false by rw [hat]; exact hdg] at HD
        have e : Hid (dsane neg (unstr dg) ex = false) := by
          show dsane _ _ _ = false
          unfold dsane
          rw [if_neg (by omega), all_false (by omega) hdg]
          simp
        clear hdg hl HI hat
        go_wp2_with fail
        with_reducible refine (HD.out _).mono ?_
        rintro e w2 ⟨rfl, rfl⟩
        go_wp2_with fail
        go_ret
        exact ⟨by rw [e.out]; rfl, HB.out⟩
    · have di : decide ((i : Int) < (dg.size : Int)) = false := decide_eq_false (by omega)
      have din : decide (i < dg.size) = false := decide_eq_false hin
      have hl := HL.out
      have hall := all_true (l := unstr dg) (fun k hk => HI.out k (by omega))
      have HE := Lib.hid (endOk_eq neg (l := unstr dg) ex (by omega) hall)
      have h0' : 0 < dg.size := by omega
      have hL' : dg.size - 1 < dg.size := by omega
      have hf := byte_at dg 0 h0'
      have hla := byte_at dg (dg.size - 1) hL'
      have wl : IntKind.i64.wrap ((dg.size : Int) - 1) = ((dg.size - 1 : Nat) : Int) := by rw [IntKind.wrap_i64]; omega
      have HQ := Lib.hid (show endOk (unstr dg) ex = (decide (dg.size ≤ 40) && decide (-1000 ≤ ex) && decide (ex ≤ 1000) && decide (-400 ≤ (dg.size : Int) + ex) && decide ((dg.size : Int) + ex ≤ 400) && !decide ((unstr dg).getD 0 0 = 48) && !decide ((unstr dg).getD (dg.size - 1) 0 = 48)) by unfold endOk; rw [hl])
      obtain ⟨x0, x1, x2⟩ := (row3 HR.out).1
      clear hall hl HI
      by_cases g1 : dg.size ≤ 40
      · have e1 : decide ((dg.size : Int) ≤ 40) = true := decide_eq_true (by omega)
        have e1n : decide (dg.size ≤ 40) = true := decide_eq_true g1
        by_cases g2 : -1000 ≤ ex
        · have e2 : decide (-1000 ≤ ex) = true := decide_eq_true g2
          by_cases g3 : ex ≤ 1000
          · have e3 : decide (ex ≤ 1000) = true := decide_eq_true g3
            have ws : IntKind.i64.wrap ((dg.size : Int) + ex) = (dg.size : Int) + ex := by rw [IntKind.wrap_i64]; omega
            by_cases g4 : -400 ≤ (dg.size : Int) + ex
            · have e4 : decide (-400 ≤ (dg.size : Int) + ex) = true := decide_eq_true g4
              by_cases g5 : (dg.size : Int) + ex ≤ 400
              · have e5 : decide ((dg.size : Int) + ex ≤ 400) = true := decide_eq_true g5
                by_cases g6 : (unstr dg).getD 0 0 = 48
                · have e6 : ((dg[0].toNat : Nat) : Int) = 48 := by rw [hf, g6]
                  have r : Hid (endOk (unstr dg) ex = false) := by show endOk _ _ = false; rw [HQ.out, decide_eq_true g6]; simp
                  clear hf hla
                  go_wp2_with fail
                  go_ret
                  exact ⟨by rw [HE.out, r.out]; rfl, HB.out⟩
                · have e6 : ¬ ((dg[0].toNat : Nat) : Int) = 48 := by rw [hf]; exact g6
                  have e6b : (((dg[0].toNat : Nat) : Int) != 48) = true := bne_iff_ne.2 e6
                  by_cases g7 : (unstr dg).getD (dg.size - 1) 0 = 48
                  · have e7 : ((dg[dg.size - 1].toNat : Nat) : Int) = 48 := by rw [hla, g7]
                    have r : Hid (endOk (unstr dg) ex = false) := by show endOk _ _ = false; rw [HQ.out, decide_eq_true g7]; simp
                    clear hf hla
                    go_wp2_with fail
                    go_ret
                    exact ⟨by rw [HE.out, r.out]; rfl, HB.out⟩
                  · have e7 : ¬ ((dg[dg.size - 1].toNat : Nat) : Int) = 48 := by rw [hla]; exact g7
                    have e7b : (((dg[dg.size - 1].toNat : Nat) : Int) != 48) = true := bne_iff_ne.2 e7
                    have r : Hid (endOk (unstr dg) ex = true) := by show endOk _ _ = true; rw [HQ.out, e1n, e2, e3, e4, e5, decide_eq_false g6, decide_eq_false g7]; rfl
                    clear hf hla
                    go_wp2_with fail
                    go_ret
                    exact ⟨by rw [HE.out, r.out]; rfl, HB.out⟩
              · have e5 : decide ((dg.size : Int) + ex ≤ 400) = false := decide_eq_false g5
                have r : Hid (endOk (unstr dg) ex = false) := by show endOk _ _ = false; rw [HQ.out, e5]; simp
                clear hf hla
                go_wp2_with fail
                go_ret
                exact ⟨by rw [HE.out, r.out]; rfl, HB.out⟩
            · have e4 : decide (-400 ≤ (dg.size : Int) + ex) = false := decide_eq_false g4
              have r : Hid (endOk (unstr dg) ex = false) := by show endOk _ _ = false; rw [HQ.out, e4]; simp
              clear hf hla
              go_wp2_with fail
              go_ret
              exact ⟨by rw [HE.out, r.out]; rfl, HB.out⟩
          · have e3 : decide (ex ≤ 1000) = false := decide_eq_false g3
            have r : Hid (endOk (unstr dg) ex = false) := by show endOk _ _ = false; rw [HQ.out, e3]; simp
            clear hf hla
            go_wp2_with fail
            go_ret
            exact ⟨by rw [HE.out, r.out]; rfl, HB.out⟩
        · have e2 : decide (-1000 ≤ ex) = false := decide_eq_false g2
          have r : Hid (endOk (unstr dg) ex = false) := by show endOk _ _ = false; rw [HQ.out, e2]; simp
          clear hf hla
          go_wp2_with fail
          go_ret
          exact ⟨by rw [HE.out, r.out]; rfl, HB.out⟩
      · have e1 : decide ((dg.size : Int) ≤ 40) = false := decide_eq_false (by omega)
        have e1n : decide (dg.size ≤ 40) = false := decide_eq_false g1
        have r : Hid (endOk (unstr dg) ex = false) := by show endOk _ _ = false; rw [HQ.out, e1n]; simp
        clear hf hla
        go_wp2_with fail
        go_ret
        exact ⟨by rw [HE.out, r.out]; rfl, HB.out⟩
theorem sane_ref (w : World) (neg : Bool) (dg : ByteArray) (ex : Int) (hs : dg.size ≤ 1000000000) :
    Calls Tryd.prog 27 #[.agg #[.bool neg, .string dg, .int .i64 ex]] w fun e w' => e = .returned (.bool (dsane neg (unstr dg) ex)) ∧ Below w.heap.size w w' := by
  by_cases h0 : dg.size = 0
  · obtain rfl := ba_nil h0
    exact sane_ref0 w neg ex
  · exact sane_ref1 w neg dg ex h0 hs
set_option maxRecDepth 100000 in
set_option maxHeartbeats 1000000 in
theorem told_ref (w : World) (neg : Bool) (dg : ByteArray) (ex : Int) (hs : dg.size ≤ 1000000000) :
    Calls Tryd.prog 30 #[.agg #[.bool neg, .string dg, .int .i64 ex]] w fun e w' => e = .returned (pairV (Nm.told ⟨neg, dg, ex⟩)) ∧ Below w.heap.size w w' := by
  have key : pairV (Nm.told ⟨neg, dg, ex⟩) = .tuple #[.agg (if dsane neg (unstr dg) ex = true then #[.bool neg, .string dg, .int .i64 ex] else #[.bool false, .string ⟨#[]⟩, .int .i64 0]), .int .i64 (if dsane neg (unstr dg) ex = true then 0 else 4)] := by
    unfold Nm.told
    show pairV (if dsane neg (unstr dg) ex = true then _ else _) = _
    split <;> rfl
  rw [key]
  clear key
  obtain ⟨wa, hwa⟩ : ∃ wa, wa = (w.alloc (.cells #[.bool neg, .string dg, .int .i64 ex] 23)).alloc (.cells #[.bool false, .string ⟨#[]⟩, .int .i64 0] 23) := ⟨_, rfl⟩
  have hba : Below w.heap.size w wa := by rw [hwa]; exact ((Below.refl _ _).alloc (Nat.le_refl _) _).alloc (by simp) _
  have hs1 : wa.heap[w.heap.size]? = some (.cells #[.bool neg, .string dg, .int .i64 ex] 23 (0, 0)) := by
    rw [hwa]
    exact alloc_old _ (heap_alloc_new _ _)
  have hs2 : wa.heap[w.heap.size + 1]? = some (.cells #[.bool false, .string ⟨#[]⟩, .int .i64 0] 23 (0, 0)) := by
    rw [hwa]
    have := heap_alloc_new (w.alloc (.cells #[.bool neg, .string dg, .int .i64 ex] 23)) (.cells #[.bool false, .string ⟨#[]⟩, .int .i64 0] 23)
    simpa using this
  have HS := Lib.hid (fun (v : World) => sane_ref v neg dg ex hs)
  have HB := Lib.hid hba
  have H1 := Lib.hid hs1
  have H2 := Lib.hid hs2
  have HW := Lib.hid hwa
  clear hba hs1 hs2 hwa
  generalize dsane neg (unstr dg) ex = ok at HS ⊢
  cases ok with
  | true =>
    rw [if_pos rfl, if_pos rfl]
    go_enter Tryd.func30, Tryd.ntmps30
    go_upto_region 1 with fail
    rw [← HW.out]
    obtain ⟨⟨z0, z1, z2⟩, _⟩ := row3 H1.out
    go_wp2_with fail
    with_reducible refine (HS.out wa).mono ?_
    rintro e w2 ⟨rfl, hb2⟩
    have k1 := (hb2.block _ (lt_of_block H1.out)).trans H1.out
    have k2 := (hb2.block _ (lt_of_block H2.out)).trans H2.out
    obtain ⟨⟨x0, x1, x2⟩, _⟩ := row3 k1
    obtain ⟨⟨_, _, _⟩, y0, y1, y2⟩ := row3 k2
    have hb3 := HB.out.trans (hb2.mono HB.out.size)
    have hS3 := set3 (v0 := .bool neg) (v1 := .string dg) (v2 := .int .i64 ex) k2 (Nat.le_succ _) hb3
    have HS3 := Lib.hid hS3
    clear hS3 k1 k2 hb3 hb2 HS z0 z1 z2
    go_wp2_with fail
    refine bodyPost_ret (results_row_tmp rfl _ _ (w.heap.size + 1) _ _ _ _ rfl HS3.out.1 Tryd.underlying23 rfl (by kernel_rfl)) rfl ⟨rfl, HS3.out.2⟩
  | false =>
    rw [if_neg (by decide), if_neg (by decide)]
    go_enter Tryd.func30, Tryd.ntmps30
    go_upto_region 1 with fail
    rw [← HW.out]
    obtain ⟨⟨z0, z1, z2⟩, _⟩ := row3 H1.out
    go_wp2_with fail
    with_reducible refine (HS.out wa).mono ?_
    rintro e w2 ⟨rfl, hb2⟩
    have k1 := (hb2.block _ (lt_of_block H1.out)).trans H1.out
    have k2 := (hb2.block _ (lt_of_block H2.out)).trans H2.out
    obtain ⟨⟨x0, x1, x2⟩, _⟩ := row3 k1
    obtain ⟨⟨_, _, _⟩, y0, y1, y2⟩ := row3 k2
    have hb3 := HB.out.trans (hb2.mono HB.out.size)
    have hS3 := set3 (v0 := .bool false) (v1 := .string ⟨#[]⟩) (v2 := .int .i64 0) k2 (Nat.le_succ _) hb3
    have HS3 := Lib.hid hS3
    clear hS3 k1 k2 hb3 hb2 HS z0 z1 z2
    go_wp2_with fail
    refine bodyPost_ret (results_row_tmp rfl _ _ (w.heap.size + 1) _ _ _ _ rfl HS3.out.1 Tryd.underlying23 rfl (by kernel_rfl)) rfl ⟨rfl, HS3.out.2⟩
theorem zers_more (k : Nat) : zers k ++ ⟨#[48]⟩ = zers (k + 1) := by
  apply unstr_inj
  rw [unstr_app, zers_list, zers_list]
  show _ ++ [48] = _
  rw [List.replicate_succ']
set_option maxRecDepth 100000 in
set_option maxHeartbeats 1000000 in
theorem zeros_ref (w : World) (n : Int) (h1 : n ≤ 1000000) (h0 : -1000000 ≤ n) :
    Calls Tryd.prog 28 #[.int .i64 n] w fun e w' => e = .returned (.string (zers n.toNat)) ∧ w' = w := by
  have HN := Lib.hid (And.intro h0 h1)
  clear h0 h1
  go_enter Tryd.func28, Tryd.ntmps28
  go_wp2_with fail
  go_loopw [3, 4] (fun sv iv wr => ∃ i : Nat, i ≤ n.toNat ∧ sv = .string (zers i) ∧ iv = .int .i64 (i : Int) ∧ wr = w) (fun _ iv _ => n.toNat - (intOf iv).toNat)
  case atStart => exact ⟨0, Nat.zero_le _, rfl, rfl, rfl⟩
  case round =>
    obtain ⟨i, hi, rfl, rfl, rfl⟩ := hrel
    have hn := HN.out
    by_cases hin : i < n.toNat
    · have di : decide ((i : Int) < n) = true := decide_eq_true (by omega)
      have wi : IntKind.i64.wrap ((i : Int) + 1) = (i : Int) + 1 := by rw [IntKind.wrap_i64]; omega
      have hz := zers_size i
      have hc : ¬ 9223372036854775807 < (zers i).size + 1 := by rw [hz]; omega
      have HM := Lib.hid (zers_more i)
      clear hz hn
      go_wp2_with fail
      exact ⟨⟨i + 1, by omega, by rw [HM.out], by go_num, by trivial⟩, by show n.toNat - ((i : Int) + 1).toNat < n.toNat - (i : Int).toNat; omega⟩
    · have di : decide ((i : Int) < n) = false := decide_eq_false (by omega)
      obtain rfl : i = n.toNat := by omega
      clear hn
      go_wp2_with fail
      go_ret
      exact ⟨rfl, rfl⟩
def wideB (s : ByteArray) (n : Nat) : ByteArray := zers (n - s.size) ++ s
set_option maxRecDepth 100000 in
set_option maxHeartbeats 1000000 in
theorem wide_ref (w : World) (s : ByteArray) (n : Nat) (hs : s.size ≤ 1000000) (hn : n ≤ 1000000) :
    Calls Tryd.prog 29 #[.string s, .int .i64 (n : Int)] w fun e w' => e = .returned (.string (wideB s n)) ∧ w' = w := by
  have HZ := Lib.hid (fun v => zeros_ref v ((n : Int) - (s.size : Int)) (by omega) (by omega))
  rw [show ((n : Int) - (s.size : Int)).toNat = n - s.size by omega] at HZ
  unfold wideB
  have hz := zers_size (n - s.size)
  have hc : ¬ 9223372036854775807 < (zers (n - s.size)).size + s.size := by rw [hz]; omega
  have wi : IntKind.i64.wrap ((n : Int) - (s.size : Int)) = (n : Int) - (s.size : Int) := by rw [IntKind.wrap_i64]; omega
  generalize zers (n - s.size) = z at HZ hc ⊢
  clear hz
  go_enter Tryd.func29, Tryd.ntmps29
  go_wp2_with fail
  with_reducible refine (HZ.out _).mono ?_
  rintro e w2 ⟨rfl, rfl⟩
  go_wp2_with fail
  go_ret
  exact ⟨rfl, rfl⟩
end Go.Proofs.YtpnhgggdjlglnaaDoor.dk
/- The document's form. -/
namespace Go.Proofs.YtpnhgggdjlglnaaDoor.dk
open Go.PlainAid Go.ChangeShapes Go.WideShapes Go.ChangeAt Go.RowKit

def strLen : Value → Nat
  | .string s => s.size
  | _ => 0
theorem lz_zero (l : List Int) : lz (48 :: l) = lz l := by
  unfold lz
  rw [List.dropWhile_cons, if_pos (by decide)]
theorem lz_other {c : Int} (l : List Int) (h : c ≠ 48) : lz (c :: l) = c :: l := by
  unfold lz
  rw [List.dropWhile_cons, if_neg (by simpa using h)]
theorem tz_zero (l : List Int) : tz (l ++ [48]) = tz l := by
  unfold tz
  rw [List.reverse_append]
  show (List.dropWhile _ (48 :: l.reverse)).reverse = _
  rw [List.dropWhile_cons, if_pos (by decide)]
theorem tz_other {c : Int} (l : List Int) (h : c ≠ 48) : tz (l ++ [c]) = l ++ [c] := by
  unfold tz
  rw [List.reverse_append]
  show (List.dropWhile _ (c :: l.reverse)).reverse = _
  rw [List.dropWhile_cons, if_neg (by simpa using h)]
  simp
theorem tail_cut (d : ByteArray) (h : 0 < d.size) : unstr (d.extract 1 d.size) = (unstr d).drop 1 := cut_post d 1 h
theorem head_eq (d : ByteArray) (h : 0 < d.size) : unstr d = ((d[0].toNat : Nat) : Int) :: (unstr d).drop 1 := by
  have e := byte_at d 0 h
  have hl := unstr_length d
  rw [e, List.getD_eq_getElem?_getD, List.getElem?_eq_getElem (by omega)]
  show _ = (unstr d)[0] :: _
  rw [← List.drop_eq_getElem_cons (by omega), List.drop_zero]
theorem last_eq (d : ByteArray) (h : d.size - 1 < d.size) : unstr d = (unstr d).take (d.size - 1) ++ [((d[d.size - 1].toNat : Nat) : Int)] := by
  have e := byte_at d (d.size - 1) h
  have hl := unstr_length d
  rw [e, List.getD_eq_getElem?_getD, List.getElem?_eq_getElem (by omega)]
  show _ = _ ++ [(unstr d)[d.size - 1]]
  have h1 := (List.take_append_drop (d.size - 1) (unstr d)).symm
  rw [List.drop_eq_getElem_cons (show d.size - 1 < (unstr d).length by omega), List.drop_of_length_le (by omega)] at h1
  exact h1
set_option maxRecDepth 100000 in
set_option maxHeartbeats 4000000 in
theorem form_ref (w : World) (neg : Bool) (s : ByteArray) (ex : Int) (hs : s.size ≤ 1000000) (h1 : -1000000 ≤ ex) (h2 : ex ≤ 1000000) :
    Calls Tryd.prog 31 #[.bool neg, .string s, .int .i64 ex] w fun e w' => e = .returned (.agg (fmd neg s ex)) ∧ Below w.heap.size w w' := by
  have key : fmd neg s ex = #[.bool (fneg neg s), .string (fdig s), .int .i64 (fexp s ex)] := fmd_eq _ _ _
  rw [key]
  have HF := Lib.hid key
  have l1 := fln_le s
  have l2 := fsh_le s
  obtain ⟨wa, hwa⟩ : ∃ wa, wa = w.alloc (.cells #[.bool false, .string ⟨#[]⟩, .int .i64 0] 23) := ⟨_, rfl⟩
  have hst : wa.heap[w.heap.size]? = some (.cells #[.bool false, .string ⟨#[]⟩, .int .i64 0] 23 (0, 0)) := by rw [hwa]; exact heap_alloc_new _ _
  have hb : Below w.heap.size w wa := by rw [hwa]; exact (Below.refl _ _).alloc (Nat.le_refl _) _
  have HW := Lib.hid hwa
  have HR := Lib.hid hst
  have HB := Lib.hid hb
  have HX := Lib.hid (And.intro h1 h2)
  obtain ⟨en, hen⟩ : ∃ en, en = fneg neg s := ⟨_, rfl⟩
  obtain ⟨ed, hed⟩ : ∃ ed, ed = fdig s := ⟨_, rfl⟩
  obtain ⟨ee, hee⟩ : ∃ ee, ee = fexp s ex := ⟨_, rfl⟩
  rw [← hen, ← hed, ← hee]
  have HZ : Hid ((fsh s).size = 0 → en = false ∧ ed = ⟨#[]⟩ ∧ ee = 0) := fun hz => by
    rw [hen, hed, hee]
    unfold fneg fdig fexp
    rw [if_pos hz, if_pos hz, if_pos hz]
    exact ⟨rfl, rfl, rfl⟩
  have HY : Hid (¬ (fsh s).size = 0 → en = neg ∧ ed = fsh s ∧ ee = ex + ((fln s).size : Int) - ((fsh s).size : Int)) := fun hz => by
    rw [hen, hed, hee]
    unfold fneg fdig fexp
    rw [if_neg hz, if_neg hz, if_neg hz]
    exact ⟨rfl, rfl, rfl⟩
  have HLs := Lib.hid (And.intro l1 l2)
  clear hwa hst hb h1 h2 key HF hen hed hee l1 l2
  go_enter Tryd.func31, Tryd.ntmps31
  go_upto_region 1 with fail
  rw [← HW.out]
  clear HW
  go_loopw [1] (fun sv wr => ∃ d : ByteArray, sv = .string d ∧ Hid (lz (unstr d) = lz (unstr s) ∧ d.size ≤ s.size) ∧ wr = wa) (fun sv _ => strLen sv)
  case atStart => exact ⟨s, rfl, ⟨rfl, Nat.le_refl _⟩, rfl⟩
  case round =>
    obtain ⟨d, rfl, HI, rfl⟩ := hrel
    by_cases hd : 0 < d.size
    · have dd : decide ((0 : Int) < (d.size : Int)) = true := decide_eq_true (by omega)
      have ddn : decide (0 < d.size) = true := decide_eq_true hd
      have hh := head_eq d hd
      by_cases h48 : ((d[0].toNat : Nat) : Int) = 48
      · have HN : Hid (lz (unstr (d.extract 1 d.size)) = lz (unstr s) ∧ (d.extract 1 d.size).size ≤ s.size ∧ (d.extract 1 d.size).size < d.size) := by
          refine ⟨?_, ?_, ?_⟩
          · rw [tail_cut d hd, ← HI.out.1]
            conv => rhs; rw [hh, h48, lz_zero]
          · have := HI.out.2
            rw [ByteArray.size_extract]
            omega
          · rw [ByteArray.size_extract]
            omega
        have b1 : (1 : Int) ≤ (d.size : Int) := by omega
        have b2 : 1 ≤ d.size := hd
        clear hh HI
        go_wp2_with fail
        exact ⟨⟨_, rfl, ⟨HN.out.1, HN.out.2.1⟩, by trivial⟩, HN.out.2.2⟩
      · have HE : Hid (d = fln s) := unstr_inj (by
          rw [fln_list, ← HI.out.1]
          conv => lhs; rw [hh]
          conv => rhs; rw [hh, lz_other _ h48])
        clear hh
        go_wp2_with fail
        go_loopw [1, 2] (fun sv xv wv => ∃ (e : ByteArray) (x : Int), sv = .string e ∧ xv = .int .i64 x ∧ Hid (tz (unstr e) = tz (unstr (fln s)) ∧ e.size ≤ (fln s).size ∧ x + (e.size : Int) = ex + ((fln s).size : Int)) ∧ wv = wr) (fun sv _ _ => strLen sv)
        case atStart => exact ⟨d, ex, rfl, rfl, by rw [HE.out]; exact ⟨rfl, Nat.le_refl _, rfl⟩, rfl⟩
        case round =>
          obtain ⟨e, x, rfl, rfl, HJ, rfl⟩ := hrel
          clear dd ddn
          have hX := HX.out
          have hLs := HLs.out
          have hJ := HJ.out
          by_cases hz : 0 < e.size
          · have dd : decide ((0 : Int) < (e.size : Int)) = true := decide_eq_true (by omega)
            have ddn : decide (0 < e.size) = true := decide_eq_true hz
            have hlt : e.size - 1 < e.size := by omega
            have hh := last_eq e hlt
            have wl : IntKind.i64.wrap ((e.size : Int) - 1) = ((e.size - 1 : Nat) : Int) := by rw [IntKind.wrap_i64]; omega
            have b0 : e.size - 1 ≤ e.size := by omega
            by_cases l48 : ((e[e.size - 1].toNat : Nat) : Int) = 48
            · have hk : unstr (e.extract 0 (e.size - 1)) = (unstr e).take (e.size - 1) := cut_pre e _
              have HN : Hid (tz (unstr (e.extract 0 (e.size - 1))) = tz (unstr (fln s)) ∧ (e.extract 0 (e.size - 1)).size ≤ (fln s).size ∧ x + 1 + ((e.extract 0 (e.size - 1)).size : Int) = ex + ((fln s).size : Int) ∧ (e.extract 0 (e.size - 1)).size < e.size) := by
                refine ⟨?_, ?_, ?_, ?_⟩
                · rw [hk, ← hJ.1]
                  conv => rhs; rw [hh, l48, tz_zero]
                · rw [ByteArray.size_extract]
                  omega
                · rw [ByteArray.size_extract]
                  omega
                · rw [ByteArray.size_extract]
                  omega
              have wx : IntKind.i64.wrap (x + 1) = x + 1 := by rw [IntKind.wrap_i64]; omega
              clear hh hk hX hLs hJ HJ
              go_wp2_with fail
              exact ⟨⟨_, _, rfl, rfl, ⟨HN.out.1, HN.out.2.1, HN.out.2.2.1⟩, by trivial⟩, HN.out.2.2.2⟩
            · have he : e = fsh s := unstr_inj (by
                rw [fsh_list, ← fln_list, ← hJ.1]
                conv => lhs; rw [hh]
                conv => rhs; rw [hh, tz_other _ l48])
              obtain ⟨e1, e2, e3⟩ := HY.out (by rw [← he]; omega)
              have hx : x = ee := by rw [e3, ← he]; omega
              rw [← he] at e2
              have dz := ba_full (show ¬ e.size = 0 by omega)
              obtain ⟨_, y0, y1, y2⟩ := row3 HR.out
              have hS3 := set3 (v0 := .bool neg) (v1 := .string e) (v2 := .int .i64 x) HR.out (Nat.le_refl _) HB.out
              have HE2 := Lib.hid (And.intro e1 (And.intro e2 hx.symm))
              have HS3 := Lib.hid hS3
              clear hS3 hh hX hLs hJ HJ e1 e2 e3 hx he
              go_wp2_with fail
              refine bodyPost_ret (results_cell_row rfl _ _ w.heap.size _ _ _ _ rfl HS3.out.1 Tryd.underlying23 rfl (by kernel_rfl)) rfl ⟨by rw [HE2.out.1, HE2.out.2.1, HE2.out.2.2], HS3.out.2⟩
          · have dd : decide ((0 : Int) < (e.size : Int)) = false := decide_eq_false (by omega)
            have ddn : decide (0 < e.size) = false := decide_eq_false hz
            have hne : e = ⟨#[]⟩ := ba_nil (by omega)
            have hfz : (fsh s).size = 0 := by
              rw [← unstr_length, fsh_list, ← fln_list, ← hJ.1, hne]
              rfl
            obtain ⟨e1, e2, e3⟩ := HZ.out hfz
            obtain ⟨_, y0, y1, y2⟩ := row3 HR.out
            have hS3 := set3 (v0 := .bool false) (v1 := .string ⟨#[]⟩) (v2 := .int .i64 0) HR.out (Nat.le_refl _) HB.out
            have HS3 := Lib.hid hS3
            have HE2 := Lib.hid (And.intro e1 (And.intro e2 e3))
            clear hS3 hX hLs hJ HJ e1 e2 e3 hfz
            subst hne
            go_wp2_with fail
            refine bodyPost_ret (results_cell_row rfl _ _ w.heap.size _ _ _ _ rfl HS3.out.1 Tryd.underlying23 rfl (by kernel_rfl)) rfl ⟨by rw [HE2.out.1, HE2.out.2.1, HE2.out.2.2], HS3.out.2⟩
    · have dd : decide ((0 : Int) < (d.size : Int)) = false := decide_eq_false (by omega)
      have ddn : decide (0 < d.size) = false := decide_eq_false hd
      have HE : Hid (d = fln s) := unstr_inj (by
        rw [fln_list, ← HI.out.1, ba_nil (show d.size = 0 by omega)]
        rfl)
      go_wp2_with fail
      go_loopw [1, 2] (fun sv xv wv => ∃ (e : ByteArray) (x : Int), sv = .string e ∧ xv = .int .i64 x ∧ Hid (tz (unstr e) = tz (unstr (fln s)) ∧ e.size ≤ (fln s).size ∧ x + (e.size : Int) = ex + ((fln s).size : Int)) ∧ wv = wr) (fun sv _ _ => strLen sv)
      case atStart => exact ⟨d, ex, rfl, rfl, by rw [HE.out]; exact ⟨rfl, Nat.le_refl _, rfl⟩, rfl⟩
      case round =>
        obtain ⟨e, x, rfl, rfl, HJ, rfl⟩ := hrel
        clear dd ddn
        have hX := HX.out
        have hLs := HLs.out
        have hJ := HJ.out
        by_cases hz : 0 < e.size
        · have dd : decide ((0 : Int) < (e.size : Int)) = true := decide_eq_true (by omega)
          have ddn : decide (0 < e.size) = true := decide_eq_true hz
          have hlt : e.size - 1 < e.size := by omega
          have hh := last_eq e hlt
          have wl : IntKind.i64.wrap ((e.size : Int) - 1) = ((e.size - 1 : Nat) : Int) := by rw [IntKind.wrap_i64]; omega
          have b0 : e.size - 1 ≤ e.size := by omega
          by_cases l48 : ((e[e.size - 1].toNat : Nat) : Int) = 48
          · have hk : unstr (e.extract 0 (e.size - 1)) = (unstr e).take (e.size - 1) := cut_pre e _
            have HN : Hid (tz (unstr (e.extract 0 (e.size - 1))) = tz (unstr (fln s)) ∧ (e.extract 0 (e.size - 1)).size ≤ (fln s).size ∧ x + 1 + ((e.extract 0 (e.size - 1)).size : Int) = ex + ((fln s).size : Int) ∧ (e.extract 0 (e.size - 1)).size < e.size) := by
              refine ⟨?_, ?_, ?_, ?_⟩
              · rw [hk, ← hJ.1]
                conv => rhs; rw [hh, l48, tz_zero]
              · rw [ByteArray.size_extract]
                omega
              · rw [ByteArray.size_extract]
                omega
              · rw [ByteArray.size_extract]
                omega
            have wx : IntKind.i64.wrap (x + 1) = x + 1 := by rw [IntKind.wrap_i64]; omega
            clear hh hk hX hLs hJ HJ
            go_wp2_with fail
            exact ⟨⟨_, _, rfl, rfl, ⟨HN.out.1, HN.out.2.1, HN.out.2.2.1⟩, by trivial⟩, HN.out.2.2.2⟩
          · have he : e = fsh s := unstr_inj (by
              rw [fsh_list, ← fln_list, ← hJ.1]
              conv => lhs; rw [hh]
              conv => rhs; rw [hh, tz_other _ l48])
            obtain ⟨e1, e2, e3⟩ := HY.out (by rw [← he]; omega)
            have hx : x = ee := by rw [e3, ← he]; omega
            rw [← he] at e2
            have dz := ba_full (show ¬ e.size = 0 by omega)
            obtain ⟨_, y0, y1, y2⟩ := row3 HR.out
            have hS3 := set3 (v0 := .bool neg) (v1 := .string e) (v2 := .int .i64 x) HR.out (Nat.le_refl _) HB.out
            have HE2 := Lib.hid (And.intro e1 (And.intro e2 hx.symm))
            have HS3 := Lib.hid hS3
            clear hS3 hh hX hLs hJ HJ e1 e2 e3 hx he
            go_wp2_with fail
            refine bodyPost_ret (results_cell_row rfl _ _ w.heap.size _ _ _ _ rfl HS3.out.1 Tryd.underlying23 rfl (by kernel_rfl)) rfl ⟨by rw [HE2.out.1, HE2.out.2.1, HE2.out.2.2], HS3.out.2⟩
        · have dd : decide ((0 : Int) < (e.size : Int)) = false := decide_eq_false (by omega)
          have ddn : decide (0 < e.size) = false := decide_eq_false hz
          have hne : e = ⟨#[]⟩ := ba_nil (by omega)
          have hfz : (fsh s).size = 0 := by
            rw [← unstr_length, fsh_list, ← fln_list, ← hJ.1, hne]
            rfl
          obtain ⟨e1, e2, e3⟩ := HZ.out hfz
          obtain ⟨_, y0, y1, y2⟩ := row3 HR.out
          have hS3 := set3 (v0 := .bool false) (v1 := .string ⟨#[]⟩) (v2 := .int .i64 0) HR.out (Nat.le_refl _) HB.out
          have HS3 := Lib.hid hS3
          have HE2 := Lib.hid (And.intro e1 (And.intro e2 e3))
          clear hS3 hX hLs hJ HJ e1 e2 e3 hfz
          subst hne
          go_wp2_with fail
          refine bodyPost_ret (results_cell_row rfl _ _ w.heap.size _ _ _ _ rfl HS3.out.1 Tryd.underlying23 rfl (by kernel_rfl)) rfl ⟨by rw [HE2.out.1, HE2.out.2.1, HE2.out.2.2], HS3.out.2⟩
end Go.Proofs.YtpnhgggdjlglnaaDoor.dk
/- The document's sums and differences of digits. -/
namespace Go.Proofs.YtpnhgggdjlglnaaDoor.dk
open Go.PlainAid Go.ChangeShapes Go.WideShapes Go.ChangeAt Go.RowKit

theorem sign_cut3 : ∀ k : Nat, k < 10 → (⟨#[48, 49, 50, 51, 52, 53, 54, 55, 56, 57]⟩ : ByteArray).extract k (k + 1) = ⟨#[UInt8.ofNat (48 + k)]⟩ := by decide
theorem sign_cut2 : ∀ k : Nat, k < 2 → (⟨#[48, 49]⟩ : ByteArray).extract k (k + 1) = ⟨#[UInt8.ofNat (48 + k)]⟩ := by decide
theorem sign_cons (r : Nat) (l : List Int) (hr : r < 10) (h : Digs l) : (⟨#[UInt8.ofNat (48 + r)]⟩ : ByteArray) ++ strOf l = strOf ((48 + (r : Int)) :: l) := by
  have hd : Digs ((48 + (r : Int)) :: l) := fun x hx => by
    rcases List.mem_cons.1 hx with rfl | hx
    · unfold isDig
      simp only [Bool.and_eq_true, decide_eq_true_eq]
      omega
    · exact h x hx
  apply unstr_inj
  rw [unstr_app, unstr_strOf _ h.bys, unstr_strOf _ hd.bys]
  show ((UInt8.ofNat (48 + r)).toNat : Int) :: l = _
  rw [UInt8.toNat_ofNat']
  congr 1
  omega
def rat (l : List Int) (n j : Nat) : Int := l.getD (n - 1 - j) 0 - 48
theorem rat_range {l : List Int} {n j : Nat} (h : Digs l) (hl : l.length = n) (hj : j < n) : 0 ≤ rat l n j ∧ rat l n j ≤ 9 := by
  unfold rat
  have := dig_range (h (l.getD (n - 1 - j) 0) (by rw [List.getD_eq_getElem?_getD, List.getElem?_eq_getElem (by omega)]; exact List.getElem_mem _))
  omega
def plusF (a b : ByteArray) (j : Nat) : Int := rat (unstr a) a.size j + rat (unstr b) a.size j
def plusB (a b : ByteArray) : ByteArray := strOf ((48 + (psum (plusF a b) a.size).1) :: (psum (plusF a b) a.size).2)
def minusF (a b : ByteArray) (p : Int) : Int := rat (unstr a) a.size p.toNat - rat (unstr b) a.size p.toNat
def minusB (a b : ByteArray) : ByteArray := strOf (msum (minusF a b) 0 a.size).2
theorem plus_carry {a b : ByteArray} (ha : Digs (unstr a)) (hb : Digs (unstr b)) (hn : b.size = a.size) : ∀ j, j ≤ a.size → 0 ≤ (psum (plusF a b) j).1 ∧ (psum (plusF a b) j).1 ≤ 1
  | 0, _ => by
    show 0 ≤ (0 : Int) ∧ (0 : Int) ≤ 1
    omega
  | j + 1, h => by
    have h1 := plus_carry ha hb hn j (by omega)
    have h2 := rat_range (j := j) ha (unstr_length a) (by omega)
    have h3 := rat_range (j := j) hb ((unstr_length b).trans hn) (by omega)
    show 0 ≤ ((psum (plusF a b) j).1 + (rat (unstr a) a.size j + rat (unstr b) a.size j)) / 10 ∧ ((psum (plusF a b) j).1 + (rat (unstr a) a.size j + rat (unstr b) a.size j)) / 10 ≤ 1
    omega
theorem minus_carry {a b : ByteArray} (ha : Digs (unstr a)) (hb : Digs (unstr b)) (hn : b.size = a.size) : ∀ j, j ≤ a.size → -1 ≤ (msum (minusF a b) 0 j).1 ∧ (msum (minusF a b) 0 j).1 ≤ 0
  | 0, _ => by
    show -1 ≤ (0 : Int) ∧ (0 : Int) ≤ 0
    omega
  | j + 1, h => by
    have h1 := minus_carry ha hb hn j (by omega)
    have h2 := rat_range (j := j) ha (unstr_length a) (by omega)
    have h3 := rat_range (j := j) hb ((unstr_length b).trans hn) (by omega)
    have e : minusF a b (0 + (j : Int)) = rat (unstr a) a.size j - rat (unstr b) a.size j := by
      unfold minusF
      rw [show (0 + (j : Int)).toNat = j by omega]
    show -1 ≤ (minusF a b (0 + (j : Int)) + (msum (minusF a b) 0 j).1 + 10) / 10 - 1 ∧ (minusF a b (0 + (j : Int)) + (msum (minusF a b) 0 j).1 + 10) / 10 - 1 ≤ 0
    rw [e]
    omega
set_option maxRecDepth 100000 in
set_option maxHeartbeats 4000000 in
theorem plus_ref (w : World) (a b : ByteArray) (ha : Digs (unstr a)) (hb : Digs (unstr b)) (hn : b.size = a.size) (hs : a.size ≤ 1000000) :
    Calls Tryd.prog 32 #[.string a, .string b] w fun e w' => e = .returned (.string (plusB a b)) ∧ Below w.heap.size w w' := by
  have HG := Lib.hid (And.intro ha hb)
  have HN := Lib.hid hn
  obtain ⟨res, hres⟩ : ∃ res, res = plusB a b := ⟨_, rfl⟩
  rw [← hres]
  have HRs := Lib.hid hres
  have HB := Lib.hid (Below.refl w.heap.size w)
  obtain ⟨n, hnn⟩ : ∃ n, n = a.size := ⟨_, rfl⟩
  have HNn := Lib.hid hnn
  have ws : IntKind.i64.wrap ((a.size : Int) - 1) = (n : Int) - 1 := by rw [IntKind.wrap_i64]; omega
  clear ha hb hn hres hnn
  go_enter Tryd.func32, Tryd.ntmps32
  go_wp2_with fail
  go_loopw [5, 6, 7] (fun ov cv iv wr => ∃ j : Nat, j ≤ n ∧ ov = .string (strOf (psum (plusF a b) j).2) ∧ cv = .int .i64 (psum (plusF a b) j).1 ∧ iv = .int .i64 ((n : Int) - 1 - (j : Int)) ∧ Hid (Below w.heap.size w wr)) (fun _ _ iv _ => (intOf iv + 1).toNat)
  case atStart => exact ⟨0, Nat.zero_le _, rfl, rfl, by go_num, HB⟩
  case round =>
    obtain ⟨j, hj, rfl, rfl, rfl, HI⟩ := hrel
    have hnn := HNn.out
    have hcr := plus_carry HG.out.1 HG.out.2 HN.out j (by omega)
    have hdg := psum_dig (plusF a b) j
    have hln := psum_len (plusF a b) j
    by_cases hjn : j < n
    · obtain ⟨q, hq⟩ : ∃ q : Nat, (n : Int) - 1 - (j : Int) = (q : Int) := ⟨n - 1 - j, by omega⟩
      have hqn : q = a.size - 1 - j := by omega
      rw [hq]
      have dq : decide ((0 : Int) ≤ (q : Int)) = true := decide_eq_true (by omega)
      have qa : q < a.size := by omega
      have hn2 := HN.out
      have qb : q < b.size := by omega
      have eA := byte_at a q qa
      have eB := byte_at b q qb
      have rA := rat_range (j := j) HG.out.1 (unstr_length a) (by omega)
      have rB := rat_range (j := j) HG.out.2 ((unstr_length b).trans hn2) (by omega)
      have xA : rat (unstr a) a.size j = ((a[q].toNat : Nat) : Int) - 48 := by rw [eA, hqn]; rfl
      have xB : rat (unstr b) a.size j = ((b[q].toNat : Nat) : Int) - 48 := by rw [eB, hqn]; rfl
      rw [xA] at rA
      rw [xB] at rB
      have k1 : IntKind.u8.wrap (((a[q].toNat : Nat) : Int) - 48) = ((a[q].toNat : Nat) : Int) - 48 := by rw [IntKind.wrap_u8]; omega
      have k2 : IntKind.u8.wrap (((b[q].toNat : Nat) : Int) - 48) = ((b[q].toNat : Nat) : Int) - 48 := by rw [IntKind.wrap_u8]; omega
      have k3 : IntKind.i64.wrap (((a[q].toNat : Nat) : Int) - 48) = ((a[q].toNat : Nat) : Int) - 48 := by rw [IntKind.wrap_i64]; omega
      have k4 : IntKind.i64.wrap (((b[q].toNat : Nat) : Int) - 48) = ((b[q].toNat : Nat) : Int) - 48 := by rw [IntKind.wrap_i64]; omega
      have hst : psum (plusF a b) (j + 1) = (((psum (plusF a b) j).1 + (((a[q].toNat : Nat) : Int) - 48 + (((b[q].toNat : Nat) : Int) - 48))) / 10, (48 + ((psum (plusF a b) j).1 + (((a[q].toNat : Nat) : Int) - 48 + (((b[q].toNat : Nat) : Int) - 48))) % 10) :: (psum (plusF a b) j).2) := by
        rw [← xA, ← xB]
        rfl
      obtain ⟨C, hC⟩ : ∃ C, (psum (plusF a b) j).1 = C := ⟨_, rfl⟩
      rw [hC] at hst hcr ⊢
      have k5 : IntKind.i64.wrap (((a[q].toNat : Nat) : Int) - 48 + (((b[q].toNat : Nat) : Int) - 48)) = ((a[q].toNat : Nat) : Int) - 48 + (((b[q].toNat : Nat) : Int) - 48) := by rw [IntKind.wrap_i64]; omega
      obtain ⟨V, hV⟩ : ∃ V, ((a[q].toNat : Nat) : Int) - 48 + (((b[q].toNat : Nat) : Int) - 48) + C = V := ⟨_, rfl⟩
      have k6 : IntKind.i64.wrap (((a[q].toNat : Nat) : Int) - 48 + (((b[q].toNat : Nat) : Int) - 48) + C) = V := by rw [IntKind.wrap_i64]; omega
      rw [show C + (((a[q].toNat : Nat) : Int) - 48 + (((b[q].toNat : Nat) : Int) - 48)) = V by omega] at hst
      obtain ⟨r, hr⟩ : ∃ r : Nat, (r : Int) = V % 10 := ⟨(V % 10).toNat, by omega⟩
      have hr9 : r < 10 := by omega
      obtain ⟨Q, hQ⟩ : ∃ Q, V / 10 = Q := ⟨_, rfl⟩
      have hQr : 0 ≤ Q ∧ Q ≤ 2 := by omega
      have t1 : Int.tdiv V 10 = Q := by rw [Int.tdiv_eq_ediv_of_nonneg (by omega)]; exact hQ
      have t2 : Int.tmod V 10 = (r : Int) := by rw [Int.tmod_eq_emod_of_nonneg (by omega)]; omega
      have m1 : IntKind.i64.wrap Q = Q := by rw [IntKind.wrap_i64]; omega
      have m2 : IntKind.i64.wrap (r : Int) = (r : Int) := by rw [IntKind.wrap_i64]; omega
      have m3 : IntKind.i64.wrap ((r : Int) + 1) = ((r + 1 : Nat) : Int) := by rw [IntKind.wrap_i64]; omega
      have m4 : IntKind.i64.wrap ((q : Int) - 1) = (q : Int) - 1 := by rw [IntKind.wrap_i64]; omega
      have m5 : IntKind.i64.wrap (1 - Q) = 1 - Q := by rw [IntKind.wrap_i64]; omega
      have b1 : (r + 1 : Nat) ≤ 10 := by omega
      have b2 : r ≤ r + 1 := by omega
      rw [hQ, ← hr] at hst
      have HSt := Lib.hid hst
      have hO := sign_cons r (psum (plusF a b) j).2 hr9 hdg
      rw [← sign_cut3 r hr9] at hO
      have hOz : (strOf (psum (plusF a b) j).2).size = j := by rw [strOf_len]; exact hln
      generalize strOf (psum (plusF a b) j).2 = OO at hO hOz ⊢
      have hcat : ¬ 9223372036854775807 < 1 + OO.size := by omega
      have HO := Lib.hid hO
      have HE := Lib.hid (And.intro (show (q : Int) - 1 = (n : Int) - 1 - ((j + 1 : Nat) : Int) by omega) (show ((q : Int) - 1 + 1).toNat < ((q : Int) + 1).toNat by omega))
      clear hst hO hOz hln hdg hC hV hr hQ hq hqn hnn hn2 eA eB xA xB rA rB hcr
      go_upto_region 6 with fail
      refine wp_region_held_drew (S := (fun W : World => W = wr.drew)) (by kernel_rfl) rfl (fun hHeld => ?_)
      clear hHeld
      have HD := Lib.hid (HI.out.trans ((Below.refl wr.heap.size wr).drew.mono HI.out.size))
      generalize wr.drew = wd at HD ⊢
      have hT : (fun W : World => W = wd) wd := rfl
      refine wpAnyH_take (i := 0) (oi := { dst := some 16, op := Op.move (Operand.tmp 0), type := 9, pos := "ref.go:219", after := #[], guard := none }) (v := ?_) rfl (by kernel_rfl) (by kernel_rfl) (by kernel_rfl) (fun _ _ _ h => h) (Or.inl ⟨by rfl, ?_⟩) (by assumption) ?_
      rotate_left
      · intro w hSw
        try dsimp only at hSw
        go_simp
        try with_reducible rfl
      try simp only [Act.put, List.setIfInBounds_toArray, List.set_cons_zero, List.set_cons_succ]
      refine wpAnyH_take (i := 1) (oi := { dst := some 17, op := Op.move (Operand.tmp 7), type := 3, pos := "ref.go:219", after := #[], guard := none }) (v := ?_) rfl (by kernel_rfl) (by kernel_rfl) (by kernel_rfl) (fun _ _ _ h => h) (Or.inl ⟨by rfl, ?_⟩) (by assumption) ?_
      rotate_left
      · intro w hSw
        try dsimp only at hSw
        go_simp
        try with_reducible rfl
      try simp only [Act.put, List.setIfInBounds_toArray, List.set_cons_zero, List.set_cons_succ]
      refine wpAnyH_take (i := 2) (oi := { dst := some 18, op := Op.index 9 (Operand.tmp 16) (Operand.tmp 17), type := 5, pos := "ref.go:219", after := #[{ on := 0, ground := Ground.data }, { on := 1, ground := Ground.data }], guard := none }) (v := ?_) rfl (by kernel_rfl) (by kernel_rfl) (by kernel_rfl) (fun _ _ _ h => h) (Or.inl ⟨by rfl, ?_⟩) (by assumption) ?_
      rotate_left
      · intro w hSw
        try dsimp only at hSw
        go_simp
        try with_reducible rfl
      try simp only [Act.put, List.setIfInBounds_toArray, List.set_cons_zero, List.set_cons_succ]
      refine wpAnyH_take (i := 3) (oi := { dst := some 19, op := Op.binOp BinOp.sub 5 (Operand.tmp 18) (Operand.const (Value.int IntKind.u8 48)) 5, type := 5, pos := "ref.go:219", after := #[{ on := 2, ground := Ground.data }], guard := none }) (v := ?_) rfl (by kernel_rfl) (by kernel_rfl) (by kernel_rfl) (fun _ _ _ h => h) (Or.inl ⟨by rfl, ?_⟩) (by assumption) ?_
      rotate_left
      · intro w hSw
        try dsimp only at hSw
        go_simp
        try with_reducible rfl
      try simp only [Act.put, List.setIfInBounds_toArray, List.set_cons_zero, List.set_cons_succ]
      refine wpAnyH_take (i := 4) (oi := { dst := some 20, op := Op.convert 5 3 (Operand.tmp 19), type := 3, pos := "ref.go:219", after := #[{ on := 3, ground := Ground.data }], guard := none }) (v := ?_) rfl (by kernel_rfl) (by kernel_rfl) (by kernel_rfl) (fun _ _ _ h => h) (Or.inl ⟨by rfl, ?_⟩) (by assumption) ?_
      rotate_left
      · intro w hSw
        try dsimp only at hSw
        go_simp
        try with_reducible rfl
      try simp only [Act.put, List.setIfInBounds_toArray, List.set_cons_zero, List.set_cons_succ]
      refine wpAnyH_take (i := 5) (oi := { dst := some 21, op := Op.move (Operand.tmp 1), type := 9, pos := "ref.go:219", after := #[], guard := none }) (v := ?_) rfl (by kernel_rfl) (by kernel_rfl) (by kernel_rfl) (fun _ _ _ h => h) (Or.inl ⟨by rfl, ?_⟩) (by assumption) ?_
      rotate_left
      · intro w hSw
        try dsimp only at hSw
        go_simp
        try with_reducible rfl
      try simp only [Act.put, List.setIfInBounds_toArray, List.set_cons_zero, List.set_cons_succ]
      refine wpAnyH_take (i := 6) (oi := { dst := some 22, op := Op.move (Operand.tmp 7), type := 3, pos := "ref.go:219", after := #[], guard := none }) (v := ?_) rfl (by kernel_rfl) (by kernel_rfl) (by kernel_rfl) (fun _ _ _ h => h) (Or.inl ⟨by rfl, ?_⟩) (by assumption) ?_
      rotate_left
      · intro w hSw
        try dsimp only at hSw
        go_simp
        try with_reducible rfl
      try simp only [Act.put, List.setIfInBounds_toArray, List.set_cons_zero, List.set_cons_succ]
      refine wpAnyH_take (i := 7) (oi := { dst := some 23, op := Op.index 9 (Operand.tmp 21) (Operand.tmp 22), type := 5, pos := "ref.go:219", after := #[{ on := 5, ground := Ground.data }, { on := 6, ground := Ground.data }], guard := none }) (v := ?_) rfl (by kernel_rfl) (by kernel_rfl) (by kernel_rfl) (fun _ _ _ h => h) (Or.inl ⟨by rfl, ?_⟩) (by assumption) ?_
      rotate_left
      · intro w hSw
        try dsimp only at hSw
        go_simp
        try with_reducible rfl
      try simp only [Act.put, List.setIfInBounds_toArray, List.set_cons_zero, List.set_cons_succ]
      refine wpAnyH_take (i := 8) (oi := { dst := some 24, op := Op.binOp BinOp.sub 5 (Operand.tmp 23) (Operand.const (Value.int IntKind.u8 48)) 5, type := 5, pos := "ref.go:219", after := #[{ on := 7, ground := Ground.data }], guard := none }) (v := ?_) rfl (by kernel_rfl) (by kernel_rfl) (by kernel_rfl) (fun _ _ _ h => h) (Or.inl ⟨by rfl, ?_⟩) (by assumption) ?_
      rotate_left
      · intro w hSw
        try dsimp only at hSw
        go_simp
        try with_reducible rfl
      try simp only [Act.put, List.setIfInBounds_toArray, List.set_cons_zero, List.set_cons_succ]
      refine wpAnyH_take (i := 9) (oi := { dst := some 25, op := Op.convert 5 3 (Operand.tmp 24), type := 3, pos := "ref.go:219", after := #[{ on := 8, ground := Ground.data }], guard := none }) (v := ?_) rfl (by kernel_rfl) (by kernel_rfl) (by kernel_rfl) (fun _ _ _ h => h) (Or.inl ⟨by rfl, ?_⟩) (by assumption) ?_
      rotate_left
      · intro w hSw
        try dsimp only at hSw
        go_simp
        try with_reducible rfl
      try simp only [Act.put, List.setIfInBounds_toArray, List.set_cons_zero, List.set_cons_succ]
      refine wpAnyH_take (i := 10) (oi := { dst := some 26, op := Op.binOp BinOp.add 3 (Operand.tmp 20) (Operand.tmp 25) 3, type := 3, pos := "ref.go:219", after := #[{ on := 4, ground := Ground.data }, { on := 9, ground := Ground.data }], guard := none }) (v := ?_) rfl (by kernel_rfl) (by kernel_rfl) (by kernel_rfl) (fun _ _ _ h => h) (Or.inl ⟨by rfl, ?_⟩) (by assumption) ?_
      rotate_left
      · intro w hSw
        try dsimp only at hSw
        go_simp
        try with_reducible rfl
      try simp only [Act.put, List.setIfInBounds_toArray, List.set_cons_zero, List.set_cons_succ]
      refine wpAnyH_take (i := 11) (oi := { dst := some 27, op := Op.move (Operand.tmp 6), type := 3, pos := "ref.go:219", after := #[], guard := none }) (v := ?_) rfl (by kernel_rfl) (by kernel_rfl) (by kernel_rfl) (fun _ _ _ h => h) (Or.inl ⟨by rfl, ?_⟩) (by assumption) ?_
      rotate_left
      · intro w hSw
        try dsimp only at hSw
        go_simp
        try with_reducible rfl
      try simp only [Act.put, List.setIfInBounds_toArray, List.set_cons_zero, List.set_cons_succ]
      refine wpAnyH_take (i := 12) (oi := { dst := some 28, op := Op.binOp BinOp.add 3 (Operand.tmp 26) (Operand.tmp 27) 3, type := 3, pos := "ref.go:219", after := #[{ on := 10, ground := Ground.data }, { on := 11, ground := Ground.data }], guard := none }) (v := ?_) rfl (by kernel_rfl) (by kernel_rfl) (by kernel_rfl) (fun _ _ _ h => h) (Or.inl ⟨by rfl, ?_⟩) (by assumption) ?_
      rotate_left
      · intro w hSw
        try dsimp only at hSw
        go_simp
        try with_reducible rfl
      try simp only [Act.put, List.setIfInBounds_toArray, List.set_cons_zero, List.set_cons_succ]
      refine wpAnyH_take (i := 13) (oi := { dst := some 8, op := Op.assign (Operand.tmp 28), type := 3, pos := "ref.go:219", after := #[{ on := 12, ground := Ground.data }, { on := 0, ground := Ground.phase }, { on := 1, ground := Ground.phase }, { on := 2, ground := Ground.phase }, { on := 3, ground := Ground.phase }, { on := 4, ground := Ground.phase }, { on := 5, ground := Ground.phase }, { on := 6, ground := Ground.phase }, { on := 7, ground := Ground.phase }, { on := 8, ground := Ground.phase }, { on := 9, ground := Ground.phase }, { on := 10, ground := Ground.phase }, { on := 11, ground := Ground.phase }, { on := 12, ground := Ground.phase }], guard := none }) (v := ?_) rfl (by kernel_rfl) (by kernel_rfl) (by kernel_rfl) (fun _ _ _ h => h) (Or.inl ⟨by rfl, ?_⟩) (by assumption) ?_
      rotate_left
      · intro w hSw
        try dsimp only at hSw
        go_simp
        try with_reducible rfl
      try simp only [Act.put, List.setIfInBounds_toArray, List.set_cons_zero, List.set_cons_succ]
      refine wpAnyH_done (by kernel_rfl) ?_ _
      clear hT HI
      go_wp2_with fail
      refine ⟨⟨j + 1, by omega, ?_, ?_, ?_, HD⟩, ?_⟩
      · rw [HSt.out, HO.out]
      · rw [HSt.out]
      · rw [HE.out.1]
      · exact HE.out.2
    · obtain rfl : j = n := by omega
      have dq : decide ((0 : Int) ≤ (j : Int) - 1 - (j : Int)) = false := decide_eq_false (by omega)
      obtain ⟨k, hk⟩ : ∃ k : Nat, (psum (plusF a b) j).1 = (k : Int) := ⟨(psum (plusF a b) j).1.toNat, by omega⟩
      have hk2 : k < 2 := by omega
      have hO := sign_cons k (psum (plusF a b) j).2 (by omega) hdg
      rw [← sign_cut2 k hk2] at hO
      have hRe : res = strOf ((48 + (psum (plusF a b) j).1) :: (psum (plusF a b) j).2) := by rw [HRs.out, hnn]; rfl
      rw [hk, ← hO] at hRe
      rw [hk]
      have hOz : (strOf (psum (plusF a b) j).2).size = j := by rw [strOf_len]; exact hln
      generalize strOf (psum (plusF a b) j).2 = OO at hO hOz hRe ⊢
      have hcat : ¬ 9223372036854775807 < 1 + OO.size := by omega
      have m3 : IntKind.i64.wrap ((k : Int) + 1) = ((k + 1 : Nat) : Int) := by rw [IntKind.wrap_i64]; omega
      have b1 : (k + 1 : Nat) ≤ 2 := by omega
      have b2 : k ≤ k + 1 := by omega
      have HRe := Lib.hid hRe
      clear hO hOz hln hdg hcr hnn hRe hk
      go_wp2_with fail
      go_ret
      exact ⟨by rw [HRe.out]; rfl, HI.out⟩
set_option maxRecDepth 100000 in
set_option maxHeartbeats 4000000 in
theorem minus_ref (w : World) (a b : ByteArray) (ha : Digs (unstr a)) (hb : Digs (unstr b)) (hn : b.size = a.size) (hs : a.size ≤ 1000000) :
    Calls Tryd.prog 33 #[.string a, .string b] w fun e w' => e = .returned (.string (minusB a b)) ∧ Below w.heap.size w w' := by
  have HG := Lib.hid (And.intro ha hb)
  have HN := Lib.hid hn
  obtain ⟨res, hres⟩ : ∃ res, res = minusB a b := ⟨_, rfl⟩
  rw [← hres]
  have HRs := Lib.hid hres
  have HB := Lib.hid (Below.refl w.heap.size w)
  obtain ⟨n, hnn⟩ : ∃ n, n = a.size := ⟨_, rfl⟩
  have HNn := Lib.hid hnn
  have ws : IntKind.i64.wrap ((a.size : Int) - 1) = (n : Int) - 1 := by rw [IntKind.wrap_i64]; omega
  clear ha hb hn hres hnn
  go_enter Tryd.func33, Tryd.ntmps33
  go_wp2_with fail
  go_loopw [5, 6, 7] (fun ov cv iv wr => ∃ j : Nat, j ≤ n ∧ ov = .string (strOf (msum (minusF a b) 0 j).2) ∧ cv = .int .i64 (-(msum (minusF a b) 0 j).1) ∧ iv = .int .i64 ((n : Int) - 1 - (j : Int)) ∧ Hid (Below w.heap.size w wr)) (fun _ _ iv _ => (intOf iv + 1).toNat)
  case atStart => exact ⟨0, Nat.zero_le _, rfl, rfl, by go_num, HB⟩
  case round =>
    obtain ⟨j, hj, rfl, rfl, rfl, HI⟩ := hrel
    have hnn := HNn.out
    have hcr := minus_carry HG.out.1 HG.out.2 HN.out j (by omega)
    have hdg := msum_dig (minusF a b) 0 j
    have hln := msum_len (minusF a b) 0 j
    by_cases hjn : j < n
    · obtain ⟨q, hq⟩ : ∃ q : Nat, (n : Int) - 1 - (j : Int) = (q : Int) := ⟨n - 1 - j, by omega⟩
      have hqn : q = a.size - 1 - j := by omega
      rw [hq]
      have dq : decide ((0 : Int) ≤ (q : Int)) = true := decide_eq_true (by omega)
      have qa : q < a.size := by omega
      have hn2 := HN.out
      have qb : q < b.size := by omega
      have eA := byte_at a q qa
      have eB := byte_at b q qb
      have rA := rat_range (j := j) HG.out.1 (unstr_length a) (by omega)
      have rB := rat_range (j := j) HG.out.2 ((unstr_length b).trans hn2) (by omega)
      have xA : rat (unstr a) a.size j = ((a[q].toNat : Nat) : Int) - 48 := by rw [eA, hqn]; rfl
      have xB : rat (unstr b) a.size j = ((b[q].toNat : Nat) : Int) - 48 := by rw [eB, hqn]; rfl
      rw [xA] at rA
      rw [xB] at rB
      have k1 : IntKind.u8.wrap (((a[q].toNat : Nat) : Int) - 48) = ((a[q].toNat : Nat) : Int) - 48 := by rw [IntKind.wrap_u8]; omega
      have k2 : IntKind.u8.wrap (((b[q].toNat : Nat) : Int) - 48) = ((b[q].toNat : Nat) : Int) - 48 := by rw [IntKind.wrap_u8]; omega
      have k3 : IntKind.i64.wrap (((a[q].toNat : Nat) : Int) - 48) = ((a[q].toNat : Nat) : Int) - 48 := by rw [IntKind.wrap_i64]; omega
      have k4 : IntKind.i64.wrap (((b[q].toNat : Nat) : Int) - 48) = ((b[q].toNat : Nat) : Int) - 48 := by rw [IntKind.wrap_i64]; omega
      have e0 : minusF a b (0 + (j : Int)) = rat (unstr a) a.size j - rat (unstr b) a.size j := by
        unfold minusF
        rw [show (0 + (j : Int)).toNat = j by omega]
      have hst : msum (minusF a b) 0 (j + 1) = ((((a[q].toNat : Nat) : Int) - 48 - (((b[q].toNat : Nat) : Int) - 48) + (msum (minusF a b) 0 j).1 + 10) / 10 - 1, (48 + (((a[q].toNat : Nat) : Int) - 48 - (((b[q].toNat : Nat) : Int) - 48) + (msum (minusF a b) 0 j).1 + 10) % 10) :: (msum (minusF a b) 0 j).2) := by
        rw [← xA, ← xB, ← e0]
        rfl
      obtain ⟨C, hC⟩ : ∃ C, -(msum (minusF a b) 0 j).1 = C := ⟨_, rfl⟩
      have hC2 : (msum (minusF a b) 0 j).1 = -C := by omega
      rw [hC2] at hst hcr
      rw [hC]
      have k5 : IntKind.i64.wrap (((a[q].toNat : Nat) : Int) - 48 - (((b[q].toNat : Nat) : Int) - 48)) = ((a[q].toNat : Nat) : Int) - 48 - (((b[q].toNat : Nat) : Int) - 48) := by rw [IntKind.wrap_i64]; omega
      have k5b : IntKind.i64.wrap (((a[q].toNat : Nat) : Int) - 48 - (((b[q].toNat : Nat) : Int) - 48) - C) = ((a[q].toNat : Nat) : Int) - 48 - (((b[q].toNat : Nat) : Int) - 48) - C := by rw [IntKind.wrap_i64]; omega
      obtain ⟨V, hV⟩ : ∃ V, ((a[q].toNat : Nat) : Int) - 48 - (((b[q].toNat : Nat) : Int) - 48) - C + 10 = V := ⟨_, rfl⟩
      have k6 : IntKind.i64.wrap (((a[q].toNat : Nat) : Int) - 48 - (((b[q].toNat : Nat) : Int) - 48) - C + 10) = V := by rw [IntKind.wrap_i64]; omega
      rw [show ((a[q].toNat : Nat) : Int) - 48 - (((b[q].toNat : Nat) : Int) - 48) + -C + 10 = V by omega] at hst
      obtain ⟨r, hr⟩ : ∃ r : Nat, (r : Int) = V % 10 := ⟨(V % 10).toNat, by omega⟩
      have hr9 : r < 10 := by omega
      obtain ⟨Q, hQ⟩ : ∃ Q, V / 10 = Q := ⟨_, rfl⟩
      have hQr : 0 ≤ Q ∧ Q ≤ 2 := by omega
      have t1 : Int.tdiv V 10 = Q := by rw [Int.tdiv_eq_ediv_of_nonneg (by omega)]; exact hQ
      have t2 : Int.tmod V 10 = (r : Int) := by rw [Int.tmod_eq_emod_of_nonneg (by omega)]; omega
      have m1 : IntKind.i64.wrap Q = Q := by rw [IntKind.wrap_i64]; omega
      have m2 : IntKind.i64.wrap (r : Int) = (r : Int) := by rw [IntKind.wrap_i64]; omega
      have m3 : IntKind.i64.wrap ((r : Int) + 1) = ((r + 1 : Nat) : Int) := by rw [IntKind.wrap_i64]; omega
      have m4 : IntKind.i64.wrap ((q : Int) - 1) = (q : Int) - 1 := by rw [IntKind.wrap_i64]; omega
      have m5 : IntKind.i64.wrap (1 - Q) = 1 - Q := by rw [IntKind.wrap_i64]; omega
      have b1 : (r + 1 : Nat) ≤ 10 := by omega
      have b2 : r ≤ r + 1 := by omega
      rw [hQ, ← hr] at hst
      have HSt := Lib.hid hst
      have hO := sign_cons r (msum (minusF a b) 0 j).2 hr9 hdg
      rw [← sign_cut3 r hr9] at hO
      have hOz : (strOf (msum (minusF a b) 0 j).2).size = j := by rw [strOf_len]; exact hln
      generalize strOf (msum (minusF a b) 0 j).2 = OO at hO hOz ⊢
      have hcat : ¬ 9223372036854775807 < 1 + OO.size := by omega
      have HO := Lib.hid hO
      have HE := Lib.hid (And.intro (show (q : Int) - 1 = (n : Int) - 1 - ((j + 1 : Nat) : Int) by omega) (show ((q : Int) - 1 + 1).toNat < ((q : Int) + 1).toNat by omega))
      clear hst hO hOz hln hdg hC hC2 e0 hV hr hQ hq hqn hnn hn2 eA eB xA xB rA rB hcr
      go_upto_region 6 with fail
      refine wp_region_held_drew (S := (fun W : World => W = wr.drew)) (by kernel_rfl) rfl (fun hHeld => ?_)
      clear hHeld
      have HD := Lib.hid (HI.out.trans ((Below.refl wr.heap.size wr).drew.mono HI.out.size))
      generalize wr.drew = wd at HD ⊢
      have hT : (fun W : World => W = wd) wd := rfl
      refine wpAnyH_take (i := 0) (oi := { dst := some 16, op := Op.move (Operand.tmp 0), type := 9, pos := "ref.go:231", after := #[], guard := none }) (v := ?_) rfl (by kernel_rfl) (by kernel_rfl) (by kernel_rfl) (fun _ _ _ h => h) (Or.inl ⟨by rfl, ?_⟩) (by assumption) ?_
      rotate_left
      · intro w hSw
        try dsimp only at hSw
        go_simp
        try with_reducible rfl
      try simp only [Act.put, List.setIfInBounds_toArray, List.set_cons_zero, List.set_cons_succ]
      refine wpAnyH_take (i := 1) (oi := { dst := some 17, op := Op.move (Operand.tmp 7), type := 3, pos := "ref.go:231", after := #[], guard := none }) (v := ?_) rfl (by kernel_rfl) (by kernel_rfl) (by kernel_rfl) (fun _ _ _ h => h) (Or.inl ⟨by rfl, ?_⟩) (by assumption) ?_
      rotate_left
      · intro w hSw
        try dsimp only at hSw
        go_simp
        try with_reducible rfl
      try simp only [Act.put, List.setIfInBounds_toArray, List.set_cons_zero, List.set_cons_succ]
      refine wpAnyH_take (i := 2) (oi := { dst := some 18, op := Op.index 9 (Operand.tmp 16) (Operand.tmp 17), type := 5, pos := "ref.go:231", after := #[{ on := 0, ground := Ground.data }, { on := 1, ground := Ground.data }], guard := none }) (v := ?_) rfl (by kernel_rfl) (by kernel_rfl) (by kernel_rfl) (fun _ _ _ h => h) (Or.inl ⟨by rfl, ?_⟩) (by assumption) ?_
      rotate_left
      · intro w hSw
        try dsimp only at hSw
        go_simp
        try with_reducible rfl
      try simp only [Act.put, List.setIfInBounds_toArray, List.set_cons_zero, List.set_cons_succ]
      refine wpAnyH_take (i := 3) (oi := { dst := some 19, op := Op.binOp BinOp.sub 5 (Operand.tmp 18) (Operand.const (Value.int IntKind.u8 48)) 5, type := 5, pos := "ref.go:231", after := #[{ on := 2, ground := Ground.data }], guard := none }) (v := ?_) rfl (by kernel_rfl) (by kernel_rfl) (by kernel_rfl) (fun _ _ _ h => h) (Or.inl ⟨by rfl, ?_⟩) (by assumption) ?_
      rotate_left
      · intro w hSw
        try dsimp only at hSw
        go_simp
        try with_reducible rfl
      try simp only [Act.put, List.setIfInBounds_toArray, List.set_cons_zero, List.set_cons_succ]
      refine wpAnyH_take (i := 4) (oi := { dst := some 20, op := Op.convert 5 3 (Operand.tmp 19), type := 3, pos := "ref.go:231", after := #[{ on := 3, ground := Ground.data }], guard := none }) (v := ?_) rfl (by kernel_rfl) (by kernel_rfl) (by kernel_rfl) (fun _ _ _ h => h) (Or.inl ⟨by rfl, ?_⟩) (by assumption) ?_
      rotate_left
      · intro w hSw
        try dsimp only at hSw
        go_simp
        try with_reducible rfl
      try simp only [Act.put, List.setIfInBounds_toArray, List.set_cons_zero, List.set_cons_succ]
      refine wpAnyH_take (i := 5) (oi := { dst := some 21, op := Op.move (Operand.tmp 1), type := 9, pos := "ref.go:231", after := #[], guard := none }) (v := ?_) rfl (by kernel_rfl) (by kernel_rfl) (by kernel_rfl) (fun _ _ _ h => h) (Or.inl ⟨by rfl, ?_⟩) (by assumption) ?_
      rotate_left
      · intro w hSw
        try dsimp only at hSw
        go_simp
        try with_reducible rfl
      try simp only [Act.put, List.setIfInBounds_toArray, List.set_cons_zero, List.set_cons_succ]
      refine wpAnyH_take (i := 6) (oi := { dst := some 22, op := Op.move (Operand.tmp 7), type := 3, pos := "ref.go:231", after := #[], guard := none }) (v := ?_) rfl (by kernel_rfl) (by kernel_rfl) (by kernel_rfl) (fun _ _ _ h => h) (Or.inl ⟨by rfl, ?_⟩) (by assumption) ?_
      rotate_left
      · intro w hSw
        try dsimp only at hSw
        go_simp
        try with_reducible rfl
      try simp only [Act.put, List.setIfInBounds_toArray, List.set_cons_zero, List.set_cons_succ]
      refine wpAnyH_take (i := 7) (oi := { dst := some 23, op := Op.index 9 (Operand.tmp 21) (Operand.tmp 22), type := 5, pos := "ref.go:231", after := #[{ on := 5, ground := Ground.data }, { on := 6, ground := Ground.data }], guard := none }) (v := ?_) rfl (by kernel_rfl) (by kernel_rfl) (by kernel_rfl) (fun _ _ _ h => h) (Or.inl ⟨by rfl, ?_⟩) (by assumption) ?_
      rotate_left
      · intro w hSw
        try dsimp only at hSw
        go_simp
        try with_reducible rfl
      try simp only [Act.put, List.setIfInBounds_toArray, List.set_cons_zero, List.set_cons_succ]
      refine wpAnyH_take (i := 8) (oi := { dst := some 24, op := Op.binOp BinOp.sub 5 (Operand.tmp 23) (Operand.const (Value.int IntKind.u8 48)) 5, type := 5, pos := "ref.go:231", after := #[{ on := 7, ground := Ground.data }], guard := none }) (v := ?_) rfl (by kernel_rfl) (by kernel_rfl) (by kernel_rfl) (fun _ _ _ h => h) (Or.inl ⟨by rfl, ?_⟩) (by assumption) ?_
      rotate_left
      · intro w hSw
        try dsimp only at hSw
        go_simp
        try with_reducible rfl
      try simp only [Act.put, List.setIfInBounds_toArray, List.set_cons_zero, List.set_cons_succ]
      refine wpAnyH_take (i := 9) (oi := { dst := some 25, op := Op.convert 5 3 (Operand.tmp 24), type := 3, pos := "ref.go:231", after := #[{ on := 8, ground := Ground.data }], guard := none }) (v := ?_) rfl (by kernel_rfl) (by kernel_rfl) (by kernel_rfl) (fun _ _ _ h => h) (Or.inl ⟨by rfl, ?_⟩) (by assumption) ?_
      rotate_left
      · intro w hSw
        try dsimp only at hSw
        go_simp
        try with_reducible rfl
      try simp only [Act.put, List.setIfInBounds_toArray, List.set_cons_zero, List.set_cons_succ]
      refine wpAnyH_take (i := 10) (oi := { dst := some 26, op := Op.binOp BinOp.sub 3 (Operand.tmp 20) (Operand.tmp 25) 3, type := 3, pos := "ref.go:231", after := #[{ on := 4, ground := Ground.data }, { on := 9, ground := Ground.data }], guard := none }) (v := ?_) rfl (by kernel_rfl) (by kernel_rfl) (by kernel_rfl) (fun _ _ _ h => h) (Or.inl ⟨by rfl, ?_⟩) (by assumption) ?_
      rotate_left
      · intro w hSw
        try dsimp only at hSw
        go_simp
        try with_reducible rfl
      try simp only [Act.put, List.setIfInBounds_toArray, List.set_cons_zero, List.set_cons_succ]
      refine wpAnyH_take (i := 11) (oi := { dst := some 27, op := Op.move (Operand.tmp 6), type := 3, pos := "ref.go:231", after := #[], guard := none }) (v := ?_) rfl (by kernel_rfl) (by kernel_rfl) (by kernel_rfl) (fun _ _ _ h => h) (Or.inl ⟨by rfl, ?_⟩) (by assumption) ?_
      rotate_left
      · intro w hSw
        try dsimp only at hSw
        go_simp
        try with_reducible rfl
      try simp only [Act.put, List.setIfInBounds_toArray, List.set_cons_zero, List.set_cons_succ]
      refine wpAnyH_take (i := 12) (oi := { dst := some 28, op := Op.binOp BinOp.sub 3 (Operand.tmp 26) (Operand.tmp 27) 3, type := 3, pos := "ref.go:231", after := #[{ on := 10, ground := Ground.data }, { on := 11, ground := Ground.data }], guard := none }) (v := ?_) rfl (by kernel_rfl) (by kernel_rfl) (by kernel_rfl) (fun _ _ _ h => h) (Or.inl ⟨by rfl, ?_⟩) (by assumption) ?_
      rotate_left
      · intro w hSw
        try dsimp only at hSw
        go_simp
        try with_reducible rfl
      try simp only [Act.put, List.setIfInBounds_toArray, List.set_cons_zero, List.set_cons_succ]
      refine wpAnyH_take (i := 13) (oi := { dst := some 29, op := Op.binOp BinOp.add 3 (Operand.tmp 28) (Operand.const (Value.int IntKind.i64 10)) 3, type := 3, pos := "ref.go:231", after := #[{ on := 12, ground := Ground.data }], guard := none }) (v := ?_) rfl (by kernel_rfl) (by kernel_rfl) (by kernel_rfl) (fun _ _ _ h => h) (Or.inl ⟨by rfl, ?_⟩) (by assumption) ?_
      rotate_left
      · intro w hSw
        try dsimp only at hSw
        go_simp
        try with_reducible rfl
      try simp only [Act.put, List.setIfInBounds_toArray, List.set_cons_zero, List.set_cons_succ]
      refine wpAnyH_take (i := 14) (oi := { dst := some 8, op := Op.assign (Operand.tmp 29), type := 3, pos := "ref.go:231", after := #[{ on := 13, ground := Ground.data }, { on := 0, ground := Ground.phase }, { on := 1, ground := Ground.phase }, { on := 2, ground := Ground.phase }, { on := 3, ground := Ground.phase }, { on := 4, ground := Ground.phase }, { on := 5, ground := Ground.phase }, { on := 6, ground := Ground.phase }, { on := 7, ground := Ground.phase }, { on := 8, ground := Ground.phase }, { on := 9, ground := Ground.phase }, { on := 10, ground := Ground.phase }, { on := 11, ground := Ground.phase }, { on := 12, ground := Ground.phase }, { on := 13, ground := Ground.phase }], guard := none }) (v := ?_) rfl (by kernel_rfl) (by kernel_rfl) (by kernel_rfl) (fun _ _ _ h => h) (Or.inl ⟨by rfl, ?_⟩) (by assumption) ?_
      rotate_left
      · intro w hSw
        try dsimp only at hSw
        go_simp
        try with_reducible rfl
      try simp only [Act.put, List.setIfInBounds_toArray, List.set_cons_zero, List.set_cons_succ]
      refine wpAnyH_done (by kernel_rfl) ?_ _
      clear hT HI
      go_wp2_with fail
      refine ⟨⟨j + 1, by omega, ?_, ?_, ?_, HD⟩, ?_⟩
      · rw [HSt.out, HO.out]
      · rw [HSt.out]; exact congrArg _ (by show 1 - Q = -(Q - 1); omega)
      · rw [HE.out.1]
      · exact HE.out.2
    · obtain rfl : j = n := by omega
      have dq : decide ((0 : Int) ≤ (j : Int) - 1 - (j : Int)) = false := decide_eq_false (by omega)
      have hRe : res = strOf (msum (minusF a b) 0 j).2 := by rw [HRs.out, hnn]; rfl
      rw [← hRe]
      clear hln hdg hcr hnn hRe
      go_wp2_with fail
      go_ret
      exact ⟨rfl, HI.out⟩
end Go.Proofs.YtpnhgggdjlglnaaDoor.dk
/- The document's sums and differences: their values; texts as long in the order of their values. -/
namespace Go.Proofs.YtpnhgggdjlglnaaDoor.dk
open Go.PlainAid Go.ChangeShapes Go.WideShapes Go.ChangeAt Go.RowKit

theorem csum_lt (a b : Nat → Int) : ∀ n, (∀ i, i < n → a i = b i) → csum a n = csum b n
  | 0, _ => rfl
  | n + 1, h => by
    show csum a n + a n * 10 ^ n = csum b n + b n * 10 ^ n
    rw [csum_lt a b n (fun i hi => h i (by omega)), h n (by omega)]
theorem dsum_lt (f g : Int → Int) (lo : Int) : ∀ n : Nat, (∀ i : Nat, i < n → f (lo + (i : Int)) = g (lo + (i : Int))) → dsum f lo n = dsum g lo n
  | 0, _ => rfl
  | n + 1, h => by
    show dsum f lo n + f (lo + n) * 10 ^ n = dsum g lo n + g (lo + n) * 10 ^ n
    rw [dsum_lt f g lo n (fun i hi => h i (by omega)), h n (by omega)]
theorem rat_dat {l : List Int} {n j : Nat} (hl : l.length = n) (hj : j < n) : rat l n j = dat l 0 (0 + (j : Int)) := by
  unfold rat dat
  rw [if_neg (by omega), show ((l.length : Int) + 0 - 1 - (0 + (j : Int))).toNat = n - 1 - j by omega]
theorem dsum_self {l : List Int} {n : Nat} (hl : l.length = n) : dsum (dat l 0) 0 n = nv l := by
  rw [dsum_dat l 0 0 n (by omega) (by omega)]
  show nv l * 10 ^ 0 = _
  rw [Int.pow_zero, Int.mul_one]
theorem rat_sum {l : List Int} {n : Nat} (hl : l.length = n) : csum (rat l n) n = nv l := by
  rw [csum_lt _ (fun j => dat l 0 (0 + (j : Int))) n (fun i hi => rat_dat hl hi), csum_dsum, dsum_self hl]
theorem plus_digs {a b : ByteArray} (ha : Digs (unstr a)) (hb : Digs (unstr b)) (hn : b.size = a.size) : Digs ((48 + (psum (plusF a b) a.size).1) :: (psum (plusF a b) a.size).2) := fun x hx => by
  have hc := plus_carry ha hb hn a.size (Nat.le_refl _)
  rcases List.mem_cons.1 hx with rfl | hx
  · unfold isDig
    simp only [Bool.and_eq_true, decide_eq_true_eq]
    omega
  · exact psum_dig _ _ x hx
theorem plus_text {a b : ByteArray} (ha : Digs (unstr a)) (hb : Digs (unstr b)) (hn : b.size = a.size) : unstr (plusB a b) = (48 + (psum (plusF a b) a.size).1) :: (psum (plusF a b) a.size).2 := unstr_strOf _ (plus_digs ha hb hn).bys
theorem plus_val {a b : ByteArray} (ha : Digs (unstr a)) (hb : Digs (unstr b)) (hn : b.size = a.size) : nv (unstr (plusB a b)) = nv (unstr a) + nv (unstr b) := by
  have hv := psum_val (plusF a b) a.size
  rw [csum_add (rat (unstr a) a.size) (rat (unstr b) a.size) (plusF a b) (fun _ => rfl), rat_sum (unstr_length a), rat_sum ((unstr_length b).trans hn)] at hv
  rw [plus_text ha hb hn, hv]
  show (48 + (psum (plusF a b) a.size).1 - 48) * 10 ^ (psum (plusF a b) a.size).2.length + _ = _
  rw [psum_len]
  generalize (psum (plusF a b) a.size).1 = C
  rw [show 48 + C - 48 = C by omega]
theorem plus_size {a b : ByteArray} : (plusB a b).size = a.size + 1 := by
  unfold plusB
  rw [strOf_len, List.length_cons, psum_len]
theorem minus_text (a b : ByteArray) : unstr (minusB a b) = (msum (minusF a b) 0 a.size).2 := unstr_strOf _ (Digs.bys (msum_dig _ _ _))
theorem minus_val {a b : ByteArray} (ha : Digs (unstr a)) (hb : Digs (unstr b)) (hn : b.size = a.size) (hle : nv (unstr b) ≤ nv (unstr a)) : nv (unstr (minusB a b)) = nv (unstr a) - nv (unstr b) := by
  have hv := msum_val (minusF a b) 0 a.size
  have e : ∀ i : Nat, i < a.size → minusF a b (0 + (i : Int)) = (fun p => dat (unstr a) 0 p + (-1) * dat (unstr b) 0 p) (0 + (i : Int)) := fun i hi => by
    show minusF a b (0 + (i : Int)) = dat (unstr a) 0 (0 + (i : Int)) + (-1) * dat (unstr b) 0 (0 + (i : Int))
    rw [← rat_dat (unstr_length a) hi, ← rat_dat ((unstr_length b).trans hn) hi]
    unfold minusF
    rw [show (0 + (i : Int)).toNat = i by omega]
    omega
  rw [dsum_lt _ (fun p => dat (unstr a) 0 p + (-1) * dat (unstr b) 0 p) 0 a.size e, dsum_add (dat (unstr a) 0) (dat (unstr b) 0) _ (-1) 0 (fun _ => rfl), dsum_self (unstr_length a), dsum_self ((unstr_length b).trans hn)] at hv
  have hc := minus_carry ha hb hn a.size (Nat.le_refl _)
  have hr := nv_range _ (show Digs (msum (minusF a b) 0 a.size).2 from msum_dig _ _ _)
  rw [msum_len] at hr
  rw [minus_text]
  generalize (msum (minusF a b) 0 a.size).1 = C at hv hc
  have hp := ten_pos a.size
  rcases (show C = 0 ∨ C = -1 by omega) with rfl | rfl
  · omega
  · omega
theorem minus_size {a b : ByteArray} : (minusB a b).size = a.size := by
  unfold minusB
  rw [strOf_len, msum_len]
theorem wide_text (s : ByteArray) (n : Nat) : unstr (wideB s n) = List.replicate (n - s.size) 48 ++ unstr s := by
  unfold wideB
  rw [unstr_app, zers_list]
theorem wide_nv (s : ByteArray) (n : Nat) : nv (unstr (wideB s n)) = nv (unstr s) := by
  rw [wide_text, nv_append, nv_zeros, Int.zero_mul, Int.zero_add]
theorem wide_size (s : ByteArray) (n : Nat) (h : s.size ≤ n) : (wideB s n).size = n := by
  unfold wideB
  rw [ByteArray.size_append, zers_size]
  omega
theorem wide_digs {s : ByteArray} {n : Nat} (h : Digs (unstr s)) : Digs (unstr (wideB s n)) := by
  rw [wide_text]
  exact (zeros_digs _).append h
/-- Texts of digits, as long, are in the order of their values. -/
theorem lex_lt : ∀ (X Y : List Int) (i : Nat), X.length = Y.length → Digs X → Digs Y → i < X.length → (∀ k, k < i → X.getD k 0 = Y.getD k 0) → X.getD i 0 < Y.getD i 0 → nv X < nv Y
  | [], _, i, _, _, _, hi, _, _ => absurd hi (by simp)
  | _ :: _, [], _, hl, _, _, _, _, _ => absurd hl (by simp)
  | c :: X, d :: Y, i, hl, hx, hy, hi, he, hlt => by
    have hl' : X.length = Y.length := by simpa using hl
    have h1 := nv_range X hx.tail
    have h2 := nv_range Y hy.tail
    show (c - 48) * 10 ^ X.length + nv X < (d - 48) * 10 ^ Y.length + nv Y
    rw [hl'] at h1 ⊢
    have hp := ten_pos Y.length
    cases i with
    | zero =>
      have hcd : c < d := hlt
      generalize (10 : Int) ^ Y.length = P at *
      have := Int.mul_le_mul_of_nonneg_right (show c - 48 + 1 ≤ d - 48 by omega) (show 0 ≤ P by omega)
      rw [Int.add_mul] at this
      omega
    | succ i =>
      have hcd : c = d := he 0 (by omega)
      have := lex_lt X Y i hl' hx.tail hy.tail (by simpa using hi) (fun k hk => he (k + 1) (by omega)) hlt
      rw [hcd]
      omega
/-- Both numbers' digits, at one exponent, as long. -/
def eqlB (a b : Nm) : ByteArray := a.dg ++ zers (a.ex - min a.ex b.ex).toNat
def eqlN (a b : Nm) : Nat := max (eqlB a b).size (eqlB b a).size
def eqlW (a b : Nm) : ByteArray := wideB (eqlB a b) (eqlN a b)
theorem eqlB_digs {a b : Nm} (ha : Digs a.l) : Digs (unstr (eqlB a b)) := by
  unfold eqlB
  rw [unstr_app, zers_list]
  exact Digs.append ha (zeros_digs _)
theorem eqlN_comm (a b : Nm) : eqlN a b = eqlN b a := Nat.max_comm _ _
theorem eqlW_digs {a b : Nm} (ha : Digs a.l) : Digs (unstr (eqlW a b)) := wide_digs (eqlB_digs ha)
theorem eqlW_size (a b : Nm) : (eqlW a b).size = eqlN a b := wide_size _ _ (Nat.le_max_left _ _)
theorem eqlW_val {a b : Nm} (la : low ≤ a.ex) (lb : low ≤ b.ex) : nv (unstr (eqlW a b)) * 10 ^ (min a.ex b.ex - low).toNat = a.mag := by
  unfold eqlW
  rw [wide_nv]
  unfold eqlB Nm.mag
  rw [unstr_app, zers_list, nv_append, nv_zeros, List.length_replicate, Int.add_zero, Int.mul_assoc, ← Int.pow_add]
  show nv (unstr a.dg) * _ = nv (unstr a.dg) * _
  congr 2
  omega
theorem eqlW_swap (a b : Nm) (la : low ≤ a.ex) (lb : low ≤ b.ex) : nv (unstr (eqlW b a)) * 10 ^ (min a.ex b.ex - low).toNat = b.mag := by
  have := eqlW_val (a := b) (b := a) lb la
  rw [show min b.ex a.ex = min a.ex b.ex by omega] at this
  exact this
theorem ref_same {a b : Nm} (ha : a.ok = true) (hb : b.ok = true) (hn : a.neg = b.neg) : fmN a.neg (plusB (eqlW a b) (eqlW b a)) (min a.ex b.ex) = sumN a b := by
  have na := Nm.ok_norm ha
  have nb := Nm.ok_norm hb
  have la := low_ok ha
  have lb := low_ok hb
  have sz : (eqlW b a).size = (eqlW a b).size := by rw [eqlW_size, eqlW_size, eqlN_comm]
  have da := eqlW_digs (b := b) na.n.dig
  have db := eqlW_digs (b := a) nb.n.dig
  have hd : Digs (unstr (plusB (eqlW a b) (eqlW b a))) := by rw [plus_text da db sz]; exact plus_digs da db sz
  obtain ⟨n2, l2, v2⟩ := sum_all ha hb
  refine Nm.uniq (fmN_norm _ _ _ hd) n2 (fmN_ex _ _ _ (by omega)) l2 ?_
  rw [fmN_val _ _ _ (by omega), v2, plus_val da db sz, Int.add_mul, eqlW_val la lb, eqlW_swap a b la lb]
  unfold Nm.val
  rw [← hn]
  cases a.neg
  · rfl
  · simp only [if_true]
    omega
theorem ref_less {a b : Nm} (ha : a.ok = true) (hb : b.ok = true) (hn : ¬ a.neg = b.neg) (hl : nv (unstr (eqlW b a)) ≤ nv (unstr (eqlW a b))) : fmN a.neg (minusB (eqlW a b) (eqlW b a)) (min a.ex b.ex) = sumN a b := by
  have na := Nm.ok_norm ha
  have nb := Nm.ok_norm hb
  have la := low_ok ha
  have lb := low_ok hb
  have sz : (eqlW b a).size = (eqlW a b).size := by rw [eqlW_size, eqlW_size, eqlN_comm]
  have da := eqlW_digs (b := b) na.n.dig
  have db := eqlW_digs (b := a) nb.n.dig
  have hd : Digs (unstr (minusB (eqlW a b) (eqlW b a))) := by rw [minus_text]; exact msum_dig _ _ _
  obtain ⟨n2, l2, v2⟩ := sum_all ha hb
  refine Nm.uniq (fmN_norm _ _ _ hd) n2 (fmN_ex _ _ _ (by omega)) l2 ?_
  rw [fmN_val _ _ _ (by omega), v2, minus_val da db sz hl, Int.sub_mul, eqlW_val la lb, eqlW_swap a b la lb]
  unfold Nm.val
  cases ea : a.neg <;> cases eb : b.neg <;> rw [ea, eb] at hn <;> simp at hn ⊢ <;> omega
end Go.Proofs.YtpnhgggdjlglnaaDoor.dk
