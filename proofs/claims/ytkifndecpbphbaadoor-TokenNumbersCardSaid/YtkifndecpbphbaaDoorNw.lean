/- TokenNumbers. -/
import Derived.Test.YtkifndecpbphbaaDoorNu
import Derived.Test.YtkifndecpbphbaaDoorTR
namespace Go.Proofs.YtkifndecpbphbaaDoor.dk
open Go.PlainAid Go.ChangeShapes Go.WideShapes Go.ChangeAt Go.RowKit

theorem strOf_app (a b : List Int) : strOf (a ++ b) = strOf a ++ strOf b := by
  apply ByteArray.ext
  apply Array.ext'
  rw [strOf_data, ByteArray.data_append, Array.toList_append, strOf_data, strOf_data, List.map_append]
theorem digit_cut : ∀ r : Fin 10, (⟨#[48, 49, 50, 51, 52, 53, 54, 55, 56, 57]⟩ : ByteArray).extract r.val (r.val + 1) = strOf [48 + (r.val : Int)] := by decide +kernel
theorem strOf_dot : strOf [46, 46] = ⟨#[46, 46]⟩ := by decide +kernel
/-- What the law asks of digits with a sign ahead, or not. -/
theorem numbers_facts (neg : Bool) {W : List Int} (hW : Digs W) (h0 : W ≠ []) (hz : W.length = 1 ∨ W.getD 0 0 ≠ 48) (hs : W.length ≤ 5) {S : ByteArray} (hS : S = strOf (sgT neg ++ W)) :
    ∃ (qn : Bool) (qd : ByteArray) (qx : Int), S.size ≤ 6 ∧ allL (unstr S) = ([(⟨3, [], qn, qd, qx⟩, 0, S.size)], 0) ∧
      allL (unstr (S ++ ⟨#[46, 46]⟩ ++ S)) = ([(⟨3, [], qn, qd, qx⟩, 0, S.size), (⟨4, [46, 46], false, ⟨#[]⟩, 0⟩, S.size, S.size + 2), (⟨3, [], qn, qd, qx⟩, S.size + 2, S.size + 2 + S.size)], 0) ∧
      (neg = false → allL (unstr (⟨#[48]⟩ ++ S)) = ([], 2)) := by
  have hO := sgT_oct hW neg
  have hu : unstr S = sgT neg ++ W := by rw [hS, unstr_strOf _ hO]
  have hsz : S.size = (sgT neg ++ W).length := by rw [← hu, unstr_length]
  have hl1 : (sgT neg).length ≤ 1 := by cases neg <;> decide
  have h1 := num_one (neg := neg) hW h0 hz (by omega)
  have h3 := num_three (neg := neg) hW h0 hz (by omega)
  refine ⟨(numT (sgT neg ++ W)).neg, (numT (sgT neg ++ W)).dg, (numT (sgT neg ++ W)).ex, by rw [hsz, List.length_append]; omega, ?_, ?_, fun hn => ?_⟩
  · rw [hu, hsz, h1]
    rfl
  · rw [unstr_app, unstr_app, hu, hsz]
    show allL ((sgT neg ++ W) ++ [46, 46] ++ (sgT neg ++ W)) = _
    rw [List.append_assoc (sgT neg ++ W)]
    show allL ((sgT neg ++ W) ++ 46 :: 46 :: (sgT neg ++ W)) = _
    rw [h3]
    rfl
  · subst hn
    rw [unstr_app, hu]
    show allL (48 :: W) = _
    exact num_lead hW h0 (by omega)
def strLen : Value → Nat | .string s => s.size | _ => 0
set_option maxRecDepth 100000 in
set_option maxHeartbeats 8000000 in
theorem numbers_any (w : World) (a : Int) (neg : Bool) (hF : utf.Forms w) (mx : Int) (hm : w.cell? ⟨1, 0, none⟩ = some (.int .i64 mx)) :
    Calls Tryd.prog 6 #[.int .i64 a, .bool neg] w fun e w' => e = .returned (.bool true) ∧ Below w.heap.size w w' := by
  have HAw := Lib.hid (awake_any w hF mx hm)
  have HAA : Hid (∀ (t : ByteArray), t.size ≤ 1000 → ∀ v, Below w.heap.size w v → Calls Tryd.prog 9 #[.string t] v (AllP v (allL (unstr t)))) := fun t ht v h => All_any v t (hF.below h hF.size) (by omega) mx ((h.cell (World.block_lt_of_cell? _ _ hm)).trans hm)
  obtain ⟨N, hN, hNl⟩ : ∃ N : Nat, bits .and .i64 a 65535 = (N : Int) ∧ N < 65536 := ⟨(a % 65536).toNat, by rw [andm65535]; omega, by omega⟩
  clear hF hm
  go_enter Tryd.func6, Tryd.ntmps6
  go_wp2_with fail
  with_reducible refine HAw.out.mono ?_
  rintro e w1 ⟨rfl, hb1⟩
  have HB1 := Lib.hid hb1
  clear hb1
  go_upto_region 5 with fail
  clear hN
  go_loopw [6, 7, 8] (fun sv kv iv wr => ∃ (i q : Nat) (l : List Int), i ≤ 5 ∧ iv = .int .i64 i ∧ sv = .string (strOf l) ∧ kv = .int .i64 q ∧ q < 65536 ∧ Hid (Digs l ∧ l.length = i) ∧ wr = w1) (fun _ _ iv _ => 5 - (intOf iv).toNat)
  case atStart => exact ⟨0, N, [], Nat.zero_le _, rfl, rfl, rfl, hNl, ⟨(fun x hx => by cases hx), rfl⟩, rfl⟩
  case round =>
    clear hNl
    obtain ⟨i, q, l, hi, rfl, rfl, rfl, hq, hL, rfl⟩ := hrel
    by_cases hi5 : i < 5
    · have tm : ((q : Nat) : Int).tmod 10 = ((q % 10 : Nat) : Int) := by rw [Int.tmod_eq_emod_of_nonneg (by omega)]; omega
      have td : ((q : Nat) : Int).tdiv 10 = ((q / 10 : Nat) : Int) := by rw [Int.tdiv_eq_ediv_of_nonneg (by omega)]; omega
      have hr : q % 10 < 10 := Nat.mod_lt _ (by decide)
      have hq2 : q / 10 < 65536 := by omega
      have hcut := digit_cut ⟨q % 10, hr⟩
      dsimp only at hcut
      have hsz : (strOf l).size ≤ 5 := by rw [strOf_size]; have := hL.out.2; omega
      have hcat : strOf [48 + ((q % 10 : Nat) : Int)] ++ strOf l = strOf ((48 + ((q % 10 : Nat) : Int)) :: l) := by rw [← strOf_app]; rfl
      have hL2 : Hid (Digs ((48 + ((q % 10 : Nat) : Int)) :: l) ∧ ((48 + ((q % 10 : Nat) : Int)) :: l).length = i + 1) := ⟨fun x hx => by
        rcases List.mem_cons.1 hx with rfl | hx
        · unfold isDig
          rw [decide_eq_true (show 48 ≤ 48 + ((q % 10 : Nat) : Int) by omega), decide_eq_true (show 48 + ((q % 10 : Nat) : Int) ≤ 57 by omega)]
          rfl
        · exact hL.out.1 x hx, by rw [List.length_cons, hL.out.2]⟩
      have hz1 : (strOf [48 + ((q % 10 : Nat) : Int)]).size = 1 := by rw [strOf_size]; rfl
      have HCat := Lib.hid hcat
      clear hcat
      generalize strOf ((48 + ((q % 10 : Nat) : Int)) :: l) = S2 at HCat
      have hS2 : S2 = strOf ((48 + ((q % 10 : Nat) : Int)) :: l) := by rw [← HCat.out, ← strOf_app]; rfl
      have HS2 := Lib.hid hS2
      clear hS2
      generalize strOf [48 + ((q % 10 : Nat) : Int)] = S1 at hcut HCat hz1
      generalize 48 + ((q % 10 : Nat) : Int) = c0 at HS2 hL2
      generalize q % 10 = r at tm hr hcut
      generalize q / 10 = q2 at td hq2
      have hss : S1.size + (strOf l).size ≤ 9223372036854775807 := by omega
      go_wp2_with fail
      go_roundw
      case rel => exact ⟨i + 1, q2, c0 :: l, by omega, by go_num, by rw [HCat.out, HS2.out], rfl, hq2, hL2, trivial⟩
      case measure => simp [intOf]; omega
    · have hi6 : i = 5 := by omega
      subst hi6
      clear hi hq hi5
      go_upto_region 9 with fail
      go_loopw [6] (fun sv wq => ∃ (W : List Int), sv = .string (strOf W) ∧ Hid (Digs W ∧ 1 ≤ W.length ∧ W.length ≤ 5) ∧ wq = wr) (fun sv _ => strLen sv)
      case atStart => exact ⟨l, rfl, ⟨hL.out.1, by rw [hL.out.2]; decide, by rw [hL.out.2]; decide⟩, rfl⟩
      case round =>
        clear hL
        obtain ⟨W, rfl, hW, rfl⟩ := hrel
        have hsz := strOf_size W
        have hW1 := hW.out.2.1
        have hW5 := hW.out.2.2
        have h0s : 0 < (strOf W).size := by omega
        by_cases h1 : 1 < W.length
        · have d1 : decide ((1 : Int) < (((strOf W).size : Nat) : Int)) = true := decide_eq_true (by omega)
          have hat := byte_at (strOf W) 0 h0s
          rw [unstr_strOf _ (digs_oct hW.out.1)] at hat
          by_cases h48 : W.getD 0 0 = 48
          · have b48 : ((((strOf W)[0]'h0s).toNat : Nat) : Int) = 48 := by rw [hat]; exact h48
            have hdr : (strOf W).extract 1 (strOf W).size = strOf (W.drop 1) := by
              have h := unstr_from (strOf W) 1
              rw [unstr_strOf _ (digs_oct hW.out.1)] at h
              rw [← h, strOf_unstr]
            have HDr := Lib.hid hdr
            have hW2 : Hid (Digs (W.drop 1) ∧ 1 ≤ (W.drop 1).length ∧ (W.drop 1).length ≤ 5) := ⟨fun x hx => hW.out.1 x (List.mem_of_mem_drop hx), by rw [List.length_drop]; omega, by rw [List.length_drop]; omega⟩
            have h1s : 1 ≤ (strOf W).size := by omega
            have HSz := Lib.hid hsz
            clear hat hdr hsz
            go_wp2_with fail
            go_roundw
            case rel => exact ⟨W.drop 1, by rw [HDr.out], hW2, trivial⟩
            case measure =>
              rw [HDr.out]
              show (strOf (W.drop 1)).size < (strOf W).size
              rw [HSz.out, strOf_size, List.length_drop]
              omega
          · obtain ⟨zz, hzz⟩ : ∃ zz, ((((strOf W)[0]'h0s).toNat : Nat) : Int) = zz := ⟨_, rfl⟩
            have b48 : (zz == 48) = false := beq_eq_false_iff_ne.2 (by rw [← hzz, hat]; exact h48)
            have hz : W.length = 1 ∨ W.getD 0 0 ≠ 48 := .inr h48
            clear hat hsz
            cases neg with
            | false =>
              go_upto_region 13 with fail
              obtain ⟨S, HSS⟩ : ∃ S, Hid (S = strOf (sgT false ++ W)) := ⟨_, rfl⟩
              have hSW : strOf W = S := HSS.out.symm
              rw [hSW]
              clear hSW
              clear d1 b48 hzz
              obtain ⟨qn, qd, qx, hS6, k1, k2, k3⟩ := numbers_facts false hW.out.1 (fun e => by rw [e] at hW1; simp at hW1) hz hW5 HSS.out
              have hA1 := HAA.out S (by omega)
              have hA2 := HAA.out (S ++ ⟨#[46, 46]⟩ ++ S) (by rw [ByteArray.size_append, ByteArray.size_append]; show S.size + 2 + S.size ≤ _; omega)
              have hA3 := HAA.out (⟨#[48]⟩ ++ S) (by rw [ByteArray.size_append]; show 1 + S.size ≤ _; omega)
              rw [k1] at hA1
              rw [k2] at hA2
              rw [k3 rfl] at hA3
              have HA1 := Lib.hid hA1
              have HA2 := Lib.hid hA2
              have HA3 := Lib.hid hA3
              have s1 : S.size + 2 ≤ 9223372036854775807 := by omega
              have s2 : S.size + 2 + S.size ≤ 9223372036854775807 := by omega
              have s3 : 1 + S.size ≤ 9223372036854775807 := by omega
              clear hA1 hA2 hA3 k1 k2 k3 HAA HSS hz hW hW1 hW5 HAw
              go_wp2_with fail
              with_reducible refine (HA1.out _ HB1.out).mono ?_
              rintro e w2 ⟨p, c, rfl, hown, hb2⟩
              have hr : RdT w2 p 1 [((⟨3, [], qn, qd, qx⟩ : Tk), 0, S.size)] := owned_rdT hown
              obtain ⟨b, rfl⟩ := hr.form (by decide)
              have HR := Lib.hid hr
              have HB2 := Lib.hid (HB1.out.trans (hb2.mono HB1.out.size))
              clear hb2 HB1 hown hr
              go_wp2_with fail
              with_reducible refine (HA2.out _ HB2.out).mono ?_
              rintro e w3 ⟨p2, c2, rfl, hown, hb3⟩
              have hr2 : RdT w3 p2 3 [((⟨3, [], qn, qd, qx⟩ : Tk), 0, S.size), (⟨4, [46, 46], false, ⟨#[]⟩, 0⟩, S.size, S.size + 2), (⟨3, [], qn, qd, qx⟩, S.size + 2, S.size + 2 + S.size)] := owned_rdT hown
              obtain ⟨b2, rfl⟩ := hr2.form (by decide)
              have HR2 := Lib.hid hr2
              have HR1 := Lib.hid (HR.out.below hb3)
              have HB3 := Lib.hid (HB2.out.trans (hb3.mono HB2.out.size))
              clear hb3 HB2 hown hr2 HR
              go_wp2_with fail
              with_reducible refine (HA3.out _ HB3.out).mono ?_
              rintro e w4 ⟨p3, c3, rfl, hown, hb4⟩
              have g1 := HR1.out.below hb4
              have g2 := HR2.out.below hb4
              have c1 : w4.cell? ⟨b, 0, none⟩ = some (.int .i64 3) := (g1.seven 0 (by decide)).1
              have c2 : w4.cell? ⟨b, 2, none⟩ = some (.bool qn) := (g1.seven 0 (by decide)).2.2.1
              have c3 : w4.cell? ⟨b, 3, none⟩ = some (.string qd) := (g1.seven 0 (by decide)).2.2.2.1
              have c4 : w4.cell? ⟨b, 4, none⟩ = some (.int .i64 qx) := (g1.seven 0 (by decide)).2.2.2.2.1
              have c6 : w4.cell? ⟨b, 6, none⟩ = some (.int .i64 (S.size : Int)) := (g1.seven 0 (by decide)).2.2.2.2.2.2
              have d2 : w4.cell? ⟨b2, 2, none⟩ = some (.bool qn) := (g2.seven 0 (by decide)).2.2.1
              have d3 : w4.cell? ⟨b2, 3, none⟩ = some (.string qd) := (g2.seven 0 (by decide)).2.2.2.1
              have d4 : w4.cell? ⟨b2, 4, none⟩ = some (.int .i64 qx) := (g2.seven 0 (by decide)).2.2.2.2.1
              have d8 : w4.cell? ⟨b2, 8, none⟩ = some (.string (strOf [46, 46])) := (g2.seven 1 (by decide)).2.1
              have f2 : w4.cell? ⟨b2, 16, none⟩ = some (.bool qn) := (g2.seven 2 (by decide)).2.2.1
              have f3 : w4.cell? ⟨b2, 17, none⟩ = some (.string qd) := (g2.seven 2 (by decide)).2.2.2.1
              have f4 : w4.cell? ⟨b2, 18, none⟩ = some (.int .i64 qx) := (g2.seven 2 (by decide)).2.2.2.2.1
              rw [strOf_dot] at d8
              have HB4 := Lib.hid (HB3.out.trans (hb4.mono HB3.out.size))
              clear hb4 HB3 hown g1 g2 HR1 HR2
              go_upto_region 17 with fail
              go_quiet (fail)
              go_wp2_with fail
              go_ret
              exact ⟨rfl, HB4.out.trans ⟨rfl, rfl, rfl, Nat.le_refl _, fun _ _ => rfl⟩⟩
            | true =>
              have hsm : 1 + (strOf W).size ≤ 9223372036854775807 := by rw [strOf_size]; omega
              go_upto_region 13 with fail
              obtain ⟨S, HSS⟩ : ∃ S, Hid (S = strOf (sgT true ++ W)) := ⟨_, rfl⟩
              have hSW : (⟨#[45]⟩ : ByteArray) ++ strOf W = S := by rw [HSS.out, strOf_app]; rfl
              rw [hSW]
              clear hSW hsm
              clear d1 b48 hzz
              obtain ⟨qn, qd, qx, hS6, k1, k2, k3⟩ := numbers_facts true hW.out.1 (fun e => by rw [e] at hW1; simp at hW1) hz hW5 HSS.out
              have hA1 := HAA.out S (by omega)
              have hA2 := HAA.out (S ++ ⟨#[46, 46]⟩ ++ S) (by rw [ByteArray.size_append, ByteArray.size_append]; show S.size + 2 + S.size ≤ _; omega)
              have hA3 := HAA.out (⟨#[48]⟩ ++ S) (by rw [ByteArray.size_append]; show 1 + S.size ≤ _; omega)
              rw [k1] at hA1
              rw [k2] at hA2
              generalize allL (unstr (⟨#[48]⟩ ++ S)) = r3 at hA3
              obtain ⟨l3, e3⟩ := r3
              have HA1 := Lib.hid hA1
              have HA2 := Lib.hid hA2
              have HA3 := Lib.hid hA3
              have s1 : S.size + 2 ≤ 9223372036854775807 := by omega
              have s2 : S.size + 2 + S.size ≤ 9223372036854775807 := by omega
              have s3 : 1 + S.size ≤ 9223372036854775807 := by omega
              clear hA1 hA2 hA3 k1 k2 k3 HAA HSS hz hW hW1 hW5 HAw
              go_wp2_with fail
              with_reducible refine (HA1.out _ HB1.out).mono ?_
              rintro e w2 ⟨p, c, rfl, hown, hb2⟩
              have hr : RdT w2 p 1 [((⟨3, [], qn, qd, qx⟩ : Tk), 0, S.size)] := owned_rdT hown
              obtain ⟨b, rfl⟩ := hr.form (by decide)
              have HR := Lib.hid hr
              have HB2 := Lib.hid (HB1.out.trans (hb2.mono HB1.out.size))
              clear hb2 HB1 hown hr
              go_wp2_with fail
              with_reducible refine (HA2.out _ HB2.out).mono ?_
              rintro e w3 ⟨p2, c2, rfl, hown, hb3⟩
              have hr2 : RdT w3 p2 3 [((⟨3, [], qn, qd, qx⟩ : Tk), 0, S.size), (⟨4, [46, 46], false, ⟨#[]⟩, 0⟩, S.size, S.size + 2), (⟨3, [], qn, qd, qx⟩, S.size + 2, S.size + 2 + S.size)] := owned_rdT hown
              obtain ⟨b2, rfl⟩ := hr2.form (by decide)
              have HR2 := Lib.hid hr2
              have HR1 := Lib.hid (HR.out.below hb3)
              have HB3 := Lib.hid (HB2.out.trans (hb3.mono HB2.out.size))
              clear hb3 HB2 hown hr2 HR
              go_wp2_with fail
              with_reducible refine (HA3.out _ HB3.out).mono ?_
              rintro e w4 ⟨p3, c3, rfl, hown, hb4⟩
              have g1 := HR1.out.below hb4
              have g2 := HR2.out.below hb4
              have c1 : w4.cell? ⟨b, 0, none⟩ = some (.int .i64 3) := (g1.seven 0 (by decide)).1
              have c2 : w4.cell? ⟨b, 2, none⟩ = some (.bool qn) := (g1.seven 0 (by decide)).2.2.1
              have c3 : w4.cell? ⟨b, 3, none⟩ = some (.string qd) := (g1.seven 0 (by decide)).2.2.2.1
              have c4 : w4.cell? ⟨b, 4, none⟩ = some (.int .i64 qx) := (g1.seven 0 (by decide)).2.2.2.2.1
              have c6 : w4.cell? ⟨b, 6, none⟩ = some (.int .i64 (S.size : Int)) := (g1.seven 0 (by decide)).2.2.2.2.2.2
              have d2 : w4.cell? ⟨b2, 2, none⟩ = some (.bool qn) := (g2.seven 0 (by decide)).2.2.1
              have d3 : w4.cell? ⟨b2, 3, none⟩ = some (.string qd) := (g2.seven 0 (by decide)).2.2.2.1
              have d4 : w4.cell? ⟨b2, 4, none⟩ = some (.int .i64 qx) := (g2.seven 0 (by decide)).2.2.2.2.1
              have d8 : w4.cell? ⟨b2, 8, none⟩ = some (.string (strOf [46, 46])) := (g2.seven 1 (by decide)).2.1
              have f2 : w4.cell? ⟨b2, 16, none⟩ = some (.bool qn) := (g2.seven 2 (by decide)).2.2.1
              have f3 : w4.cell? ⟨b2, 17, none⟩ = some (.string qd) := (g2.seven 2 (by decide)).2.2.2.1
              have f4 : w4.cell? ⟨b2, 18, none⟩ = some (.int .i64 qx) := (g2.seven 2 (by decide)).2.2.2.2.1
              rw [strOf_dot] at d8
              have HB4 := Lib.hid (HB3.out.trans (hb4.mono HB3.out.size))
              clear hb4 HB3 hown g1 g2 HR1 HR2
              go_upto_region 17 with fail
              go_quiet (fail)
              go_wp2_with fail
              go_ret
              exact ⟨rfl, HB4.out.trans ⟨rfl, rfl, rfl, Nat.le_refl _, fun _ _ => rfl⟩⟩
        · have d1 : decide ((1 : Int) < (((strOf W).size : Nat) : Int)) = false := decide_eq_false (by omega)
          have hz : W.length = 1 ∨ W.getD 0 0 ≠ 48 := .inl (by omega)
          clear hsz
          cases neg with
          | false =>
            go_upto_region 13 with fail
            obtain ⟨S, HSS⟩ : ∃ S, Hid (S = strOf (sgT false ++ W)) := ⟨_, rfl⟩
            have hSW : strOf W = S := HSS.out.symm
            rw [hSW]
            clear hSW
            clear d1
            obtain ⟨qn, qd, qx, hS6, k1, k2, k3⟩ := numbers_facts false hW.out.1 (fun e => by rw [e] at hW1; simp at hW1) hz hW5 HSS.out
            have hA1 := HAA.out S (by omega)
            have hA2 := HAA.out (S ++ ⟨#[46, 46]⟩ ++ S) (by rw [ByteArray.size_append, ByteArray.size_append]; show S.size + 2 + S.size ≤ _; omega)
            have hA3 := HAA.out (⟨#[48]⟩ ++ S) (by rw [ByteArray.size_append]; show 1 + S.size ≤ _; omega)
            rw [k1] at hA1
            rw [k2] at hA2
            rw [k3 rfl] at hA3
            have HA1 := Lib.hid hA1
            have HA2 := Lib.hid hA2
            have HA3 := Lib.hid hA3
            have s1 : S.size + 2 ≤ 9223372036854775807 := by omega
            have s2 : S.size + 2 + S.size ≤ 9223372036854775807 := by omega
            have s3 : 1 + S.size ≤ 9223372036854775807 := by omega
            clear hA1 hA2 hA3 k1 k2 k3 HAA HSS hz hW hW1 hW5 HAw
            go_wp2_with fail
            with_reducible refine (HA1.out _ HB1.out).mono ?_
            rintro e w2 ⟨p, c, rfl, hown, hb2⟩
            have hr : RdT w2 p 1 [((⟨3, [], qn, qd, qx⟩ : Tk), 0, S.size)] := owned_rdT hown
            obtain ⟨b, rfl⟩ := hr.form (by decide)
            have HR := Lib.hid hr
            have HB2 := Lib.hid (HB1.out.trans (hb2.mono HB1.out.size))
            clear hb2 HB1 hown hr
            go_wp2_with fail
            with_reducible refine (HA2.out _ HB2.out).mono ?_
            rintro e w3 ⟨p2, c2, rfl, hown, hb3⟩
            have hr2 : RdT w3 p2 3 [((⟨3, [], qn, qd, qx⟩ : Tk), 0, S.size), (⟨4, [46, 46], false, ⟨#[]⟩, 0⟩, S.size, S.size + 2), (⟨3, [], qn, qd, qx⟩, S.size + 2, S.size + 2 + S.size)] := owned_rdT hown
            obtain ⟨b2, rfl⟩ := hr2.form (by decide)
            have HR2 := Lib.hid hr2
            have HR1 := Lib.hid (HR.out.below hb3)
            have HB3 := Lib.hid (HB2.out.trans (hb3.mono HB2.out.size))
            clear hb3 HB2 hown hr2 HR
            go_wp2_with fail
            with_reducible refine (HA3.out _ HB3.out).mono ?_
            rintro e w4 ⟨p3, c3, rfl, hown, hb4⟩
            have g1 := HR1.out.below hb4
            have g2 := HR2.out.below hb4
            have c1 : w4.cell? ⟨b, 0, none⟩ = some (.int .i64 3) := (g1.seven 0 (by decide)).1
            have c2 : w4.cell? ⟨b, 2, none⟩ = some (.bool qn) := (g1.seven 0 (by decide)).2.2.1
            have c3 : w4.cell? ⟨b, 3, none⟩ = some (.string qd) := (g1.seven 0 (by decide)).2.2.2.1
            have c4 : w4.cell? ⟨b, 4, none⟩ = some (.int .i64 qx) := (g1.seven 0 (by decide)).2.2.2.2.1
            have c6 : w4.cell? ⟨b, 6, none⟩ = some (.int .i64 (S.size : Int)) := (g1.seven 0 (by decide)).2.2.2.2.2.2
            have d2 : w4.cell? ⟨b2, 2, none⟩ = some (.bool qn) := (g2.seven 0 (by decide)).2.2.1
            have d3 : w4.cell? ⟨b2, 3, none⟩ = some (.string qd) := (g2.seven 0 (by decide)).2.2.2.1
            have d4 : w4.cell? ⟨b2, 4, none⟩ = some (.int .i64 qx) := (g2.seven 0 (by decide)).2.2.2.2.1
            have d8 : w4.cell? ⟨b2, 8, none⟩ = some (.string (strOf [46, 46])) := (g2.seven 1 (by decide)).2.1
            have f2 : w4.cell? ⟨b2, 16, none⟩ = some (.bool qn) := (g2.seven 2 (by decide)).2.2.1
            have f3 : w4.cell? ⟨b2, 17, none⟩ = some (.string qd) := (g2.seven 2 (by decide)).2.2.2.1
            have f4 : w4.cell? ⟨b2, 18, none⟩ = some (.int .i64 qx) := (g2.seven 2 (by decide)).2.2.2.2.1
            rw [strOf_dot] at d8
            have HB4 := Lib.hid (HB3.out.trans (hb4.mono HB3.out.size))
            clear hb4 HB3 hown g1 g2 HR1 HR2
            go_upto_region 17 with fail
            go_quiet (fail)
            go_wp2_with fail
            go_ret
            exact ⟨rfl, HB4.out.trans ⟨rfl, rfl, rfl, Nat.le_refl _, fun _ _ => rfl⟩⟩
          | true =>
            have hsm : 1 + (strOf W).size ≤ 9223372036854775807 := by rw [strOf_size]; omega
            go_upto_region 13 with fail
            obtain ⟨S, HSS⟩ : ∃ S, Hid (S = strOf (sgT true ++ W)) := ⟨_, rfl⟩
            have hSW : (⟨#[45]⟩ : ByteArray) ++ strOf W = S := by rw [HSS.out, strOf_app]; rfl
            rw [hSW]
            clear hSW hsm
            clear d1
            obtain ⟨qn, qd, qx, hS6, k1, k2, k3⟩ := numbers_facts true hW.out.1 (fun e => by rw [e] at hW1; simp at hW1) hz hW5 HSS.out
            have hA1 := HAA.out S (by omega)
            have hA2 := HAA.out (S ++ ⟨#[46, 46]⟩ ++ S) (by rw [ByteArray.size_append, ByteArray.size_append]; show S.size + 2 + S.size ≤ _; omega)
            have hA3 := HAA.out (⟨#[48]⟩ ++ S) (by rw [ByteArray.size_append]; show 1 + S.size ≤ _; omega)
            rw [k1] at hA1
            rw [k2] at hA2
            generalize allL (unstr (⟨#[48]⟩ ++ S)) = r3 at hA3
            obtain ⟨l3, e3⟩ := r3
            have HA1 := Lib.hid hA1
            have HA2 := Lib.hid hA2
            have HA3 := Lib.hid hA3
            have s1 : S.size + 2 ≤ 9223372036854775807 := by omega
            have s2 : S.size + 2 + S.size ≤ 9223372036854775807 := by omega
            have s3 : 1 + S.size ≤ 9223372036854775807 := by omega
            clear hA1 hA2 hA3 k1 k2 k3 HAA HSS hz hW hW1 hW5 HAw
            go_wp2_with fail
            with_reducible refine (HA1.out _ HB1.out).mono ?_
            rintro e w2 ⟨p, c, rfl, hown, hb2⟩
            have hr : RdT w2 p 1 [((⟨3, [], qn, qd, qx⟩ : Tk), 0, S.size)] := owned_rdT hown
            obtain ⟨b, rfl⟩ := hr.form (by decide)
            have HR := Lib.hid hr
            have HB2 := Lib.hid (HB1.out.trans (hb2.mono HB1.out.size))
            clear hb2 HB1 hown hr
            go_wp2_with fail
            with_reducible refine (HA2.out _ HB2.out).mono ?_
            rintro e w3 ⟨p2, c2, rfl, hown, hb3⟩
            have hr2 : RdT w3 p2 3 [((⟨3, [], qn, qd, qx⟩ : Tk), 0, S.size), (⟨4, [46, 46], false, ⟨#[]⟩, 0⟩, S.size, S.size + 2), (⟨3, [], qn, qd, qx⟩, S.size + 2, S.size + 2 + S.size)] := owned_rdT hown
            obtain ⟨b2, rfl⟩ := hr2.form (by decide)
            have HR2 := Lib.hid hr2
            have HR1 := Lib.hid (HR.out.below hb3)
            have HB3 := Lib.hid (HB2.out.trans (hb3.mono HB2.out.size))
            clear hb3 HB2 hown hr2 HR
            go_wp2_with fail
            with_reducible refine (HA3.out _ HB3.out).mono ?_
            rintro e w4 ⟨p3, c3, rfl, hown, hb4⟩
            have g1 := HR1.out.below hb4
            have g2 := HR2.out.below hb4
            have c1 : w4.cell? ⟨b, 0, none⟩ = some (.int .i64 3) := (g1.seven 0 (by decide)).1
            have c2 : w4.cell? ⟨b, 2, none⟩ = some (.bool qn) := (g1.seven 0 (by decide)).2.2.1
            have c3 : w4.cell? ⟨b, 3, none⟩ = some (.string qd) := (g1.seven 0 (by decide)).2.2.2.1
            have c4 : w4.cell? ⟨b, 4, none⟩ = some (.int .i64 qx) := (g1.seven 0 (by decide)).2.2.2.2.1
            have c6 : w4.cell? ⟨b, 6, none⟩ = some (.int .i64 (S.size : Int)) := (g1.seven 0 (by decide)).2.2.2.2.2.2
            have d2 : w4.cell? ⟨b2, 2, none⟩ = some (.bool qn) := (g2.seven 0 (by decide)).2.2.1
            have d3 : w4.cell? ⟨b2, 3, none⟩ = some (.string qd) := (g2.seven 0 (by decide)).2.2.2.1
            have d4 : w4.cell? ⟨b2, 4, none⟩ = some (.int .i64 qx) := (g2.seven 0 (by decide)).2.2.2.2.1
            have d8 : w4.cell? ⟨b2, 8, none⟩ = some (.string (strOf [46, 46])) := (g2.seven 1 (by decide)).2.1
            have f2 : w4.cell? ⟨b2, 16, none⟩ = some (.bool qn) := (g2.seven 2 (by decide)).2.2.1
            have f3 : w4.cell? ⟨b2, 17, none⟩ = some (.string qd) := (g2.seven 2 (by decide)).2.2.2.1
            have f4 : w4.cell? ⟨b2, 18, none⟩ = some (.int .i64 qx) := (g2.seven 2 (by decide)).2.2.2.2.1
            rw [strOf_dot] at d8
            have HB4 := Lib.hid (HB3.out.trans (hb4.mono HB3.out.size))
            clear hb4 HB3 hown g1 g2 HR1 HR2
            go_upto_region 17 with fail
            go_quiet (fail)
            go_wp2_with fail
            go_ret
            exact ⟨rfl, HB4.out.trans ⟨rfl, rfl, rfl, Nat.le_refl _, fun _ _ => rfl⟩⟩
end Go.Proofs.YtkifndecpbphbaaDoor.dk
