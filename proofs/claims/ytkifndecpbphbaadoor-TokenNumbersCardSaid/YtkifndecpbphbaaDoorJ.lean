/- split of any text; Parse. -/
import Derived.Test.YtkifndecpbphbaaDoorI00
import Derived.Test.YtkifndecpbphbaaDoorI01
import Derived.Test.YtkifndecpbphbaaDoorI10
import Derived.Test.YtkifndecpbphbaaDoorI11
import Derived.Deep.DeepCutAuto
import Derived.Deep.CutBlock
namespace Go.Proofs.YtkifndecpbphbaaDoor.dk
open Go.PlainAid Go.ChangeShapes Go.WideShapes Go.ChangeAt Go.RowKit

theorem split_any (w : World) (s : ByteArray) (hs : s.size ≤ 1000000) : Calls Tryd.prog 57 #[.string s] w (SPost w (splitOf s)) := by
  by_cases h : 1 < dn ((unstr s).drop (nk (unstr s) [45] 0))
  · cases ht : hit (unstr s) [46] (nk (unstr s) [45] 0 + dn ((unstr s).drop (nk (unstr s) [45] 0))) with
    | true => exact split_11 w s hs h ht
    | false => exact split_10 w s hs h ht
  · cases ht : hit (unstr s) [46] (nk (unstr s) [45] 0 + dn ((unstr s).drop (nk (unstr s) [45] 0))) with
    | true => exact split_01 w s hs h ht
    | false => exact split_00 w s hs h ht
/-- A number's three fields, and whether it is one. -/
def dzero : Array Value := #[.bool false, .string ⟨#[]⟩, .int .i64 0]
def fneg (neg : Bool) (s : ByteArray) : Bool := if (fsh s).size = 0 then false else neg
def fdig (s : ByteArray) : ByteArray := if (fsh s).size = 0 then ⟨#[]⟩ else fsh s
def fexp (s : ByteArray) (ex : Int) : Int := if (fsh s).size = 0 then 0 else ex + ((fln s).size : Int) - ((fsh s).size : Int)
theorem fmd_eq (neg : Bool) (s : ByteArray) (ex : Int) : fmd neg s ex = #[.bool (fneg neg s), .string (fdig s), .int .i64 (fexp s ex)] := by
  unfold fmd fneg fdig fexp
  split <;> rfl
/-- What Parse answers. -/
def parseR (r : Option (Bool × ByteArray × ByteArray × Int)) : Value :=
  match r with
  | none => .tuple #[.agg dzero, .int .i64 2]
  | some (neg, wh, pt, ex) => told (fmd neg (wh ++ pt) (ex - (pt.size : Int))) (dsane (fneg neg (wh ++ pt)) (unstr (fdig (wh ++ pt))) (fexp (wh ++ pt) (ex - (pt.size : Int))))
def parseV (s : ByteArray) : Value := if 1000 < s.size then .tuple #[.agg dzero, .int .i64 4] else parseR (splitOf s)
def Gd (s : ByteArray) (r : Option (Bool × ByteArray × ByteArray × Int)) : Prop := ∀ neg wh pt ex, r = some (neg, wh, pt, ex) → wh.size ≤ s.size ∧ pt.size ≤ s.size ∧ -1000000 ≤ ex ∧ ex ≤ 1000000
theorem Gd.ite {s : ByteArray} {c : Prop} [Decidable c] {a b : Option (Bool × ByteArray × ByteArray × Int)} (h1 : Gd s a) (h2 : Gd s b) : Gd s (if c then a else b) := by
  split
  · exact h1
  · exact h2
theorem Gd.none (s : ByteArray) : Gd s none := fun _ _ _ _ h => by cases h
theorem Gd.one (s : ByteArray) (neg : Bool) (a b c d : Nat) (ex : Int) (hx : -1000000 ≤ ex ∧ ex ≤ 1000000) : Gd s (some (neg, s.extract a b, s.extract c d, ex)) := fun n wh pt x h => by
  have sz : ∀ a b, (s.extract a b).size ≤ s.size := fun a b => by rw [ByteArray.size_extract]; omega
  injection h with h
  injection h with _ h
  injection h with e1 h
  injection h with e2 e3
  subst e1; subst e2; subst e3
  exact ⟨sz _ _, sz _ _, hx.1, hx.2⟩
theorem neg_range {x : Int} {c : Prop} [Decidable c] (h : 0 ≤ x ∧ x ≤ 1000000) : -1000000 ≤ (if c then -x else x) ∧ (if c then -x else x) ≤ 1000000 := by
  split <;> omega
theorem split_good (s : ByteArray) : Gd s (splitOf s) := by
  unfold splitOf
  exact Gd.ite (Gd.none s) (Gd.ite (Gd.none s) (Gd.ite (Gd.ite (Gd.none s) (Gd.ite (Gd.one s _ _ _ _ _ _ (neg_range (dexp_range _ (dn_all _)))) (Gd.none s))) (Gd.ite (Gd.one s _ _ _ _ _ _ (by omega)) (Gd.none s))))
set_option maxRecDepth 100000 in
set_option maxHeartbeats 2000000 in
theorem Parse_any (w : World) (s : ByteArray) (hs : s.size ≤ 1000000000) :
    Calls Tryd.prog 50 #[.string s] w fun e w' => e = .returned (parseV s) ∧ Below w.heap.size w w' := by
  obtain ⟨wa, hwa⟩ : ∃ wa, wa = w.alloc (.cells #[.bool false, .string ⟨#[]⟩, .int .i64 0] 28) := ⟨_, rfl⟩
  have hst : wa.heap[w.heap.size]? = some (.cells #[.bool false, .string ⟨#[]⟩, .int .i64 0] 28 (0, 0)) := by rw [hwa]; exact heap_alloc_new _ _
  have hba : Below w.heap.size w wa := by rw [hwa]; exact (Below.refl _ _).alloc (Nat.le_refl _) _
  have HW := Lib.hid hwa
  have HB := Lib.hid hba
  have H1 := Lib.hid hst
  clear hwa hba hst
  by_cases hb : 1000 < s.size
  · have d1 : decide ((1000 : Int) < ((s.size : Nat) : Int)) = true := decide_eq_true (by omega)
    have d1n : decide (1000 < s.size) = true := decide_eq_true hb
    have e : parseV s = .tuple #[.agg dzero, .int .i64 4] := by unfold parseV; rw [if_pos hb]
    rw [e]
    unfold dzero
    clear e
    obtain ⟨⟨x0, x1, x2⟩, y0, y1, y2⟩ := row3 H1.out
    have hS := set3 (v0 := .bool false) (v1 := .string ⟨#[]⟩) (v2 := .int .i64 0) H1.out (Nat.le_refl _) HB.out
    have HS := Lib.hid hS
    clear hS
    go_enter Tryd.func50, Tryd.ntmps50
    go_upto_region 2 with fail
    rw [← HW.out]
    go_wp2_with fail
    refine bodyPost_ret (results_row_tmp rfl _ _ w.heap.size _ _ _ _ rfl HS.out.1 Tryd.underlying28 rfl (by kernel_rfl)) rfl ⟨rfl, HS.out.2⟩
  · have d1 : decide ((1000 : Int) < ((s.size : Nat) : Int)) = false := decide_eq_false (by omega)
    have d1n : decide (1000 < s.size) = false := decide_eq_false hb
    have hsp := split_any wa s (by omega)
    have e : parseV s = parseR (splitOf s) := by unfold parseV; rw [if_neg hb]
    rw [e]
    have hg := split_good s
    cases hr : splitOf s with
    | none =>
      rw [hr] at hsp
      have HP := Lib.hid hsp
      clear hsp hg e hr
      unfold parseR dzero
      go_enter Tryd.func50, Tryd.ntmps50
      go_wp2_with fail
      rw [← HW.out]
      with_reducible refine HP.out.mono ?_
      rintro e w2 ⟨hb2, ok, a, b, c, x, rfl, hok⟩
      obtain rfl : ok = false := hok
      have hk := alloc_old (.cells #[.bool a, .string b, .string c, .int .i64 x] 87) ((hb2.block _ (lt_of_block H1.out)).trans H1.out)
      have hb3 := (HB.out.trans (hb2.mono HB.out.size)).alloc (Nat.le_trans HB.out.size hb2.size) (.cells #[.bool a, .string b, .string c, .int .i64 x] 87)
      obtain ⟨⟨x0, x1, x2⟩, y0, y1, y2⟩ := row3 hk
      have hS := set3 (v0 := .bool false) (v1 := .string ⟨#[]⟩) (v2 := .int .i64 0) hk (Nat.le_refl _) hb3
      have HS := Lib.hid hS
      clear hS hk hb3 hb2 HP
      go_wp2_with fail
      refine bodyPost_ret (results_row_tmp rfl _ _ w.heap.size _ _ _ _ rfl HS.out.1 Tryd.underlying28 rfl (by kernel_rfl)) rfl ⟨rfl, HS.out.2⟩
    | some q =>
      obtain ⟨n, wh, pt, ex⟩ := q
      obtain ⟨l1, l2, l3, l4⟩ := hg n wh pt ex hr
      rw [hr] at hsp
      have HP := Lib.hid hsp
      clear hsp hg e hr
      unfold parseR
      dsimp only
      rw [fmd_eq]
      have hF := fun v => formed_any v n (wh ++ pt) (ex - (pt.size : Int)) (by rw [ByteArray.size_append]; omega) (by omega) (by omega)
      rw [fmd_eq] at hF
      have hds : (fdig (wh ++ pt)).size ≤ 1000000000 := by
        unfold fdig
        split
        · decide
        · have k1 := fsh_le (wh ++ pt)
          have k2 := fln_le (wh ++ pt)
          rw [ByteArray.size_append] at k2
          omega
      have hC := fun v => checked_any v (fneg n (wh ++ pt)) (fdig (wh ++ pt)) (fexp (wh ++ pt) (ex - (pt.size : Int))) hds
      generalize fneg n (wh ++ pt) = en at hF hC ⊢
      generalize fdig (wh ++ pt) = ed at hF hC ⊢
      generalize fexp (wh ++ pt) (ex - (pt.size : Int)) = ee at hF hC ⊢
      generalize dsane en (unstr ed) ee = ok at hC ⊢
      have HF := Lib.hid hF
      have HC := Lib.hid hC
      have hcat : wh.size + pt.size ≤ 9223372036854775807 := by omega
      have we : IntKind.i64.wrap (ex - (pt.size : Int)) = ex - (pt.size : Int) := by rw [IntKind.wrap_i64]; omega
      clear hF hC hds
      go_enter Tryd.func50, Tryd.ntmps50
      go_wp2_with fail
      rw [← HW.out]
      with_reducible refine HP.out.mono ?_
      rintro e w2 ⟨hb2, ok2, a, b, c, x, rfl, hok⟩
      obtain ⟨rfl, hq⟩ : ok2 = true ∧ (n, wh, pt, ex) = (a, b, c, x) := hok
      injection hq with e1 hq
      injection hq with e2 hq
      injection hq with e3 e4
      subst e1; subst e2; subst e3; subst e4
      have hk := alloc_old (.cells #[.bool n, .string wh, .string pt, .int .i64 ex] 87) ((hb2.block _ (lt_of_block H1.out)).trans H1.out)
      have hb3 := (HB.out.trans (hb2.mono HB.out.size)).alloc (Nat.le_trans HB.out.size hb2.size) (.cells #[.bool n, .string wh, .string pt, .int .i64 ex] 87)
      have HK := Lib.hid (And.intro hk hb3)
      clear hk hb3 hb2 HP
      go_wp2_with fail
      with_reducible refine (HF.out _).mono ?_
      rintro e w3 ⟨rfl, hb3⟩
      go_wp2_with fail
      with_reducible refine (HC.out _).mono ?_
      rintro e w4 ⟨rfl, hb4⟩
      have hk3 := (hb3.block _ (lt_of_block HK.out.1)).trans HK.out.1
      have hk4 := (hb4.block _ (lt_of_block hk3)).trans hk3
      have hbb := (HK.out.2.trans (hb3.mono HK.out.2.size)).trans (hb4.mono (Nat.le_trans HK.out.2.size hb3.size))
      obtain ⟨⟨x0, x1, x2⟩, y0, y1, y2⟩ := row3 hk4
      unfold told
      cases ok with
      | true =>
        have hS := set3 (v0 := .bool en) (v1 := .string ed) (v2 := .int .i64 ee) hk4 (Nat.le_refl _) hbb
        have HS := Lib.hid hS
        clear hS hk3 hk4 hbb hb3 hb4 HF HC HK
        go_wp2_with fail
        refine bodyPost_ret (results_row_tmp rfl _ _ w.heap.size _ _ _ _ rfl HS.out.1 Tryd.underlying28 rfl (by kernel_rfl)) rfl ⟨rfl, HS.out.2⟩
      | false =>
        have hS := set3 (v0 := .bool false) (v1 := .string ⟨#[]⟩) (v2 := .int .i64 0) hk4 (Nat.le_refl _) hbb
        have HS := Lib.hid hS
        clear hS hk3 hk4 hbb hb3 hb4 HF HC HK
        go_wp2_with fail
        refine bodyPost_ret (results_row_tmp rfl _ _ w.heap.size _ _ _ _ rfl HS.out.1 Tryd.underlying28 rfl (by kernel_rfl)) rfl ⟨rfl, HS.out.2⟩
end Go.Proofs.YtkifndecpbphbaaDoor.dk
