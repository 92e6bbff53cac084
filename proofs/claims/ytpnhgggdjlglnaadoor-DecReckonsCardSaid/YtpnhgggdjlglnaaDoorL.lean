/- sign; Neg. -/
import Derived.Test.YtpnhgggdjlglnaaDoorK
namespace Go.Proofs.YtpnhgggdjlglnaaDoor.dk
open Go.PlainAid Go.ChangeShapes Go.WideShapes Go.ChangeAt Go.RowKit

def sgd (neg : Bool) (dg : ByteArray) : Int := if dg.size = 0 then 0 else if neg then -1 else 1
set_option maxRecDepth 100000 in
theorem sign_any (w : World) (neg : Bool) (dg : ByteArray) (ex : Int) :
    Calls Tryd.prog 36 #[.agg #[.bool neg, .string dg, .int .i64 ex]] w fun e w' => e = .returned (.int .i64 (sgd neg dg)) ∧ Below w.heap.size w w' := by
  have hb : Below w.heap.size w (w.alloc (.cells #[.bool neg, .string dg, .int .i64 ex] 23)) := (Below.refl _ _).alloc (Nat.le_refl _) _
  have HB := Lib.hid hb
  clear hb
  by_cases hz : dg.size = 0
  · obtain rfl := ba_nil hz
    go_enter Tryd.func36, Tryd.ntmps36
    go_wp2_with fail
    go_ret
    exact ⟨rfl, HB.out⟩
  · have dz := ba_full hz
    have e : Hid (sgd neg dg = if neg then -1 else 1) := by show sgd neg dg = _; unfold sgd; rw [if_neg hz]
    cases neg with
    | true =>
      go_enter Tryd.func36, Tryd.ntmps36
      go_wp2_with fail
      go_ret
      exact ⟨by rw [e.out]; rfl, HB.out⟩
    | false =>
      go_enter Tryd.func36, Tryd.ntmps36
      go_wp2_with fail
      go_ret
      exact ⟨by rw [e.out]; rfl, HB.out⟩
/-- With the other sign. -/
def ngd (neg : Bool) (dg : ByteArray) (ex : Int) : Bool := if dsane neg (unstr dg) ex = true ∧ dg.size ≠ 0 then !neg else neg
set_option maxRecDepth 100000 in
set_option maxHeartbeats 1000000 in
theorem Neg_any (w : World) (neg : Bool) (dg : ByteArray) (ex : Int) (hs : dg.size ≤ 1000000000) :
    Calls Tryd.prog 20 #[.agg #[.bool neg, .string dg, .int .i64 ex]] w fun e w' => e = .returned (.agg #[.bool (ngd neg dg ex), .string dg, .int .i64 ex]) ∧ Below w.heap.size w w' := by
  obtain ⟨wa, hwa⟩ : ∃ wa, wa = (w.alloc (.cells #[.bool neg, .string dg, .int .i64 ex] 23)).alloc (.cells #[.bool false, .string ⟨#[]⟩, .int .i64 0] 23) := ⟨_, rfl⟩
  have hba : Below w.heap.size w wa := by rw [hwa]; exact ((Below.refl _ _).alloc (Nat.le_refl _) _).alloc (by simp) _
  have hs1 : wa.heap[w.heap.size]? = some (.cells #[.bool neg, .string dg, .int .i64 ex] 23 (0, 0)) := by
    rw [hwa]
    show ((w.heap.push _).push _)[w.heap.size]? = _
    rw [Array.getElem?_push_lt (by simp), ← Array.getElem?_eq_getElem]
    exact heap_alloc_new w _
  have hs2 : wa.heap[w.heap.size + 1]? = some (.cells #[.bool false, .string ⟨#[]⟩, .int .i64 0] 23 (0, 0)) := by
    rw [hwa]
    have := heap_alloc_new (w.alloc (.cells #[.bool neg, .string dg, .int .i64 ex] 23)) (.cells #[.bool false, .string ⟨#[]⟩, .int .i64 0] 23)
    simpa using this
  have HS := Lib.hid (fun (v : World) => Sane_any v neg dg ex hs)
  have HB := Lib.hid hba
  have H1 := Lib.hid hs1
  have H2 := Lib.hid hs2
  have HW := Lib.hid hwa
  clear hba hs1 hs2 hwa
  unfold ngd
  generalize dsane neg (unstr dg) ex = ok at HS ⊢
  by_cases hc : ok = true ∧ dg.size ≠ 0
  · rw [if_pos hc]
    obtain ⟨rfl, hz⟩ := hc
    have dz := ba_full hz
    go_enter Tryd.func20, Tryd.ntmps20
    go_wp2_with fail
    rw [← HW.out]
    with_reducible refine (HS.out wa).mono ?_
    rintro e w2 ⟨rfl, hb2⟩
    have k1 := (hb2.block _ (Array.getElem?_eq_some_iff.1 H1.out).1).trans H1.out
    have k2 := (hb2.block _ (Array.getElem?_eq_some_iff.1 H2.out).1).trans H2.out
    have hb3 := HB.out.trans (hb2.mono HB.out.size)
    obtain ⟨⟨x0, x1, x2⟩, f0, f1, f2⟩ := row3 k1
    have hT := stepSet 0 (.bool !neg) (Nat.le_refl _) ⟨k1, hb3⟩
    have kT : (w2.setCell ⟨w.heap.size, 0, none⟩ (.bool !neg)).heap[w.heap.size + 1]? = some (.cells #[.bool false, .string ⟨#[]⟩, .int .i64 0] 23 (0, 0)) := (Below.heap_setCell _ _ _ _ (by show w.heap.size + 1 ≠ w.heap.size; omega)).trans k2
    obtain ⟨⟨y0, y1, y2⟩, g0, g1, g2⟩ := row3 kT
    have hS3 := set3 (v0 := .bool !neg) (v1 := .string dg) (v2 := .int .i64 ex) kT (Nat.le_succ _) hT.2
    have HS3 := Lib.hid hS3
    clear hS3 k1 k2 kT hT hb3 hb2 HS
    go_wp2_with fail
    refine bodyPost_ret (results_cell_row rfl _ _ (w.heap.size + 1) _ _ _ _ rfl HS3.out.1 Tryd.underlying23 rfl (by kernel_rfl)) rfl ⟨rfl, HS3.out.2⟩
  · rw [if_neg hc]
    have hq : ok = false ∨ dg = ⟨#[]⟩ := by
      cases ok with
      | false => exact .inl rfl
      | true =>
        by_cases h0 : dg.size = 0
        · exact .inr (ba_nil h0)
        · exact absurd ⟨rfl, h0⟩ hc
    have HQ := Lib.hid hq
    clear hq hc
    go_enter Tryd.func20, Tryd.ntmps20
    go_wp2_with fail
    rw [← HW.out]
    with_reducible refine (HS.out wa).mono ?_
    rintro e w2 ⟨rfl, hb2⟩
    have k1 := (hb2.block _ (Array.getElem?_eq_some_iff.1 H1.out).1).trans H1.out
    have k2 := (hb2.block _ (Array.getElem?_eq_some_iff.1 H2.out).1).trans H2.out
    have hb3 := HB.out.trans (hb2.mono HB.out.size)
    obtain ⟨⟨x0, x1, x2⟩, f0, f1, f2⟩ := row3 k1
    obtain ⟨⟨y0, y1, y2⟩, g0, g1, g2⟩ := row3 k2
    have hS3 := set3 (v0 := .bool neg) (v1 := .string dg) (v2 := .int .i64 ex) k2 (Nat.le_succ _) hb3
    have HS3 := Lib.hid hS3
    clear hS3 k1 k2 hb3 hb2 HS
    rcases HQ.out with rfl | rfl
    · go_wp2_with fail
      refine bodyPost_ret (results_cell_row rfl _ _ (w.heap.size + 1) _ _ _ _ rfl HS3.out.1 Tryd.underlying23 rfl (by kernel_rfl)) rfl ⟨rfl, HS3.out.2⟩
    · cases ok with
      | true =>
        go_wp2_with fail
        refine bodyPost_ret (results_cell_row rfl _ _ (w.heap.size + 1) _ _ _ _ rfl HS3.out.1 Tryd.underlying23 rfl (by kernel_rfl)) rfl ⟨rfl, HS3.out.2⟩
      | false =>
        go_wp2_with fail
        refine bodyPost_ret (results_cell_row rfl _ _ (w.heap.size + 1) _ _ _ _ rfl HS3.out.1 Tryd.underlying23 rfl (by kernel_rfl)) rfl ⟨rfl, HS3.out.2⟩
end Go.Proofs.YtpnhgggdjlglnaaDoor.dk
