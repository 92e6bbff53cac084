/- Sane: may a number be? -/
import Derived.Test.YtkifndecpbphbaaDoorA
import Derived.Lib.IndexBytes
namespace Go.Proofs.YtkifndecpbphbaaDoor.dk
open Go.PlainAid Go.ChangeShapes Go.WideShapes Go.ChangeAt Go.RowKit

def isDig (c : Int) : Bool := decide (48 ≤ c) && decide (c ≤ 57)
/-- May a number of these digits be? -/
def dsane (neg : Bool) (l : List Int) (ex : Int) : Bool :=
  if l.length = 0 then !neg && decide (ex = 0) else
  decide (l.length ≤ 40) && (!decide (l.getD 0 0 = 48)) && (!decide (l.getD (l.length - 1) 0 = 48)) && l.all isDig && decide (-400 - (l.length : Int) ≤ ex) && decide (ex ≤ 400 - (l.length : Int))
theorem byte_at (a : ByteArray) (j : Nat) (h : j < a.size) : ((a[j].toNat : Nat) : Int) = (unstr a).getD j 0 := by
  unfold unstr
  rw [List.getD_eq_getElem?_getD, List.getElem?_map, Lib.data_getElem? a j h]
  rfl
theorem ba_nil {a : ByteArray} (h : a.size = 0) : a = ⟨#[]⟩ := by
  obtain ⟨d⟩ := a
  have : d = #[] := Array.eq_empty_of_size_eq_zero h
  rw [this]
set_option maxHeartbeats 4000000 in
set_option maxRecDepth 100000 in
theorem Sane_any (w : World) (neg : Bool) (dg : ByteArray) (ex : Int) (hs : dg.size ≤ 1000000000) :
    Calls Tryd.prog 69 #[.agg #[.bool neg, .string dg, .int .i64 ex]] w fun e w' => e = .returned (.bool (dsane neg (unstr dg) ex)) ∧ Below w.heap.size w w' := by
  have hlen := unstr_length dg
  by_cases h0 : dg.size = 0
  · obtain rfl := ba_nil h0
    have e : Hid (dsane neg (unstr ⟨#[]⟩) ex = (!neg && decide (ex = 0))) := rfl
    have hb : Below w.heap.size w (w.alloc (.cells #[.bool neg, .string ⟨#[]⟩, .int .i64 ex] 28)) := (Below.refl _ _).alloc (Nat.le_refl _) _
    cases neg with
    | true =>
      go_enter Tryd.func69, Tryd.ntmps69
      go_wp2_with fail
      go_ret
      exact ⟨by rw [e.out]; rfl, hb⟩
    | false =>
      by_cases hx : ex = 0
      · subst hx
        go_enter Tryd.func69, Tryd.ntmps69
        go_wp2_with fail
        go_ret
        exact ⟨by rw [e.out]; rfl, hb⟩
      · have ee : (!false && decide (ex = 0)) = false := by simp [hx]
        have dx : (ex == 0) = false := beq_eq_false_iff_ne.2 hx
        go_enter Tryd.func69, Tryd.ntmps69
        go_wp2_with fail
        go_ret
        exact ⟨by rw [e.out, ee]; rfl, hb⟩
  · obtain ⟨n, hn⟩ : ∃ n, n = dg.size := ⟨_, rfl⟩
    have dz : (((dg.size : Nat) : Int) == 0) = false := beq_eq_false_iff_ne.2 (by omega)
    have hb : Below w.heap.size w (w.alloc (.cells #[.bool neg, .string dg, .int .i64 ex] 28)) := (Below.refl _ _).alloc (Nat.le_refl _) _
    have hl0 : ¬ (unstr dg).length = 0 := by omega
    by_cases h40 : 40 < dg.size
    · have d1 : decide ((40 : Int) < ((dg.size : Nat) : Int)) = true := decide_eq_true (by omega)
      have e : Hid (dsane neg (unstr dg) ex = false) := by
        show dsane _ _ _ = false
        unfold dsane
        rw [if_neg hl0, show decide ((unstr dg).length ≤ 40) = false from decide_eq_false (by omega)]
        simp
      go_enter Tryd.func69, Tryd.ntmps69
      go_wp2_with fail
      go_ret
      exact ⟨by rw [e.out]; rfl, hb⟩
    have d1 : decide ((40 : Int) < ((dg.size : Nat) : Int)) = false := decide_eq_false (by omega)
    have d1n : decide (40 < dg.size) = false := decide_eq_false h40
    have h0' : 0 < dg.size := by omega
    have hL' : dg.size - 1 < dg.size := by omega
    have hf := byte_at dg 0 h0'
    have hla := byte_at dg (dg.size - 1) hL'
    by_cases hf48 : (unstr dg).getD 0 0 = 48
    · have d2 : (((dg[0].toNat : Nat) : Int) == 48) = true := by rw [hf, hf48]; rfl
      have e : Hid (dsane neg (unstr dg) ex = false) := by
        show dsane _ _ _ = false
        unfold dsane
        rw [if_neg hl0, show decide ((unstr dg).getD 0 0 = 48) = true from decide_eq_true hf48]
        simp
      clear hf hla
      go_enter Tryd.func69, Tryd.ntmps69
      go_wp2_with fail
      go_ret
      exact ⟨by rw [e.out]; rfl, hb⟩
    have d2 : (((dg[0].toNat : Nat) : Int) == 48) = false := by rw [hf]; exact beq_eq_false_iff_ne.2 hf48
    have ws : IntKind.i64.wrap (((dg.size : Nat) : Int) - 1) = ((dg.size - 1 : Nat) : Int) := by rw [IntKind.wrap_i64]; omega
    by_cases hl48 : (unstr dg).getD (dg.size - 1) 0 = 48
    · have d3 : (((dg[dg.size - 1].toNat : Nat) : Int) == 48) = true := by rw [hla, hl48]; rfl
      have e : Hid (dsane neg (unstr dg) ex = false) := by
        show dsane _ _ _ = false
        unfold dsane
        rw [if_neg hl0, hlen, show decide ((unstr dg).getD (dg.size - 1) 0 = 48) = true from decide_eq_true hl48]
        simp
      clear hf hla
      go_enter Tryd.func69, Tryd.ntmps69
      go_wp2_with fail
      go_ret
      exact ⟨by rw [e.out]; rfl, hb⟩
    have d3 : (((dg[dg.size - 1].toNat : Nat) : Int) == 48) = false := by rw [hla]; exact beq_eq_false_iff_ne.2 hl48
    have e0 : Hid (dsane neg (unstr dg) ex = ((unstr dg).all isDig && decide (-400 - (dg.size : Int) ≤ ex) && decide (ex ≤ 400 - (dg.size : Int)))) := by
      show dsane _ _ _ = _
      unfold dsane
      rw [if_neg hl0, hlen, show decide ((unstr dg).getD (dg.size - 1) 0 = 48) = false from decide_eq_false hl48, show decide ((unstr dg).getD 0 0 = 48) = false from decide_eq_false hf48, show decide (dg.size ≤ 40) = true from decide_eq_true (by omega)]
      simp
    obtain ⟨wb, hwb⟩ : ∃ wb, wb = w.alloc (.cells #[.bool neg, .string dg, .int .i64 ex] 28) := ⟨_, rfl⟩
    have hcv := Lib.run_convert_string_bytes (P := Tryd.prog) wb 9 33 5 dg Tryd.underlying9 Tryd.underlying33 Tryd.underlying5
    have hR := rd_string wb dg dg.size rfl
    have hbw := bytes_belowd wb dg 5
    rw [← hwb] at hb
    have hb2 := hb.trans (hbw.mono hb.size)
    have hst : wb.heap[w.heap.size]? = some (.cells #[.bool neg, .string dg, .int .i64 ex] 28 (0, 0)) := by rw [hwb]; exact heap_alloc_new _ _
    have hlt : w.heap.size < wb.heap.size := (Array.getElem?_eq_some_iff.1 hst).1
    have hst2 := (hbw.block _ hlt).trans hst
    have hws : wb.heap.size = w.heap.size + 1 := by rw [hwb]; simp [World.alloc, -World.alloc_eq]
    rw [hws] at hR
    rw [hwb] at hcv
    have k1 := cell_of_row _ _ 2 _ _ _ hst2
    simp at k1
    have HR := Lib.hid hR
    have HB2 := Lib.hid hb2
    generalize hww : Lib.bytesWorld wb 5 dg = ww at HR HB2 k1
    rw [← hwb, hww, hwb] at hcv
    have HL := Lib.hid hlen
    clear hf hla hb hbw hst hst2 hR hb2 hwb hww hlt hlen
    go_enter Tryd.func69, Tryd.ntmps69
    go_wp2_with fail
    generalize grownCap (w.alloc (.cells #[.bool neg, .string dg, .int .i64 ex] 28)) dg.size 0 5 = gc
    generalize hl : unstr dg = l at HR HL e0 hf48 hl48 hl0 ⊢
    clear d2 d3
    generalize dg[0].toNat = z0
    generalize dg[dg.size - 1].toNat = z1
    have HLe := Lib.hid hl
    clear hcv ws h0 hn hl hl48 hf48 hl0 hL' h0' hs d1 d1n
    have h40' : dg.size ≤ 40 := by omega
    clear h40
    go_loopw [34] (fun v wr => ∃ j : Nat, v = .int .i64 (j : Int) ∧ j ≤ dg.size ∧ wr = ww ∧ Hid (∀ i, i < j → isDig (l.getD i 0) = true)) (fun v _ => dg.size - (intOf v).toNat)
    case atStart => exact ⟨0, rfl, Nat.zero_le _, rfl, fun i hi => absurd hi (by omega)⟩
    case round =>
      obtain ⟨j, rfl, hj, rfl, HJ⟩ := hrel
      by_cases hjn : j < dg.size
      · have dj : decide ((j : Int) < (dg.size : Int)) = true := decide_eq_true (by omega)
        have djn : decide (j < dg.size) = true := decide_eq_true hjn
        have c0 := HR.out.cell j hjn
        rw [Nat.zero_add] at c0
        by_cases hd : isDig (l.getD j 0) = true
        · have hd2 := hd
          unfold isDig at hd2
          simp only [Bool.and_eq_true, decide_eq_true_eq] at hd2
          have f1 : decide (l.getD j 0 < 48) = false := decide_eq_false (by omega)
          have f2 : decide (57 < l.getD j 0) = false := decide_eq_false (by omega)
          have HJ2 : Hid (∀ i, i < j + 1 → isDig (l.getD i 0) = true) := fun i hi => by
            by_cases hij : i = j
            · rw [hij]; exact hd
            · exact HJ.out i (by omega)
          clear hd hd2 HJ
          generalize l.getD j 0 = x at c0 f1 f2
          go_wp2_with fail
          exact ⟨⟨j + 1, by go_num, by omega, trivial, HJ2.out⟩, by show dg.size - ((j : Int) + 1).toNat < dg.size - (j : Int).toNat; omega⟩
        · have e : Hid (dsane neg l ex = false) := by
            rw [show dsane neg l ex = _ from e0.out]
            have ha : l.all isDig = false := by
              rw [List.all_eq_false]
              exact ⟨l.getD j 0, by rw [List.getD_eq_getElem?_getD, List.getElem?_eq_getElem (by rw [HL.out]; exact hjn)]; exact List.getElem_mem _, hd⟩
            rw [ha]
            rfl
          have hd2 : l.getD j 0 < 48 ∨ 57 < l.getD j 0 := by
            by_cases h1 : l.getD j 0 < 48
            · exact .inl h1
            · by_cases h2 : 57 < l.getD j 0
              · exact .inr h2
              · exact absurd (by unfold isDig; rw [decide_eq_true (show 48 ≤ l.getD j 0 by omega), decide_eq_true (show l.getD j 0 ≤ 57 by omega)]; rfl) hd
          clear hd HJ
          generalize l.getD j 0 = x at c0 hd2
          by_cases h1 : x < 48
          · have f1 : decide (x < 48) = true := decide_eq_true h1
            go_wp2_with fail
            go_ret
            exact ⟨by rw [HLe.out, e.out]; rfl, HB2.out⟩
          · have f1 : decide (x < 48) = false := decide_eq_false h1
            have f2 : decide (57 < x) = true := decide_eq_true (by omega)
            go_wp2_with fail
            go_ret
            exact ⟨by rw [HLe.out, e.out]; rfl, HB2.out⟩
      · have dj : decide ((j : Int) < (dg.size : Int)) = false := decide_eq_false (by omega)
        have djn : decide (j < dg.size) = false := decide_eq_false hjn
        have ha : l.all isDig = true := by
          rw [List.all_eq_true]
          intro x hx
          obtain ⟨i, hi, rfl⟩ := List.getElem_of_mem hx
          have := HJ.out i (by have := HL.out; omega)
          rw [List.getD_eq_getElem?_getD, List.getElem?_eq_getElem hi] at this
          exact this
        have e : Hid (dsane neg l ex = (decide (-400 - (dg.size : Int) ≤ ex) && decide (ex ≤ 400 - (dg.size : Int)))) := by
          rw [show dsane neg l ex = _ from e0.out, ha]
          rfl
        have w1 : IntKind.i64.wrap (-400 - (dg.size : Int)) = -400 - (dg.size : Int) := by rw [IntKind.wrap_i64]; omega
        have w2 : IntKind.i64.wrap (400 - (dg.size : Int)) = 400 - (dg.size : Int) := by rw [IntKind.wrap_i64]; omega
        clear ha e0
        by_cases b1 : -400 - (dg.size : Int) ≤ ex
        · have f1 : decide (-400 - (dg.size : Int) ≤ ex) = true := decide_eq_true b1
          by_cases b2 : ex ≤ 400 - (dg.size : Int)
          · have f2 : decide (ex ≤ 400 - (dg.size : Int)) = true := decide_eq_true b2
            rw [f1, f2] at e
            go_wp2_with fail
            go_ret
            exact ⟨by rw [HLe.out, e.out]; rfl, HB2.out⟩
          · have f2 : decide (ex ≤ 400 - (dg.size : Int)) = false := decide_eq_false b2
            rw [f1, f2] at e
            go_wp2_with fail
            go_ret
            exact ⟨by rw [HLe.out, e.out]; rfl, HB2.out⟩
        · have f1 : decide (-400 - (dg.size : Int) ≤ ex) = false := decide_eq_false b1
          rw [f1] at e
          go_wp2_with fail
          go_ret
          exact ⟨by rw [HLe.out, e.out]; rfl, HB2.out⟩
end Go.Proofs.YtkifndecpbphbaaDoor.dk
