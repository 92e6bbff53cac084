/- An exponent's digits; a number's form; whether it may be. -/
import Derived.Test.YtkifndecpbphbaaDoorF
import Derived.Test.YtkifndecpbphbaaDoorB
namespace Go.Proofs.YtkifndecpbphbaaDoor.dk
open Go.PlainAid Go.ChangeShapes Go.WideShapes Go.ChangeAt Go.RowKit

/-- Digits as a number, no more than a million. -/
def dexp (l : List Int) : Int := l.foldl (fun n c => min (n * 10 + (c - 48)) 1000000) 0
theorem dexp_step (l : List Int) (j : Nat) (h : j < l.length) : dexp (l.take (j + 1)) = min (dexp (l.take j) * 10 + (l.getD j 0 - 48)) 1000000 := by
  unfold dexp
  rw [List.take_add_one, List.getElem?_eq_getElem h, List.foldl_append, List.getD_eq_getElem?_getD, List.getElem?_eq_getElem h]
  rfl
theorem fold_range : ∀ (l : List Int) (a : Int), 0 ≤ a → a ≤ 1000000 → (∀ x ∈ l, isDig x = true) → 0 ≤ l.foldl (fun n c => min (n * 10 + (c - 48)) 1000000) a ∧ l.foldl (fun n c => min (n * 10 + (c - 48)) 1000000) a ≤ 1000000
  | [], a, h1, h2, _ => ⟨h1, h2⟩
  | c :: l, a, h1, h2, h => by
    have hc := h c (List.mem_cons_self ..)
    unfold isDig at hc
    simp only [Bool.and_eq_true, decide_eq_true_eq] at hc
    exact fold_range l (min (a * 10 + (c - 48)) 1000000) (by omega) (by omega) fun x hx => h x (List.mem_cons_of_mem _ hx)
theorem dexp_range (l : List Int) (h : ∀ x ∈ l, isDig x = true) : 0 ≤ dexp l ∧ dexp l ≤ 1000000 := fold_range l 0 (by omega) (by omega) h
set_option maxRecDepth 100000 in
set_option maxHeartbeats 1000000 in
theorem exponent_any (w : World) (s : ByteArray) (hs : s.size ≤ 1000000000) (hd : ∀ x ∈ unstr s, isDig x = true) :
    Calls Tryd.prog 68 #[.string s] w fun e w' => e = .returned (.int .i64 (dexp (unstr s))) ∧ Below w.heap.size w w' := by
  have hul := unstr_length s
  have hcv := Lib.run_convert_string_bytes (P := Tryd.prog) w 9 33 5 s Tryd.underlying9 Tryd.underlying33 Tryd.underlying5
  have hR := rd_string w s s.size rfl
  have hbw := bytes_belowd w s 5
  have HR := Lib.hid hR
  have HB := Lib.hid hbw
  have HD := Lib.hid hd
  generalize hww : Lib.bytesWorld w 5 s = ww at HR HB hcv
  clear hR hbw hww hd
  go_enter Tryd.func68, Tryd.ntmps68
  go_wp2_with fail
  generalize grownCap w s.size 0 5 = gc at *
  clear hcv
  go_loopw [3, 9] (fun n v wr => ∃ j : Nat, v = .int .i64 (j : Int) ∧ n = .int .i64 (dexp ((unstr s).take j)) ∧ j ≤ s.size ∧ wr = ww) (fun _ v _ => s.size - (intOf v).toNat)
  case atStart => exact ⟨0, rfl, rfl, Nat.zero_le _, rfl⟩
  case round =>
    obtain ⟨j, rfl, rfl, hj, rfl⟩ := hrel
    by_cases hjn : j < s.size
    · have dj : decide ((j : Int) < (s.size : Int)) = true := decide_eq_true (by omega)
      have djn : decide (j < s.size) = true := decide_eq_true hjn
      have c0 := HR.out.cell j hjn
      rw [Nat.zero_add] at c0
      have hdg := HD.out ((unstr s).getD j 0) (by rw [List.getD_eq_getElem?_getD, List.getElem?_eq_getElem (by omega)]; exact List.getElem_mem _)
      have hrg := dexp_range ((unstr s).take j) fun x hx => HD.out x (List.mem_of_mem_take hx)
      have hst := dexp_step (unstr s) j (by omega)
      have HSt := Lib.hid hst
      unfold isDig at hdg
      simp only [Bool.and_eq_true, decide_eq_true_eq] at hdg
      clear hst
      generalize (unstr s).getD j 0 = x at c0 hdg HSt
      generalize dexp ((unstr s).take j) = m at hrg HSt ⊢
      have w1 : IntKind.i64.wrap (m * 10) = m * 10 := by rw [IntKind.wrap_i64]; omega
      have w2 : IntKind.u8.wrap (x - 48) = x - 48 := by rw [IntKind.wrap_u8]; omega
      have w4 : IntKind.i64.wrap (x - 48) = x - 48 := by rw [IntKind.wrap_i64]; omega
      have w3 : IntKind.i64.wrap (m * 10 + (x - 48)) = m * 10 + (x - 48) := by rw [IntKind.wrap_i64]; omega
      go_wp2_with fail
      exact ⟨⟨j + 1, by go_num, by rw [HSt.out], by omega, trivial⟩, by show s.size - ((j : Int) + 1).toNat < s.size - (j : Int).toNat; omega⟩
    · have dj : decide ((j : Int) < (s.size : Int)) = false := decide_eq_false (by omega)
      have djn : decide (j < s.size) = false := decide_eq_false hjn
      have e : Hid ((unstr s).take j = unstr s) := List.take_of_length_le (by omega)
      go_wp2_with fail
      go_ret
      rw [e.out]
      exact ⟨rfl, HB.out⟩
/-- Digits without the 0 ahead of them; without those behind them, too. -/
def fln (s : ByteArray) : ByteArray := ⟨(Lib.trimLeftB s.data.toList 48).toArray⟩
def fsh (s : ByteArray) : ByteArray := ⟨(Lib.trimRightB (fln s).data.toList 48).toArray⟩
def fmd (neg : Bool) (s : ByteArray) (ex : Int) : Array Value := if (fsh s).size = 0 then #[.bool false, .string ⟨#[]⟩, .int .i64 0] else #[.bool neg, .string (fsh s), .int .i64 (ex + ((fln s).size : Int) - ((fsh s).size : Int))]
theorem fln_le (s : ByteArray) : (fln s).size ≤ s.size := by
  have := (List.dropWhile_sublist (fun x : UInt8 => x == 48) (l := s.data.toList)).length_le
  unfold fln Lib.trimLeftB
  show (List.toArray _).size ≤ s.data.size
  rw [List.size_toArray]
  simpa using this
theorem fsh_le (s : ByteArray) : (fsh s).size ≤ (fln s).size := by
  have := (List.dropWhile_sublist (fun x : UInt8 => x == 48) (l := (fln s).data.toList.reverse)).length_le
  unfold fsh Lib.trimRightB
  show (List.toArray _).size ≤ (fln s).data.size
  rw [List.size_toArray, List.length_reverse]
  rw [List.length_reverse] at this
  exact this
theorem ba_full {b : ByteArray} (h : ¬ b.size = 0) : b.toList.isEmpty = false := by
  rw [ByteArray.toList_eq, List.isEmpty_eq_false_iff]
  intro e
  exact h (by show b.data.size = 0; rw [← Array.length_toList, e]; rfl)
set_option maxRecDepth 100000 in
set_option maxHeartbeats 1000000 in
theorem formed_any (w : World) (neg : Bool) (s : ByteArray) (ex : Int) (hs : s.size ≤ 1000000000) (h1 : -1000000000 ≤ ex) (h2 : ex ≤ 1000000000) :
    Calls Tryd.prog 59 #[.bool neg, .string s, .int .i64 ex] w fun e w' => e = .returned (.agg (fmd neg s ex)) ∧ Below w.heap.size w w' := by
  have hT : ∀ v, Calls Tryd.prog 70 #[.string s, .string ⟨#[48]⟩] v fun e w' => e = .returned (.string (fln s)) ∧ w' = v := fun v => Tryd.strings_TrimLeft_one s 48 (by decide) v
  have hR : ∀ v, Calls Tryd.prog 71 #[.string (fln s), .string ⟨#[48]⟩] v fun e w' => e = .returned (.string (fsh s)) ∧ w' = v := fun v => Tryd.strings_TrimRight_one (fln s) 48 (by decide) v (by have := fln_le s; omega)
  have HT := Lib.hid hT
  have HR := Lib.hid hR
  have l1 := fln_le s
  have l2 := fsh_le s
  have hb : Below w.heap.size w (w.alloc (.cells #[.bool false, .string ⟨#[]⟩, .int .i64 0] 28)) := (Below.refl _ _).alloc (Nat.le_refl _) _
  have HBl := Lib.hid hb
  clear hT hR hb
  unfold fmd
  generalize fln s = a at *
  generalize fsh s = b at *
  obtain ⟨wa, hwa⟩ : ∃ wa, wa = w.alloc (.cells #[.bool false, .string ⟨#[]⟩, .int .i64 0] 28) := ⟨_, rfl⟩
  have hst : wa.heap[w.heap.size]? = some (.cells #[.bool false, .string ⟨#[]⟩, .int .i64 0] 28 (0, 0)) := by rw [hwa]; exact heap_alloc_new _ _
  rw [← hwa] at HBl
  have HW := Lib.hid hwa
  clear hwa
  obtain ⟨_, y0, y1, y2⟩ := row3 hst
  by_cases hz : b.size = 0
  · obtain rfl := ba_nil hz
    rw [if_pos hz]
    have hS3 := set3 (v0 := .bool false) (v1 := .string ⟨#[]⟩) (v2 := .int .i64 0) hst (Nat.le_refl _) HBl.out
    have HS3 := Lib.hid hS3
    clear hS3 hst
    go_enter Tryd.func59, Tryd.ntmps59
    go_wp2_with fail
    rw [← HW.out]
    with_reducible refine (HT.out _).mono ?_
    rintro e w2 ⟨rfl, rfl⟩
    go_wp2_with fail
    with_reducible refine (HR.out _).mono ?_
    rintro e w2 ⟨rfl, rfl⟩
    clear HT HR
    go_wp2_with fail
    refine bodyPost_ret (results_cell_row rfl _ _ w.heap.size _ _ _ _ rfl HS3.out.1 Tryd.underlying28 rfl (by kernel_rfl)) rfl ⟨rfl, HS3.out.2⟩
  · have w1 : IntKind.i64.wrap (ex + (a.size : Int)) = ex + (a.size : Int) := by rw [IntKind.wrap_i64]; omega
    have w2 : IntKind.i64.wrap (ex + (a.size : Int) - (b.size : Int)) = ex + (a.size : Int) - (b.size : Int) := by rw [IntKind.wrap_i64]; omega
    rw [if_neg hz]
    have hS3 := set3 (v0 := .bool neg) (v1 := .string b) (v2 := .int .i64 (ex + (a.size : Int) - (b.size : Int))) hst (Nat.le_refl _) HBl.out
    have HS3 := Lib.hid hS3
    have dz := ba_full hz
    clear hS3 hst
    go_enter Tryd.func59, Tryd.ntmps59
    go_wp2_with fail
    rw [← HW.out]
    with_reducible refine (HT.out _).mono ?_
    rintro e w3 ⟨rfl, rfl⟩
    go_wp2_with fail
    with_reducible refine (HR.out _).mono ?_
    rintro e w3 ⟨rfl, rfl⟩
    clear HT HR
    go_wp2_with fail
    refine bodyPost_ret (results_cell_row rfl _ _ w.heap.size _ _ _ _ rfl HS3.out.1 Tryd.underlying28 rfl (by kernel_rfl)) rfl ⟨rfl, HS3.out.2⟩
/-- A number that may be, or ErrLimit. -/
def told (d : Array Value) (ok : Bool) : Value := if ok then .tuple #[.agg d, .int .i64 0] else .tuple #[.agg #[.bool false, .string ⟨#[]⟩, .int .i64 0], .int .i64 4]
set_option maxRecDepth 100000 in
set_option maxHeartbeats 1000000 in
theorem checked_any (w : World) (neg : Bool) (dg : ByteArray) (ex : Int) (hs : dg.size ≤ 1000000000) :
    Calls Tryd.prog 58 #[.agg #[.bool neg, .string dg, .int .i64 ex]] w fun e w' => e = .returned (told #[.bool neg, .string dg, .int .i64 ex] (dsane neg (unstr dg) ex)) ∧ Below w.heap.size w w' := by
  obtain ⟨wa, hwa⟩ : ∃ wa, wa = (w.alloc (.cells #[.bool neg, .string dg, .int .i64 ex] 28)).alloc (.cells #[.bool false, .string ⟨#[]⟩, .int .i64 0] 28) := ⟨_, rfl⟩
  have hba : Below w.heap.size w wa := by rw [hwa]; exact ((Below.refl _ _).alloc (Nat.le_refl _) _).alloc (by simp) _
  have hs1 : wa.heap[w.heap.size]? = some (.cells #[.bool neg, .string dg, .int .i64 ex] 28 (0, 0)) := by
    rw [hwa]
    show ((w.heap.push _).push _)[w.heap.size]? = _
    rw [Array.getElem?_push_lt (by simp), ← Array.getElem?_eq_getElem]
    exact heap_alloc_new w _
  have hs2 : wa.heap[w.heap.size + 1]? = some (.cells #[.bool false, .string ⟨#[]⟩, .int .i64 0] 28 (0, 0)) := by
    rw [hwa]
    have := heap_alloc_new (w.alloc (.cells #[.bool neg, .string dg, .int .i64 ex] 28)) (.cells #[.bool false, .string ⟨#[]⟩, .int .i64 0] 28)
    simpa using this
  have HS := Lib.hid (fun (v : World) => Sane_any v neg dg ex hs)
  have HB := Lib.hid hba
  have H1 := Lib.hid hs1
  have H2 := Lib.hid hs2
  have HW := Lib.hid hwa
  clear hba hs1 hs2 hwa
  generalize dsane neg (unstr dg) ex = ok at HS ⊢
  go_enter Tryd.func58, Tryd.ntmps58
  go_wp2_with fail
  rw [← HW.out]
  with_reducible refine (HS.out wa).mono ?_
  rintro e w2 ⟨rfl, hb2⟩
  have k1 := (hb2.block _ (Array.getElem?_eq_some_iff.1 H1.out).1).trans H1.out
  have k2 := (hb2.block _ (Array.getElem?_eq_some_iff.1 H2.out).1).trans H2.out
  obtain ⟨⟨x0, x1, x2⟩, _⟩ := row3 k1
  obtain ⟨⟨_, _, _⟩, y0, y1, y2⟩ := row3 k2
  have hb3 := HB.out.trans (hb2.mono HB.out.size)
  cases ok with
  | true =>
    have hS3 := set3 (v0 := .bool neg) (v1 := .string dg) (v2 := .int .i64 ex) k2 (Nat.le_succ _) hb3
    have HS3 := Lib.hid hS3
    clear hS3 k1 k2 hb3 hb2 HS
    go_wp2_with fail
    refine bodyPost_ret (results_row_tmp rfl _ _ (w.heap.size + 1) _ _ _ _ rfl HS3.out.1 Tryd.underlying28 rfl (by kernel_rfl)) rfl ⟨rfl, HS3.out.2⟩
  | false =>
    have hS3 := set3 (v0 := .bool false) (v1 := .string ⟨#[]⟩) (v2 := .int .i64 0) k2 (Nat.le_succ _) hb3
    have HS3 := Lib.hid hS3
    clear hS3 k1 k2 hb3 hb2 HS
    go_wp2_with fail
    refine bodyPost_ret (results_row_tmp rfl _ _ (w.heap.size + 1) _ _ _ _ rfl HS3.out.1 Tryd.underlying28 rfl (by kernel_rfl)) rfl ⟨rfl, HS3.out.2⟩
end Go.Proofs.YtkifndecpbphbaaDoor.dk
