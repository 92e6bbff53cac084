/- The digits of a whole number, as the law writes them. -/
import Derived.Test.YtpnhgggdjlglnaaDoorM2
import Derived.Deep.DeepCutAuto
import Derived.Deep.CutBlock
import Derived.Test.YtpnhgggdjlglnaaDoorM5
namespace Go.Proofs.YtpnhgggdjlglnaaDoor.dk
open Go.PlainAid Go.ChangeShapes Go.WideShapes Go.ChangeAt Go.RowKit

def digB (n : Nat) : ByteArray := ⟨(Lib.decDigits n).toArray⟩
theorem digB_one {n : Nat} (h : n < 10) : digB n = ⟨#[UInt8.ofNat (48 + n)]⟩ := by
  unfold digB
  rw [Lib.decDigits_one h]
theorem digB_more {n : Nat} (h : ¬ n < 10) : digB n = digB (n / 10) ++ ⟨#[UInt8.ofNat (48 + n % 10)]⟩ := by
  apply ByteArray.ext
  rw [ByteArray.data_append]
  show (Lib.decDigits n).toArray = (Lib.decDigits (n / 10)).toArray ++ #[UInt8.ofNat (48 + n % 10)]
  rw [Lib.decDigits, dif_neg h]
  simp
theorem digB_size : ∀ (k n : Nat), n < 10 ^ (k + 1) → (digB n).size ≤ k + 1
  | 0, n, h => by
    rw [digB_one (by omega)]
    exact Nat.le_refl _
  | k + 1, n, h => by
    by_cases h1 : n < 10
    · rw [digB_one h1]
      show 1 ≤ k + 1 + 1
      omega
    · rw [digB_more h1, ByteArray.size_append]
      have := digB_size k (n / 10) (by rw [Nat.pow_succ] at h; omega)
      show _ + 1 ≤ k + 1 + 1
      omega
theorem sign_cut : ∀ k : Nat, k < 10 → (⟨#[48, 49, 50, 51, 52, 53, 54, 55, 56, 57]⟩ : ByteArray).extract k (k + 1) = ⟨#[UInt8.ofNat (48 + k)]⟩ := by decide
set_option maxRecDepth 100000 in
set_option maxHeartbeats 2000000 in
theorem digits_fn : ∀ (n : Nat), n ≤ 1000000 → ∀ w, Calls Tryd.prog 23 #[.int .i64 (n : Int)] w fun e w' => e = .returned (.string (digB n)) ∧ Below w.heap.size w w' := by
  intro n
  induction n using Nat.strongRecOn with
  | _ n ih =>
  intro hn w
  by_cases h : n < 10
  · have d : decide ((n : Int) < 10) = true := decide_eq_true (by omega)
    have dn' : decide (n < 10) = true := decide_eq_true h
    have w1 : IntKind.i64.wrap ((n : Int) + 1) = ((n + 1 : Nat) : Int) := by rw [IntKind.wrap_i64]; omega
    have b1 : (n + 1 : Nat) ≤ 10 := by omega
    have b2 : n ≤ n + 1 := by omega
    have hc := sign_cut n h
    rw [digB_one h, ← hc]
    have HB := Lib.hid (Below.refl w.heap.size w)
    clear ih hc
    go_enter Tryd.func23, Tryd.ntmps23
    go_wp2_with fail
    go_ret
    exact ⟨rfl, HB.out⟩
  · have d : decide ((n : Int) < 10) = false := decide_eq_false (by omega)
    have dn' : decide (n < 10) = false := decide_eq_false h
    obtain ⟨q, hq⟩ : ∃ q, q = n / 10 := ⟨_, rfl⟩
    obtain ⟨r, hr⟩ : ∃ r, r = n % 10 := ⟨_, rfl⟩
    have HI := Lib.hid (fun v => ih q (by omega) (by omega) v)
    have t1 : Int.tdiv (n : Int) 10 = (q : Int) := by rw [Int.tdiv_eq_ediv_of_nonneg (by omega)]; omega
    have t2 : Int.tmod (n : Int) 10 = (r : Int) := by rw [Int.tmod_eq_emod_of_nonneg (by omega)]; omega
    have w1 : IntKind.i64.wrap (q : Int) = (q : Int) := by rw [IntKind.wrap_i64]; omega
    have w2 : IntKind.i64.wrap (r : Int) = (r : Int) := by rw [IntKind.wrap_i64]; omega
    have w3 : IntKind.i64.wrap ((r : Int) + 1) = ((r + 1 : Nat) : Int) := by rw [IntKind.wrap_i64]; omega
    have b1 : (r + 1 : Nat) ≤ 10 := by omega
    have b2 : r ≤ r + 1 := by omega
    have hz := digB_size 7 q (by show q < 100000000; omega)
    rw [digB_more h, ← hq, ← hr, ← sign_cut r (by omega)]
    generalize digB q = Q at HI hz ⊢
    have HCt := Lib.hid hz
    have HB := Lib.hid (Below.refl w.heap.size w)
    clear ih hq hr hz
    go_enter Tryd.func23, Tryd.ntmps23
    go_upto_region 3 with fail
    have hbd : Below w.heap.size w w.drew := (Below.refl _ _).drew
    have HBd := Lib.hid (HB.out.trans hbd)
    have hT0 : (fun W : World => Below w.drew.heap.size w.drew W) w.drew := Below.refl _ _
    refine wp_region_held_drew (S := (fun W : World => Below w.drew.heap.size w.drew W)) (by kernel_rfl) hT0 (fun hHeld => ?_)
    clear hHeld hbd HB
    generalize w.drew = wd at HBd hT0 ⊢
    refine wpAnyH_take (i := 0) (oi := { dst := some 9, op := Op.move (Operand.tmp 0), type := 3, pos := "more.go:50", after := #[], guard := none }) (v := ?_) rfl (by kernel_rfl) (by kernel_rfl) (by kernel_rfl) (fun _ _ _ h => h) (Or.inl ⟨by rfl, ?_⟩) (by assumption) ?_
    rotate_left
    · intro w hSw
      try dsimp only at hSw
      go_simp
      try with_reducible rfl
    try simp only [Act.put, List.setIfInBounds_toArray, List.set_cons_zero, List.set_cons_succ]
    refine wpAnyH_take (i := 1) (oi := { dst := some 10, op := Op.binOp BinOp.quo 3 (Operand.tmp 9) (Operand.const (Value.int IntKind.i64 10)) 3, type := 3, pos := "more.go:50", after := #[{ on := 0, ground := Ground.data }], guard := none }) (v := ?_) rfl (by kernel_rfl) (by kernel_rfl) (by kernel_rfl) (fun _ _ _ h => h) (Or.inl ⟨by rfl, ?_⟩) (by assumption) ?_
    rotate_left
    · intro w hSw
      try dsimp only at hSw
      go_simp
      try with_reducible rfl
    try simp only [Act.put, List.setIfInBounds_toArray, List.set_cons_zero, List.set_cons_succ]
    refine wpAnyH_take (i := 3) (oi := { dst := some 12, op := Op.move (Operand.tmp 0), type := 3, pos := "more.go:50", after := #[], guard := none }) (v := ?_) rfl (by kernel_rfl) (by kernel_rfl) (by kernel_rfl) (fun _ _ _ h => h) (Or.inl ⟨by rfl, ?_⟩) (by assumption) ?_
    rotate_left
    · intro w hSw
      try dsimp only at hSw
      go_simp
      try with_reducible rfl
    try simp only [Act.put, List.setIfInBounds_toArray, List.set_cons_zero, List.set_cons_succ]
    refine wpAnyH_take (i := 4) (oi := { dst := some 13, op := Op.binOp BinOp.rem 3 (Operand.tmp 12) (Operand.const (Value.int IntKind.i64 10)) 3, type := 3, pos := "more.go:50", after := #[{ on := 3, ground := Ground.data }], guard := none }) (v := ?_) rfl (by kernel_rfl) (by kernel_rfl) (by kernel_rfl) (fun _ _ _ h => h) (Or.inl ⟨by rfl, ?_⟩) (by assumption) ?_
    rotate_left
    · intro w hSw
      try dsimp only at hSw
      go_simp
      try with_reducible rfl
    try simp only [Act.put, List.setIfInBounds_toArray, List.set_cons_zero, List.set_cons_succ]
    refine wpAnyH_take (i := 5) (oi := { dst := some 14, op := Op.move (Operand.tmp 0), type := 3, pos := "more.go:50", after := #[], guard := none }) (v := ?_) rfl (by kernel_rfl) (by kernel_rfl) (by kernel_rfl) (fun _ _ _ h => h) (Or.inl ⟨by rfl, ?_⟩) (by assumption) ?_
    rotate_left
    · intro w hSw
      try dsimp only at hSw
      go_simp
      try with_reducible rfl
    try simp only [Act.put, List.setIfInBounds_toArray, List.set_cons_zero, List.set_cons_succ]
    refine wpAnyH_take (i := 6) (oi := { dst := some 15, op := Op.binOp BinOp.rem 3 (Operand.tmp 14) (Operand.const (Value.int IntKind.i64 10)) 3, type := 3, pos := "more.go:50", after := #[{ on := 5, ground := Ground.data }], guard := none }) (v := ?_) rfl (by kernel_rfl) (by kernel_rfl) (by kernel_rfl) (fun _ _ _ h => h) (Or.inl ⟨by rfl, ?_⟩) (by assumption) ?_
    rotate_left
    · intro w hSw
      try dsimp only at hSw
      go_simp
      try with_reducible rfl
    try simp only [Act.put, List.setIfInBounds_toArray, List.set_cons_zero, List.set_cons_succ]
    refine wpAnyH_take (i := 7) (oi := { dst := some 16, op := Op.binOp BinOp.add 3 (Operand.tmp 15) (Operand.const (Value.int IntKind.i64 1)) 3, type := 3, pos := "more.go:50", after := #[{ on := 6, ground := Ground.data }], guard := none }) (v := ?_) rfl (by kernel_rfl) (by kernel_rfl) (by kernel_rfl) (fun _ _ _ h => h) (Or.inl ⟨by rfl, ?_⟩) (by assumption) ?_
    rotate_left
    · intro w hSw
      try dsimp only at hSw
      go_simp
      try with_reducible rfl
    try simp only [Act.put, List.setIfInBounds_toArray, List.set_cons_zero, List.set_cons_succ]
    refine wpAnyH_take (i := 8) (oi := { dst := some 17, op := Op.slice 9 (Operand.const (Value.string { data := #[48, 49, 50, 51, 52, 53, 54, 55, 56, 57] })) (some (Operand.tmp 13)) (some (Operand.tmp 16)) none, type := 9, pos := "more.go:50", after := #[{ on := 4, ground := Ground.data }, { on := 7, ground := Ground.data }], guard := none }) (v := ?_) rfl (by kernel_rfl) (by kernel_rfl) (by kernel_rfl) (fun _ _ _ h => h) (Or.inl ⟨by rfl, ?_⟩) (by assumption) ?_
    rotate_left
    · intro w hSw
      try dsimp only at hSw
      go_simp
      rw [if_pos ⟨by omega, by omega⟩, if_pos (by omega)]
    try simp only [Act.put, List.setIfInBounds_toArray, List.set_cons_zero, List.set_cons_succ]
    refine wpAnyH_ready (rs := [2]) (by kernel_rfl) (by simp) ?_
    refine AllReadyH.cons (o := { dst := some 11, op := Op.call { callee := Callee.value (Operand.func 23), args := #[Operand.tmp 10], argTypes := #[3] }, type := 9, pos := "more.go:50", after := #[{ on := 1, ground := Ground.data }], guard := none }) rfl (fun K hK => ?_) AllReadyH.nil
    go_simp
    with_reducible refine (HI.out _).mono ?_
    rintro e w1 ⟨rfl, hb⟩
    have hT1 : (fun W : World => Below wd.heap.size wd W) w1 := hT0.trans (hb.mono hT0.size)
    refine hK.out _ _ hT1 (fun _ => ?_)
    clear hK K hb
    try simp only [Act.put, List.setIfInBounds_toArray, List.set_cons_zero, List.set_cons_succ]
    refine wpAnyH_take (i := 9) (oi := { dst := some 18, op := Op.binOp BinOp.add 9 (Operand.tmp 11) (Operand.tmp 17) 9, type := 9, pos := "more.go:50", after := #[{ on := 2, ground := Ground.data }, { on := 8, ground := Ground.data }], guard := none }) (v := ?_) rfl (by kernel_rfl) (by kernel_rfl) (by kernel_rfl) (fun _ _ _ h => h) (Or.inl ⟨by rfl, ?_⟩) (by assumption) ?_
    rotate_left
    · intro w hSw
      try dsimp only at hSw
      go_simp
      rw [if_neg (by have := HCt.out; omega)]
    try simp only [Act.put, List.setIfInBounds_toArray, List.set_cons_zero, List.set_cons_succ]
    refine wpAnyH_take (i := 10) (oi := { dst := some 2, op := Op.assign (Operand.tmp 18), type := 9, pos := "more.go:50", after := #[{ on := 9, ground := Ground.data }, { on := 2, ground := Ground.chain }, { on := 0, ground := Ground.phase }, { on := 1, ground := Ground.phase }, { on := 2, ground := Ground.phase }, { on := 3, ground := Ground.phase }, { on := 4, ground := Ground.phase }, { on := 5, ground := Ground.phase }, { on := 6, ground := Ground.phase }, { on := 7, ground := Ground.phase }, { on := 8, ground := Ground.phase }, { on := 9, ground := Ground.phase }], guard := none }) (v := ?_) rfl (by kernel_rfl) (by kernel_rfl) (by kernel_rfl) (fun _ _ _ h => h) (Or.inl ⟨by rfl, ?_⟩) (by assumption) ?_
    rotate_left
    · intro w hSw
      try dsimp only at hSw
      go_simp
      try with_reducible rfl
    try simp only [Act.put, List.setIfInBounds_toArray, List.set_cons_zero, List.set_cons_succ]
    refine wpAnyH_done (by kernel_rfl) ?_ _
    have HE := Lib.hid (HBd.out.trans (hT1.mono HBd.out.size))
    clear hT0 hT1 HBd HI
    go_wp2_with fail
    go_ret
    exact ⟨rfl, HE.out⟩
end Go.Proofs.YtpnhgggdjlglnaaDoor.dk
/- What the texts of DecPoints are parsed to. -/
namespace Go.Proofs.YtpnhgggdjlglnaaDoor.dk
open Go.PlainAid Go.ChangeShapes Go.WideShapes Go.ChangeAt Go.RowKit

theorem fmN_ok (neg : Bool) (s : ByteArray) (ex : Int) (h : Digs (unstr s)) (hs : s.size ≤ 40) (h1 : -300 ≤ ex) (h2 : ex ≤ 300) : (fmN neg s ex).ok = true := by
  refine ok_of (fmN_norm _ _ _ h) fun hz => ?_
  have k1 := fln_le s
  have k2 := fsh_le s
  have hz2 : ¬ (fsh s).size = 0 := fun e => hz (by show (fdig s).size = 0; unfold fdig; rw [if_pos e]; rfl)
  have e1 : (fmN neg s ex).dg.size = (fsh s).size := by show (fdig s).size = _; unfold fdig; rw [if_neg hz2]
  have e2 : (fmN neg s ex).ex = ex + ((fln s).size : Int) - ((fsh s).size : Int) := by show fexp s ex = _; unfold fexp; rw [if_neg hz2]
  rw [e1, e2]
  omega
/-- What Parse tells of a short text of pieces. -/
theorem parse_short (s : ByteArray) (neg : Bool) (W P E : List Int) (x : Int) (hW : Digs W) (hW0 : W ≠ []) (hWz : W.length = 1 ∨ W.getD 0 0 ≠ 48) (hP : Digs P) (hE : ExT E x)
    (hl : unstr s = sgT neg ++ W ++ ptT P ++ E) (hs : s.size ≤ 1000) (hn : (W ++ P).length ≤ 40) (h1 : -300 ≤ x - (P.length : Int)) (h2 : x - (P.length : Int) ≤ 300) :
    ∃ y : Nm, parseP s = (y, 0) ∧ y.ok = true ∧ y.val = if neg then - (nv (W ++ P) * 10 ^ (x - (P.length : Int) - low).toNat) else nv (W ++ P) * 10 ^ (x - (P.length : Int) - low).toNat := by
  obtain ⟨wh, pt, g1, g2, g3⟩ := split_pieces s neg W P E x hW hW0 hWz hP hE hl
  have hu : unstr (wh ++ pt) = W ++ P := by rw [unstr_app, g2, g3]
  have hp : (pt.size : Int) = (P.length : Int) := by rw [← unstr_length, g3]
  have hsz : (wh ++ pt).size ≤ 40 := by rw [← unstr_length, hu]; exact hn
  have hok := fmN_ok neg (wh ++ pt) (x - (pt.size : Int)) (by rw [hu]; exact hW.append hP) hsz (by omega) (by omega)
  refine ⟨fmN neg (wh ++ pt) (x - (pt.size : Int)), ?_, hok, ?_⟩
  · unfold parseP
    rw [if_neg (by omega), g1]
    exact told_ok hok
  · rw [fmN_val _ _ _ (by rw [low_eq]; omega), hu, hp]
/-- A 0 ahead of other digits is no number's. -/
theorem parse_lead (s : ByteArray) (neg : Bool) (W : List Int) (hW : Digs W) (h0 : W ≠ []) (hl : unstr s = sgT neg ++ 48 :: W) (hs : s.size ≤ 1000) : parseP s = (Nm.zero, 2) := by
  have hD : Digs (48 :: W) := fun x hx => by
    rcases List.mem_cons.1 hx with rfl | h
    · decide
    · exact hW x h
  have g1 : hit (unstr s) [45] 0 = neg := by
    rw [hl]
    cases neg <;> rfl
  have g2 : nk (unstr s) [45] 0 = (sgT neg).length := by
    unfold nk
    rw [g1]
    cases neg <;> rfl
  have g3 : (unstr s).drop (sgT neg).length = 48 :: W := by rw [hl, drop_app]
  have g4 : dn ((unstr s).drop (sgT neg).length) = (48 :: W).length := by
    rw [g3]
    have := dn_run (48 :: W) [] hD (fun _ _ e => by cases e)
    rw [List.append_nil] at this
    exact this
  have g5 : (unstr s).getD (sgT neg).length 0 = 48 := by
    have : (unstr s).getD (sgT neg).length 0 = ((unstr s).drop (sgT neg).length).getD 0 0 := by rw [getD_drop, Nat.add_zero]
    rw [this, g3]
    rfl
  have hsp : splitOf s = none := by
    unfold splitOf
    simp only [g2, g4]
    rw [if_pos (.inr ⟨by
      have := List.length_pos_iff.2 h0
      rw [List.length_cons]
      omega, g5⟩)]
  unfold parseP
  rw [if_neg (by omega), hsp]
  rfl
def sgB (neg : Bool) : ByteArray := if neg then ⟨#[45]⟩ else ⟨#[]⟩
theorem sgB_text (neg : Bool) : unstr (sgB neg) = sgT neg := by cases neg <;> rfl
theorem sgB_size (neg : Bool) : (sgB neg).size ≤ 1 := by cases neg <;> decide
theorem digB_text (n : Nat) : unstr (digB n) = ud (Lib.decDigits n) := rfl
/-- What DecPoints asks of its four texts. -/
theorem points_facts (neg : Bool) (a b : Nat) (ha : a < 65536) (hb : b < 65536) :
    ∃ D : Nm, D.ok = true ∧ parseP (((sgB neg ++ digB a) ++ ⟨#[46]⟩) ++ digB b) = (D, 0) ∧ parseP ((((sgB neg ++ digB a) ++ ⟨#[46]⟩) ++ digB b) ++ ⟨#[48, 48, 48, 101, 48]⟩) = (D, 0) ∧
      (a ≠ 0 → parseP ((((sgB neg ++ digB a) ++ digB b) ++ ⟨#[69, 45]⟩) ++ digB (digB b).size) = (D, 0)) ∧ parseP ((sgB neg ++ ⟨#[48]⟩) ++ digB a) = (Nm.zero, 2) := by
  obtain ⟨fa1, fa2, fa3, _, fa5⟩ := dec_facts a
  obtain ⟨fb1, fb2, fb3, _, _⟩ := dec_facts b
  have za := digB_size 4 a (by show a < 100000; omega)
  have zb := digB_size 4 b (by show b < 100000; omega)
  have zs := sgB_size neg
  have xa : ud (Lib.decDigits a) ≠ [] := fun e => fa2 (List.map_eq_nil_iff.1 e)
  have xb : ud (Lib.decDigits b) ≠ [] := fun e => fb2 (List.map_eq_nil_iff.1 e)
  have la : (ud (Lib.decDigits a)).length = (digB a).size := by rw [← digB_text, unstr_length]
  have lb : (ud (Lib.decDigits b)).length = (digB b).size := by rw [← digB_text, unstr_length]
  have ta := digB_text a
  have tb := digB_text b
  have hz : (ud (Lib.decDigits a)).length = 1 ∨ (ud (Lib.decDigits a)).getD 0 0 ≠ 48 := by
    by_cases h0 : a = 0
    · subst h0
      exact .inl (by rw [Lib.decDigits_one (by decide)]; rfl)
    · exact .inr (fa5 (by omega))
  generalize ud (Lib.decDigits a) = X at *
  generalize ud (Lib.decDigits b) = Y at *
  have pY : ptT Y = 46 :: Y := if_neg xb
  have lx : 0 < Y.length := List.length_pos_iff.2 xb
  have low0 := low_eq
  -- the first text
  obtain ⟨D, d1, d2, d3⟩ := parse_short (((sgB neg ++ digB a) ++ ⟨#[46]⟩) ++ digB b) neg X Y [] 0 fa1 xa hz fb1 .none
    (by rw [unstr_app, unstr_app, unstr_app, sgB_text, ta, tb, pY]; show _ ++ _ ++ [46] ++ _ = _; simp)
    (by rw [ByteArray.size_append, ByteArray.size_append, ByteArray.size_append]; show _ + _ + 1 + _ ≤ _; omega)
    (by rw [List.length_append]; omega) (by omega) (by omega)
  have hv : ∀ (N : Int) (p q : Nat), p = q → (if neg then -(N * 10 ^ p) else N * 10 ^ p) = if neg then -(N * 10 ^ q) else N * 10 ^ q := fun N p q e => by rw [e]
  refine ⟨D, d2, d1, ?_, fun h0 => ?_, ?_⟩
  · have hY3 : Digs (Y ++ [48, 48, 48]) := fb1.append (fun x hx => by
      have : x = 48 := by simpa using hx
      rw [this]
      decide)
    have p3 : ptT (Y ++ [48, 48, 48]) = 46 :: (Y ++ [48, 48, 48]) := if_neg (by simp)
    obtain ⟨F, e1, e2, e3⟩ := parse_short ((((sgB neg ++ digB a) ++ ⟨#[46]⟩) ++ digB b) ++ ⟨#[48, 48, 48, 101, 48]⟩) neg X (Y ++ [48, 48, 48]) [101, 48] (dexp [48]) fa1 xa hz hY3 (.plain 101 [48] (.inl rfl) (fun x hx => by rw [List.mem_singleton.1 hx]; decide) (by simp))
      (by rw [unstr_app, unstr_app, unstr_app, unstr_app, sgB_text, ta, tb, p3]; show _ ++ _ ++ [46] ++ _ ++ [48, 48, 48, 101, 48] = _; simp)
      (by rw [ByteArray.size_append, ByteArray.size_append, ByteArray.size_append, ByteArray.size_append]; show _ + _ + 1 + _ + 5 ≤ _; omega)
      (by rw [List.length_append, List.length_append]; show _ + (_ + 3) ≤ _; omega)
      (by rw [show dexp [48] = 0 from rfl, List.length_append]; show _ ≤ 0 - (((_ + 3 : Nat)) : Int); omega) (by rw [show dexp [48] = 0 from rfl]; omega)
    rw [e1]
    refine congrArg (fun z => (z, (0 : Int))) (Nm.uniq (Nm.ok_norm e2) (Nm.ok_norm d2) (low_ok e2) (low_ok d2) (e3.trans (Eq.trans ?_ d3.symm)))
    rw [show dexp [48] = 0 from rfl, ← List.append_assoc, nv_append (X ++ Y), show nv [48, 48, 48] = 0 from rfl, Int.add_zero, Int.mul_assoc, ← Int.pow_add]
    exact hv _ _ _ (by rw [List.length_append]; show 3 + (0 - ((Y.length + 3 : Nat) : Int) - low).toNat = _; omega)
  · have hz2 : (X ++ Y).getD 0 0 ≠ 48 := by
      have hx0 := List.length_pos_iff.2 xa
      rw [List.getD_eq_getElem?_getD, List.getElem?_append_left hx0, ← List.getD_eq_getElem?_getD]
      exact fa5 (by omega)
    obtain ⟨fc1, fc2, _, fc4, _⟩ := dec_facts (digB b).size
    have zc := digB_size 0 (digB b).size (by show _ < 10; omega)
    have hd := fc4 (by omega)
    obtain ⟨G, e1, e2, e3⟩ := parse_short ((((sgB neg ++ digB a) ++ digB b) ++ ⟨#[69, 45]⟩) ++ digB (digB b).size) neg (X ++ Y) [] (69 :: 45 :: ud (Lib.decDigits (digB b).size)) (- dexp (ud (Lib.decDigits (digB b).size))) (fa1.append fb1) (by simp [xa]) (.inr hz2) (fun x hx => by cases hx) (.minus 69 _ (.inr rfl) fc1 (fun e => fc2 (List.map_eq_nil_iff.1 e)))
      (by rw [unstr_app, unstr_app, unstr_app, unstr_app, sgB_text, ta, tb, digB_text]; show _ ++ _ ++ _ ++ [69, 45] ++ _ = _ ++ ([] : List Int) ++ _; simp)
      (by rw [ByteArray.size_append, ByteArray.size_append, ByteArray.size_append, ByteArray.size_append]; show _ + _ + _ + 2 + _ ≤ _; omega)
      (by rw [List.append_nil, List.length_append]; omega)
      (by rw [hd]; show -300 ≤ _ - (0 : Int); omega) (by rw [hd]; show _ - (0 : Int) ≤ _; omega)
    rw [e1]
    refine congrArg (fun z => (z, (0 : Int))) (Nm.uniq (Nm.ok_norm e2) (Nm.ok_norm d2) (low_ok e2) (low_ok d2) (e3.trans (Eq.trans ?_ d3.symm)))
    rw [List.append_nil, hd]
    exact hv _ _ _ (by show (-((digB b).size : Int) - (0 : Int) - low).toNat = _; omega)
  · exact parse_lead _ neg X fa1 xa (by rw [unstr_app, unstr_app, sgB_text, ta]; show _ ++ [48] ++ _ = _; simp) (by rw [ByteArray.size_append, ByteArray.size_append]; show _ + 1 + _ ≤ _; omega)
theorem parse_00 : parseP ⟨#[48, 48]⟩ = (Nm.zero, 2) := by kernel_rfl
end Go.Proofs.YtpnhgggdjlglnaaDoor.dk
