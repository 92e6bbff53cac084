/- TokenJoins. -/
import Derived.Test.YtkifndecpbphbaaDoorTX
namespace Go.Proofs.YtkifndecpbphbaaDoor.dk
open Go.PlainAid Go.ChangeShapes Go.WideShapes Go.ChangeAt Go.RowKit

theorem chain_at {l : List Int} {k : Nat} {r : List TT} (h : Chain l k r) : ∀ i, i < r.length → (r.getD i default).2.1 ≤ l.length ∧ (r.getD i default).2.2 ≤ l.length := by
  induction h with
  | nil => intro i hi; cases hi
  | cons k hk t n r hn hle hF hq h ih =>
    intro i hi
    cases i with
    | zero => exact ⟨by show toF l k ≤ l.length; omega, hle⟩
    | succ i => exact ih i (by simpa using hi)
theorem chain_count {l : List Int} {k : Nat} {r : List TT} (h : Chain l k r) : r.length ≤ l.length - k := by
  induction h with
  | nil => exact Nat.zero_le _
  | cons k hk t n r hn hle hF hq h ih =>
    have := (toF_le (l := l) hk).1
    rw [List.length_cons]
    omega
theorem allL_small {l : List Int} (h : l.length ≤ 8192) : allL l = allT l 0 := by
  rw [allL_T, if_neg (by omega)]
theorem allL_err (l : List Int) : (allL l).2 = 0 ∨ (allL l).1 = [] := by
  rw [allL_T]
  split
  · exact .inr rfl
  · exact allT_err l 0
theorem unstr_app (a b : ByteArray) : unstr (a ++ b) = unstr a ++ unstr b := by
  unfold unstr
  rw [ByteArray.data_append]
  simp
theorem getD_app_left {r q : List TT} {i : Nat} (h : i < r.length) : (r ++ q).getD i default = r.getD i default := by
  rw [List.getD_eq_getElem?_getD, List.getD_eq_getElem?_getD, List.getElem?_append_left h]
theorem getD_app_map {r q : List TT} {d i : Nat} (h : r.length ≤ i) (hi : i - r.length < q.length) : (r ++ q.map (mvT d)).getD i default = mvT d (q.getD (i - r.length) default) := by
  rw [List.getD_eq_getElem?_getD, List.getElem?_append_right h, List.getElem?_map, List.getD_eq_getElem?_getD, List.getElem?_eq_getElem hi]
  rfl
/-- What the law compares in a round. -/
theorem joins_facts {a b : ByteArray} {l1 l2 : List TT} (hs : a.size + b.size ≤ 1000) (h1 : allL (unstr a) = (l1, 0)) (h2 : allL (unstr b) = (l2, 0)) :
    ∃ l3, allL (unstr (a ++ ⟨#[10]⟩ ++ b)) = (l3, 0) ∧ l3.length = l1.length + l2.length ∧ l1.length ≤ 2000 ∧ l2.length ≤ 2000 ∧
    ∀ i, i < l3.length → ∃ (kd : Int) (s : List Int) (n : Bool) (d : ByteArray) (e : Int) (f t f' t' : Nat), f ≤ 2000 ∧ t ≤ 2000 ∧ f' ≤ 3000 ∧ t' ≤ 3000 ∧ ((t' : Int) - f' = (t : Int) - f) ∧ l3.getD i default = (⟨kd, s, n, d, e⟩, f', t') ∧
      (i < l1.length → l1.getD i default = (⟨kd, s, n, d, e⟩, f, t)) ∧ (¬ i < l1.length → i - l1.length < l2.length ∧ l2.getD (i - l1.length) default = (⟨kd, s, n, d, e⟩, f, t)) := by
  have ha := unstr_oct a
  have hb := unstr_oct b
  have la := unstr_length a
  have lb := unstr_length b
  have e3 : unstr (a ++ ⟨#[10]⟩ ++ b) = unstr a ++ 10 :: unstr b := by
    rw [unstr_app, unstr_app, List.append_assoc]
    rfl
  rw [allL_small (by omega)] at h1 h2
  have c1 := chain_of _ ha (Nat.le_refl _) (Nat.zero_le _) h1
  have c2 := chain_of _ hb (Nat.le_refl _) (Nat.zero_le _) h2
  have h3 := all_join ha hb c1 c2
  have n1 := chain_count c1
  have n2 := chain_count c2
  refine ⟨l1 ++ l2.map (mvT ((unstr a).length + 1)), ?_, by rw [List.length_append, List.length_map], by omega, by omega, fun i hi => ?_⟩
  · rw [e3, allL_small (by rw [List.length_append, List.length_cons]; omega)]
    exact h3
  · rw [List.length_append, List.length_map] at hi
    by_cases hl : i < l1.length
    · have hc := chain_at c1 i hl
      obtain ⟨⟨⟨kd, s, n, d, e⟩, f, t⟩, hy⟩ : ∃ y, l1.getD i default = y := ⟨_, rfl⟩
      rw [hy] at hc
      dsimp only at hc
      exact ⟨kd, s, n, d, e, f, t, f, t, by omega, by omega, by omega, by omega, rfl, by rw [getD_app_left hl]; exact hy, fun _ => hy, fun h => absurd hl h⟩
    · have hc := chain_at c2 (i - l1.length) (by omega)
      obtain ⟨⟨⟨kd, s, n, d, e⟩, f, t⟩, hy⟩ : ∃ y, l2.getD (i - l1.length) default = y := ⟨_, rfl⟩
      rw [hy] at hc
      dsimp only at hc
      exact ⟨kd, s, n, d, e, f, t, (unstr a).length + 1 + f, (unstr a).length + 1 + t, by omega, by omega, by omega, by omega, by omega, by rw [getD_app_map (by omega) (by omega), hy]; rfl, fun h => absurd h hl, fun _ => ⟨by omega, hy⟩⟩
set_option maxRecDepth 100000 in
set_option maxHeartbeats 2000000 in
theorem joins_great (w : World) (a b : ByteArray) (sa : a.size ≤ 140737488351232) (sb : b.size ≤ 140737488351232) (hg : 1000 < a.size + b.size) (hF : utf.Forms w) (mx : Int) (hm : w.cell? ⟨1, 0, none⟩ = some (.int .i64 mx)) :
    Calls Tryd.prog 5 #[.string a, .string b] w fun e w' => e = .returned (.bool true) ∧ Below w.heap.size w w' := by
  have HAw := Lib.hid (awake_any w hF mx hm)
  have wk : IntKind.i64.wrap ((a.size : Int) + (b.size : Int)) = ((a.size + b.size : Nat) : Int) := by rw [IntKind.wrap_i64]; omega
  have d1 : decide ((1000 : Int) < (a.size : Int) + (b.size : Int)) = true := decide_eq_true (by omega)
  clear hF hm
  go_enter Tryd.func5, Tryd.ntmps5
  go_wp2_with fail
  with_reducible refine HAw.out.mono ?_
  rintro e w1 ⟨rfl, hb1⟩
  have HB := Lib.hid hb1
  clear hb1
  go_wp2_with fail
  go_ret
  exact ⟨rfl, HB.out⟩
theorem empty_err {r : TR} (h : r.2 = 0 ∨ r.1 = []) (h0 : r.2 ≠ 0) : r.1.length = 0 := by
  rcases h with h | h
  · exact absurd h h0
  · rw [h]; rfl
set_option maxRecDepth 100000 in
set_option maxHeartbeats 4000000 in
theorem joins_small (w : World) (a b : ByteArray) (hs : ¬ 1000 < a.size + b.size) (hF : utf.Forms w) (mx : Int) (hm : w.cell? ⟨1, 0, none⟩ = some (.int .i64 mx)) :
    Calls Tryd.prog 5 #[.string a, .string b] w fun e w' => e = .returned (.bool true) ∧ Below w.heap.size w w' := by
  have HAw := Lib.hid (awake_any w hF mx hm)
  have wk : IntKind.i64.wrap ((a.size : Int) + (b.size : Int)) = ((a.size + b.size : Nat) : Int) := by rw [IntKind.wrap_i64]; omega
  have d1 : decide ((1000 : Int) < (a.size : Int) + (b.size : Int)) = false := decide_eq_false (by omega)
  have hz1 : a.size + 1 ≤ 9223372036854775807 := by omega
  have hz2 : a.size + 1 + b.size ≤ 9223372036854775807 := by omega
  have hA1 := fun v (h : Below w.heap.size w v) => All_any v a (hF.below h hF.size) (by omega) mx ((h.cell (World.block_lt_of_cell? _ _ hm)).trans hm)
  have hA2 := fun v (h : Below w.heap.size w v) => All_any v b (hF.below h hF.size) (by omega) mx ((h.cell (World.block_lt_of_cell? _ _ hm)).trans hm)
  have hA3 := fun v (h : Below w.heap.size w v) => All_any v (a ++ ⟨#[10]⟩ ++ b) (hF.below h hF.size) (by rw [ByteArray.size_append, ByteArray.size_append]; show a.size + 1 + b.size ≤ _; omega) mx ((h.cell (World.block_lt_of_cell? _ _ hm)).trans hm)
  have hfacts := fun l1 l2 h1 h2 => joins_facts (a := a) (b := b) (l1 := l1) (l2 := l2) (by omega) h1 h2
  have er1 := empty_err (allL_err (unstr a))
  have HE1 := Lib.hid er1
  obtain ⟨r1, hr1⟩ : ∃ r, allL (unstr a) = r := ⟨_, rfl⟩
  obtain ⟨r2, hr2⟩ : ∃ r, allL (unstr b) = r := ⟨_, rfl⟩
  obtain ⟨r3, hr3⟩ : ∃ r, allL (unstr (a ++ ⟨#[10]⟩ ++ b)) = r := ⟨_, rfl⟩
  rw [hr1] at hA1 hfacts HE1
  rw [hr2] at hA2 hfacts
  rw [hr3] at hA3 hfacts
  obtain ⟨l1, e1⟩ := r1
  obtain ⟨l2, e2⟩ := r2
  obtain ⟨l3, e3⟩ := r3
  dsimp only at HE1
  have HA1 := Lib.hid hA1
  have HA2 := Lib.hid hA2
  have HA3 := Lib.hid hA3
  have HFa := Lib.hid hfacts
  clear hA1 hA2 hA3 hfacts hr1 hr2 hr3 hF hm er1
  go_enter Tryd.func5, Tryd.ntmps5
  go_wp2_with fail
  with_reducible refine HAw.out.mono ?_
  rintro e w1 ⟨rfl, hb1⟩
  have HB1 := Lib.hid hb1
  clear hb1
  go_wp2_with fail
  with_reducible refine (HA1.out _ HB1.out).mono ?_
  rintro e w2 ⟨p1, c1, rfl, hown, hb2⟩
  dsimp only at hown
  have HR1 := Lib.hid (owned_rdT hown)
  have HB2 := Lib.hid (HB1.out.trans (hb2.mono HB1.out.size))
  clear hown hb2 HB1 HA1
  go_wp2_with fail
  with_reducible refine (HA2.out _ HB2.out).mono ?_
  rintro e w3 ⟨p2, c2, rfl, hown, hb3⟩
  dsimp only at hown
  have HR2 := Lib.hid (owned_rdT hown)
  have HR12 := Lib.hid (HR1.out.below hb3)
  have HB3 := Lib.hid (HB2.out.trans (hb3.mono HB2.out.size))
  clear hown hb3 HB2 HA2 HR1
  go_wp2_with fail
  with_reducible refine (HA3.out _ HB3.out).mono ?_
  rintro e w4 ⟨p3, c3, rfl, hown, hb4⟩
  dsimp only at hown
  have HR3 := Lib.hid (owned_rdT hown)
  have HR1 := Lib.hid (HR12.out.below hb4)
  have HR22 := Lib.hid (HR2.out.below hb4)
  have HB4 := Lib.hid (HB3.out.trans (hb4.mono HB3.out.size))
  clear hown hb4 HB3 HA3 HR2 HR12
  by_cases he1 : e1 = 0
  · subst he1
    by_cases he2 : e2 = 0
    · subst he2
      obtain ⟨l4, h4, hl, n1, n2, hat⟩ := HFa.out l1 l2 rfl rfl
      injection h4 with h4 h5
      subst h4
      subst h5
      have HAt := Lib.hid hat
      have HL := Lib.hid (And.intro hl (And.intro n1 n2))
      have wl : IntKind.i64.wrap ((l1.length : Int) + (l2.length : Int)) = (l1.length : Int) + (l2.length : Int) := by rw [IntKind.wrap_i64]; omega
      have hl3 : ((l3.length : Nat) : Int) = (l1.length : Int) + (l2.length : Int) := by omega
      have dne : (((l3.length : Nat) : Int) != (l1.length : Int) + (l2.length : Int)) = false := by rw [hl3]; simp
      clear hat hl n1 n2 HFa hl3
      go_upto_region 12 with fail
      clear wl dne
      go_loopw [12] (fun i wr => ∃ k : Nat, k ≤ l3.length ∧ i = .int .i64 k ∧ RdT wr p1 l1.length l1 ∧ RdT wr p2 l2.length l2 ∧ RdT wr p3 l3.length l3 ∧ Below w.heap.size w wr) (fun i _ => l3.length - (intOf i).toNat)
      case atStart => exact ⟨0, Nat.zero_le _, rfl, HR1.out, HR22.out, HR3.out, HB4.out⟩
      case round =>
        clear HR1 HR22 HR3 HB4
        obtain ⟨k, hk, rfl, hi1, hi2, hi3, hib⟩ := hrel
        have HI := Lib.hid (And.intro hi1 (And.intro hi2 (And.intro hi3 hib)))
        by_cases hkl : k < l3.length
        · obtain ⟨yk, ys, yn, yd, ye, yf, yt, xf, xt, g1, g2, g3, g4, g5, gx, gl, gr⟩ := HAt.out k hkl
          have hll := HL.out
          obtain ⟨bx, rfl⟩ := hi3.form (by omega)
          have hx := hi3.seven k hkl
          rw [gx] at hx
          dsimp only at hx
          obtain ⟨x0, x1, x2, x3, x4, x5, x6⟩ := hx
          have wx : IntKind.i64.wrap ((xt : Int) - (xf : Int)) = (yt : Int) - (yf : Int) := by rw [IntKind.wrap_i64]; omega
          have wy : IntKind.i64.wrap ((yt : Int) - (yf : Int)) = (yt : Int) - (yf : Int) := by rw [IntKind.wrap_i64]; omega
          clear gx
          by_cases hkk : k < l1.length
          · have dk : decide ((k : Int) < (l1.length : Int)) = true := decide_eq_true (by omega)
            obtain ⟨b1, rfl⟩ := hi1.form (by omega)
            have gy := gl hkk
            have HYs : Hid (∀ W, Below wr.heap.size wr W → W.cell? ⟨b1, k * 7, none⟩ = some (.int .i64 yk) ∧ W.cell? ⟨b1, k * 7 + 1, none⟩ = some (.string (strOf ys)) ∧ W.cell? ⟨b1, k * 7 + 2, none⟩ = some (.bool yn) ∧ W.cell? ⟨b1, k * 7 + 3, none⟩ = some (.string yd) ∧ W.cell? ⟨b1, k * 7 + 4, none⟩ = some (.int .i64 ye) ∧ W.cell? ⟨b1, k * 7 + 5, none⟩ = some (.int .i64 (yf : Int)) ∧ W.cell? ⟨b1, k * 7 + 6, none⟩ = some (.int .i64 (yt : Int))) := fun W h => by
              have h := (hi1.below h).seven k hkk
              rw [gy] at h
              exact h
            clear gl gr gy hi1 hi2 hi3 hib g1 g2 g3 g4 g5 hll
            go_upto_region 16 with fail
            have hX : ((wr.alloc (.cells #[.int .i64 yk, .string (strOf ys), .bool yn, .string yd, .int .i64 ye, .int .i64 (xf : Int), .int .i64 (xt : Int)] 30)).alloc (.cells #[.int .i64 yk, .string (strOf ys), .bool yn, .string yd, .int .i64 ye, .int .i64 (xf : Int), .int .i64 (xt : Int)] 30)).heap[wr.heap.size]? = some (.cells #[.int .i64 yk, .string (strOf ys), .bool yn, .string yd, .int .i64 ye, .int .i64 (xf : Int), .int .i64 (xt : Int)] 30 (0, 0)) := alloc_old _ (heap_alloc_new _ _)
            have hY : ((wr.alloc (.cells #[.int .i64 yk, .string (strOf ys), .bool yn, .string yd, .int .i64 ye, .int .i64 (xf : Int), .int .i64 (xt : Int)] 30)).alloc (.cells #[.int .i64 yk, .string (strOf ys), .bool yn, .string yd, .int .i64 ye, .int .i64 (xf : Int), .int .i64 (xt : Int)] 30)).heap[wr.heap.size + 1]? = some (.cells #[.int .i64 yk, .string (strOf ys), .bool yn, .string yd, .int .i64 ye, .int .i64 (xf : Int), .int .i64 (xt : Int)] 30 (0, 0)) := by
              have h := heap_alloc_new (wr.alloc (.cells #[.int .i64 yk, .string (strOf ys), .bool yn, .string yd, .int .i64 ye, .int .i64 (xf : Int), .int .i64 (xt : Int)] 30)) (.cells #[.int .i64 yk, .string (strOf ys), .bool yn, .string yd, .int .i64 ye, .int .i64 (xf : Int), .int .i64 (xt : Int)] 30)
              simpa using h
            have hbb : Below wr.heap.size wr ((wr.alloc (.cells #[.int .i64 yk, .string (strOf ys), .bool yn, .string yd, .int .i64 ye, .int .i64 (xf : Int), .int .i64 (xt : Int)] 30)).alloc (.cells #[.int .i64 yk, .string (strOf ys), .bool yn, .string yd, .int .i64 ye, .int .i64 (xf : Int), .int .i64 (xt : Int)] 30)) := ((Below.refl _ _).alloc (Nat.le_refl _) _).alloc (by simp) _
            have HX := Lib.hid hX
            have HY := Lib.hid hY
            have HBB := Lib.hid hbb
            clear hX hY hbb x0 x1 x2 x3 x4 x5 x6
            generalize (wr.alloc (.cells #[.int .i64 yk, .string (strOf ys), .bool yn, .string yd, .int .i64 ye, .int .i64 (xf : Int), .int .i64 (xt : Int)] 30)).alloc (.cells #[.int .i64 yk, .string (strOf ys), .bool yn, .string yd, .int .i64 ye, .int .i64 (xf : Int), .int .i64 (xt : Int)] 30) = W2 at HX HY HBB ⊢
            obtain ⟨y0, y1, y2, y3, y4, y5, y6⟩ := HYs.out W2 HBB.out
            have hS := set7 (v0 := .int .i64 yk) (v1 := .string (strOf ys)) (v2 := .bool yn) (v3 := .string yd) (v4 := .int .i64 ye) (v5 := .int .i64 (yf : Int)) (v6 := .int .i64 (yt : Int)) HY.out (show wr.heap.size ≤ wr.heap.size + 1 by omega) HBB.out
            have HS := Lib.hid hS
            have hX3 : ((((((( W2.setCell ⟨wr.heap.size + 1, 0, none⟩ (.int .i64 yk)).setCell ⟨wr.heap.size + 1, 1, none⟩ (.string (strOf ys))).setCell ⟨wr.heap.size + 1, 2, none⟩ (.bool yn)).setCell ⟨wr.heap.size + 1, 3, none⟩ (.string yd)).setCell ⟨wr.heap.size + 1, 4, none⟩ (.int .i64 ye)).setCell ⟨wr.heap.size + 1, 5, none⟩ (.int .i64 (yf : Int))).setCell ⟨wr.heap.size + 1, 6, none⟩ (.int .i64 (yt : Int))).heap[wr.heap.size]? = some (.cells #[.int .i64 yk, .string (strOf ys), .bool yn, .string yd, .int .i64 ye, .int .i64 (xf : Int), .int .i64 (xt : Int)] 30 (0, 0)) := by
              rw [Below.heap_setCell _ _ _ _ (by simp), Below.heap_setCell _ _ _ _ (by simp), Below.heap_setCell _ _ _ _ (by simp), Below.heap_setCell _ _ _ _ (by simp), Below.heap_setCell _ _ _ _ (by simp), Below.heap_setCell _ _ _ _ (by simp), Below.heap_setCell _ _ _ _ (by simp)]
              exact HX.out
            have HX3 := Lib.hid hX3
            obtain ⟨_, z0, z1, z2, z3, z4, z5, z6⟩ := row7 HY.out
            have q0 := (row7 HY.out).1
            obtain ⟨q0, q1, q2, q3, q4, q5, q6⟩ := q0
            clear hS hX3 HX HY HBB
            go_upto_region 19 with fail
            clear y0 y1 y2 y3 y4 y5 y6 z0 z1 z2 z3 z4 z5 z6 q0 q1 q2 q3 q4 q5 q6
            generalize (((((( W2.setCell ⟨wr.heap.size + 1, 0, none⟩ (.int .i64 yk)).setCell ⟨wr.heap.size + 1, 1, none⟩ (.string (strOf ys))).setCell ⟨wr.heap.size + 1, 2, none⟩ (.bool yn)).setCell ⟨wr.heap.size + 1, 3, none⟩ (.string yd)).setCell ⟨wr.heap.size + 1, 4, none⟩ (.int .i64 ye)).setCell ⟨wr.heap.size + 1, 5, none⟩ (.int .i64 (yf : Int))).setCell ⟨wr.heap.size + 1, 6, none⟩ (.int .i64 (yt : Int)) = W3 at HS HX3 ⊢
            obtain ⟨⟨a0, a1, a2, a3, a4, a5, a6⟩, _⟩ := row7 HX3.out
            obtain ⟨⟨b0, b1, b2, b3, b4, b5, b6⟩, _⟩ := row7 HS.out.1
            have hb3 := HS.out.2
            have HI3 := Lib.hid (And.intro (HI.out.1.below hb3) (And.intro (HI.out.2.1.below hb3) (And.intro (HI.out.2.2.1.below hb3) (HI.out.2.2.2.trans (hb3.mono HI.out.2.2.2.size)))))
            clear HX3 HS hb3 HI HYs
            have h4k : l3.length ≤ 4000 := by have := HL.out; omega
            go_wp2_with fail
            go_roundw
            case rel => exact ⟨k + 1, by omega, by go_num, HI3.out.1, HI3.out.2.1, HI3.out.2.2.1, HI3.out.2.2.2⟩
            case measure => simp [intOf]; omega
          · have dk : decide ((k : Int) < (l1.length : Int)) = false := decide_eq_false (by omega)
            obtain ⟨gr1, gy⟩ := gr hkk
            obtain ⟨b2, rfl⟩ := hi2.form (by omega)
            have wj : IntKind.i64.wrap ((k : Int) - (l1.length : Int)) = ((k - l1.length : Nat) : Int) := by rw [IntKind.wrap_i64]; omega
            have hjl : k - l1.length < l2.length := gr1
            have HYs : Hid (∀ W, Below wr.heap.size wr W → W.cell? ⟨b2, (k - l1.length) * 7, none⟩ = some (.int .i64 yk) ∧ W.cell? ⟨b2, (k - l1.length) * 7 + 1, none⟩ = some (.string (strOf ys)) ∧ W.cell? ⟨b2, (k - l1.length) * 7 + 2, none⟩ = some (.bool yn) ∧ W.cell? ⟨b2, (k - l1.length) * 7 + 3, none⟩ = some (.string yd) ∧ W.cell? ⟨b2, (k - l1.length) * 7 + 4, none⟩ = some (.int .i64 ye) ∧ W.cell? ⟨b2, (k - l1.length) * 7 + 5, none⟩ = some (.int .i64 (yf : Int)) ∧ W.cell? ⟨b2, (k - l1.length) * 7 + 6, none⟩ = some (.int .i64 (yt : Int))) := fun W h => by
              have h := (hi2.below h).seven (k - l1.length) hjl
              rw [gy] at h
              exact h
            clear gl gr gy hi1 hi2 hi3 hib g1 g2 g3 g4 g5 hll
            generalize k - l1.length = jj at wj hjl HYs
            go_upto_region 16 with fail
            have hX : ((wr.alloc (.cells #[.int .i64 yk, .string (strOf ys), .bool yn, .string yd, .int .i64 ye, .int .i64 (xf : Int), .int .i64 (xt : Int)] 30)).alloc (.cells #[.int .i64 yk, .string (strOf ys), .bool yn, .string yd, .int .i64 ye, .int .i64 (xf : Int), .int .i64 (xt : Int)] 30)).heap[wr.heap.size]? = some (.cells #[.int .i64 yk, .string (strOf ys), .bool yn, .string yd, .int .i64 ye, .int .i64 (xf : Int), .int .i64 (xt : Int)] 30 (0, 0)) := alloc_old _ (heap_alloc_new _ _)
            have hY : ((wr.alloc (.cells #[.int .i64 yk, .string (strOf ys), .bool yn, .string yd, .int .i64 ye, .int .i64 (xf : Int), .int .i64 (xt : Int)] 30)).alloc (.cells #[.int .i64 yk, .string (strOf ys), .bool yn, .string yd, .int .i64 ye, .int .i64 (xf : Int), .int .i64 (xt : Int)] 30)).heap[wr.heap.size + 1]? = some (.cells #[.int .i64 yk, .string (strOf ys), .bool yn, .string yd, .int .i64 ye, .int .i64 (xf : Int), .int .i64 (xt : Int)] 30 (0, 0)) := by
              have h := heap_alloc_new (wr.alloc (.cells #[.int .i64 yk, .string (strOf ys), .bool yn, .string yd, .int .i64 ye, .int .i64 (xf : Int), .int .i64 (xt : Int)] 30)) (.cells #[.int .i64 yk, .string (strOf ys), .bool yn, .string yd, .int .i64 ye, .int .i64 (xf : Int), .int .i64 (xt : Int)] 30)
              simpa using h
            have hbb : Below wr.heap.size wr ((wr.alloc (.cells #[.int .i64 yk, .string (strOf ys), .bool yn, .string yd, .int .i64 ye, .int .i64 (xf : Int), .int .i64 (xt : Int)] 30)).alloc (.cells #[.int .i64 yk, .string (strOf ys), .bool yn, .string yd, .int .i64 ye, .int .i64 (xf : Int), .int .i64 (xt : Int)] 30)) := ((Below.refl _ _).alloc (Nat.le_refl _) _).alloc (by simp) _
            have HX := Lib.hid hX
            have HY := Lib.hid hY
            have HBB := Lib.hid hbb
            clear hX hY hbb x0 x1 x2 x3 x4 x5 x6
            generalize (wr.alloc (.cells #[.int .i64 yk, .string (strOf ys), .bool yn, .string yd, .int .i64 ye, .int .i64 (xf : Int), .int .i64 (xt : Int)] 30)).alloc (.cells #[.int .i64 yk, .string (strOf ys), .bool yn, .string yd, .int .i64 ye, .int .i64 (xf : Int), .int .i64 (xt : Int)] 30) = W2 at HX HY HBB ⊢
            obtain ⟨y0, y1, y2, y3, y4, y5, y6⟩ := HYs.out W2 HBB.out
            have hS := set7 (v0 := .int .i64 yk) (v1 := .string (strOf ys)) (v2 := .bool yn) (v3 := .string yd) (v4 := .int .i64 ye) (v5 := .int .i64 (yf : Int)) (v6 := .int .i64 (yt : Int)) HY.out (show wr.heap.size ≤ wr.heap.size + 1 by omega) HBB.out
            have HS := Lib.hid hS
            have hX3 : ((((((( W2.setCell ⟨wr.heap.size + 1, 0, none⟩ (.int .i64 yk)).setCell ⟨wr.heap.size + 1, 1, none⟩ (.string (strOf ys))).setCell ⟨wr.heap.size + 1, 2, none⟩ (.bool yn)).setCell ⟨wr.heap.size + 1, 3, none⟩ (.string yd)).setCell ⟨wr.heap.size + 1, 4, none⟩ (.int .i64 ye)).setCell ⟨wr.heap.size + 1, 5, none⟩ (.int .i64 (yf : Int))).setCell ⟨wr.heap.size + 1, 6, none⟩ (.int .i64 (yt : Int))).heap[wr.heap.size]? = some (.cells #[.int .i64 yk, .string (strOf ys), .bool yn, .string yd, .int .i64 ye, .int .i64 (xf : Int), .int .i64 (xt : Int)] 30 (0, 0)) := by
              rw [Below.heap_setCell _ _ _ _ (by simp), Below.heap_setCell _ _ _ _ (by simp), Below.heap_setCell _ _ _ _ (by simp), Below.heap_setCell _ _ _ _ (by simp), Below.heap_setCell _ _ _ _ (by simp), Below.heap_setCell _ _ _ _ (by simp), Below.heap_setCell _ _ _ _ (by simp)]
              exact HX.out
            have HX3 := Lib.hid hX3
            obtain ⟨_, z0, z1, z2, z3, z4, z5, z6⟩ := row7 HY.out
            have q0 := (row7 HY.out).1
            obtain ⟨q0, q1, q2, q3, q4, q5, q6⟩ := q0
            clear hS hX3 HX HY HBB
            go_upto_region 19 with fail
            clear y0 y1 y2 y3 y4 y5 y6 z0 z1 z2 z3 z4 z5 z6 q0 q1 q2 q3 q4 q5 q6
            generalize (((((( W2.setCell ⟨wr.heap.size + 1, 0, none⟩ (.int .i64 yk)).setCell ⟨wr.heap.size + 1, 1, none⟩ (.string (strOf ys))).setCell ⟨wr.heap.size + 1, 2, none⟩ (.bool yn)).setCell ⟨wr.heap.size + 1, 3, none⟩ (.string yd)).setCell ⟨wr.heap.size + 1, 4, none⟩ (.int .i64 ye)).setCell ⟨wr.heap.size + 1, 5, none⟩ (.int .i64 (yf : Int))).setCell ⟨wr.heap.size + 1, 6, none⟩ (.int .i64 (yt : Int)) = W3 at HS HX3 ⊢
            obtain ⟨⟨a0, a1, a2, a3, a4, a5, a6⟩, _⟩ := row7 HX3.out
            obtain ⟨⟨b0, b1, b2, b3, b4, b5, b6⟩, _⟩ := row7 HS.out.1
            have hb3 := HS.out.2
            have HI3 := Lib.hid (And.intro (HI.out.1.below hb3) (And.intro (HI.out.2.1.below hb3) (And.intro (HI.out.2.2.1.below hb3) (HI.out.2.2.2.trans (hb3.mono HI.out.2.2.2.size)))))
            clear HX3 HS hb3 HI HYs
            have h4k : l3.length ≤ 4000 := by have := HL.out; omega
            go_wp2_with fail
            go_roundw
            case rel => exact ⟨k + 1, by omega, by go_num, HI3.out.1, HI3.out.2.1, HI3.out.2.2.1, HI3.out.2.2.2⟩
            case measure => simp [intOf]; omega
        · clear hi1 hi2 hi3
          have HBe := Lib.hid hib
          clear hib HI
          go_wp2_with fail
          go_ret
          exact ⟨rfl, HBe.out⟩
    · have de2 : (e2 != 0) = true := bne_iff_ne.2 he2
      clear HFa
      go_wp2_with fail
      go_ret
      exact ⟨rfl, HB4.out⟩
  · have de1 : (e1 != 0) = true := bne_iff_ne.2 he1
    have de1' : (e1 == 0) = false := beq_eq_false_iff_ne.2 he1
    have hl0 := HE1.out he1
    have hl0' : (((l1.length : Nat) : Int) == 0) = true := beq_iff_eq.2 (by omega)
    clear HFa hl0
    go_wp2_with fail
    go_ret
    exact ⟨rfl, HB4.out⟩
theorem joins_any (w : World) (a b : ByteArray) (sa : a.size ≤ 140737488351232) (sb : b.size ≤ 140737488351232) (hF : utf.Forms w) (mx : Int) (hm : w.cell? ⟨1, 0, none⟩ = some (.int .i64 mx)) :
    Calls Tryd.prog 5 #[.string a, .string b] w fun e w' => e = .returned (.bool true) ∧ Below w.heap.size w w' := by
  by_cases h : 1000 < a.size + b.size
  · exact joins_great w a b sa sb h hF mx hm
  · exact joins_small w a b h hF mx hm
end Go.Proofs.YtkifndecpbphbaaDoor.dk
