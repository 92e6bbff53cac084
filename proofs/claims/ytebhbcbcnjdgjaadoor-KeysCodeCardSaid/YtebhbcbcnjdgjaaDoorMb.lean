/- A text of bytes: the document's answer. -/
import Derived.Test.YtebhbcbcnjdgjaaDoorMa
namespace Go.Proofs.YtebhbcbcnjdgjaaDoor.dk
open Go.PlainAid Go.ChangeShapes Go.WideShapes Go.ChangeAt Go.RowKit

theorem txt_shift : ∀ (l A : List Int) (i : Nat), txt l A (i + 1) = (txt l A i).map fun r => (r.1, r.2 + 1) := by
  intro l A i
  induction l, A, i using txt.induct with
  | case1 A i => simp [txt]
  | case2 A i x => simp [txt]
  | case3 r A i => simp [txt]
  | case4 r A i h1 ih => rw [txt, if_pos rfl, if_neg (by omega), if_pos rfl, txt, if_pos rfl, if_neg (by omega), if_pos rfl]; exact ih
  | case5 d r A i h1 h2 => simp [txt, h1, h2]
  | case6 c d r A i h1 ih => rw [txt, if_neg h1, txt, if_neg h1]; exact ih
/-- What is held at the loop's head. -/
structure TJ (w : World) (p2 : Option Addr) (c2 : Nat) (A : List Int) (wr : World) : Prop where
  own : wr.ownsRow w.heap.size 5 1 (.slice p2 A.length c2) A.length (bcells A)
  b : Below w.heap.size w wr
theorem TJ.more {w wr wr' : World} {p2 p3 : Option Addr} {c2 c3 : Nat} {A A' : List Int} (h : TJ w p2 c2 A wr) (hg : Grew w.heap.size (.slice p2 A.length c2) wr p3 c3 A' wr') : TJ w p3 c3 A' wr' := ⟨hg.own, h.b.trans hg.b⟩
def XPost (w : World) (R : Option (List Int × Nat)) (e : Ending) (w' : World) : Prop :=
  Below w.heap.size w w' ∧ e = .returned (match R with | some (s, k) => .tuple #[.string (strOf s), .int .i64 (k : Int)] | none => .tuple #[.string ⟨#[]⟩, .int .i64 0])
set_option maxHeartbeats 2000000 in
set_option maxRecDepth 100000 in
theorem text_ref (w : World) (p : Option Addr) (n c : Nat) (l : List Int) (hR : Rd w p n l) (hn : n ≤ 100000) :
    Calls Tryd.prog 41 #[.slice p n c] w (XPost w (txt l [] 0)) := by
  have hlen := hR.1
  have hTJ : TJ w none 0 [] w := ⟨⟨rfl, .inl ⟨rfl, rfl⟩⟩, Below.refl _ _⟩
  have HTJ := Lib.hid hTJ
  have HR := Lib.hid hR
  have HN := Lib.hid hn
  obtain ⟨R, hRR⟩ : ∃ R, txt l [] 0 = R := ⟨_, rfl⟩
  rw [hRR]
  have HRR := Lib.hid hRR
  clear hR hRR hTJ hn
  go_enter Tryd.func41, Tryd.ntmps41
  go_wp2_with fail
  go_loopw [4, 5] (fun v4 v5 wr => ∃ (i : Nat) (A : List Int) (p2 : Option Addr) (c2 : Nat), v5 = .int .i64 i ∧ A.length ≤ i ∧ i ≤ n ∧ v4 = .slice p2 A.length c2 ∧ Hid (txt (l.drop i) A i = R ∧ TJ w p2 c2 A wr)) (fun _ v5 _ => n + 1 - (intOf v5).toNat)
  case atStart => exact ⟨0, [], none, 0, rfl, by simp, by omega, rfl, Lib.hid ⟨HRR.out, HTJ.out⟩⟩
  case round =>
    obtain ⟨i, A, p2, c2, rfl, hAi, hi, rfl, HI⟩ := hrel
    clear HTJ HRR
    have hnn := HN.out
    by_cases hin : i + 1 < n
    · have di : decide ((i : Int) + 1 < (n : Int)) = true := decide_eq_true (by omega)
      have din : decide (i + 1 < n) = true := decide_eq_true hin
      have hrd := HR.out.below HI.out.2.b
      obtain ⟨g, off, rfl, _⟩ := hrd.form (by omega)
      have a0 := hrd.cell i (by omega)
      have a1 := hrd.cell (i + 1) hin
      have hi1 : i < n := by omega
      by_cases hc : l.getD i 0 = 0
      · rw [hc] at a0
        by_cases hd : l.getD (i + 1) 0 = 0
        · have HE := Lib.hid ((txt_stop l A i (by omega) hc hd).symm.trans HI.out.1)
          obtain rfl := HE.out
          have V := conv_rd (c := c2) (owned_rd HI.out.2.own)
          rw [hd] at a1
          clear hrd HE
          go_wp2_with fail
          go_ret2
          exact ⟨HI.out.2.b, by dsimp only; rw [show ((i + 2 : Nat) : Int) = (i : Int) + 2 by omega]; rfl⟩
        · by_cases hd2 : l.getD (i + 1) 0 = 255
          · obtain ⟨p3, c3, w3, hru, hgr⟩ := append_one 0 HI.out.2.own (by omega) HI.out.2.b.size
            have HN2 := Lib.hid (HI.out.2.more hgr)
            have HE := Lib.hid ((txt_zero l A i (by omega) hc hd2).symm.trans HI.out.1)
            have HRu := Lib.hid hru
            clear hru hgr hrd HI
            have hA2 : (A ++ [0]).length = A.length + 1 := by simp
            generalize A ++ [0] = A2 at HRu HN2 HE hA2
            rw [hd2] at a1
            have HA2 := Lib.hid hA2
            generalize hn2 : A2.length = n2 at HRu hA2
            have HN2n := Lib.hid hn2
            clear hA2 hn2 hc hd hd2
            go_wp2_with (at_builtin; refine wpList_append_run rfl _ _ _ rfl _ _ _ _ rfl rfl HRu.out ?_; clear HRu)
            exact ⟨⟨i + 2, A2, p3, c3, by go_num, by have := HA2.out; omega, by omega, by rw [HN2n.out], Lib.hid ⟨HE.out, HN2.out⟩⟩, by show n + 1 - ((i : Int) + 1 + 1).toNat < n + 1 - (i : Int).toNat; omega⟩
          · have e : R = none := by rw [← HI.out.1]; exact txt_none l A i (by omega) hc hd hd2
            subst e
            have f1 : (l.getD (i + 1) 0 == 0) = false := beq_eq_false_iff_ne.2 hd
            have f2 : (l.getD (i + 1) 0 == 255) = false := beq_eq_false_iff_ne.2 hd2
            have f3 : (l.getD (i + 1) 0 != 255) = true := bne_iff_ne.2 hd2
            generalize l.getD (i + 1) 0 = x at a1 f1 f2 f3 hd hd2
            clear hrd
            have HB := Lib.hid HI.out.2.b
            clear HI
            go_wp2_with fail
            go_ret2
            exact ⟨HB.out, rfl⟩
      · obtain ⟨p3, c3, w3, hru, hgr⟩ := append_one (l.getD i 0) HI.out.2.own (by omega) HI.out.2.b.size
        have HN2 := Lib.hid (HI.out.2.more hgr)
        have HE := Lib.hid ((txt_plain l A i (by omega) hc).symm.trans HI.out.1)
        have HRu := Lib.hid hru
        clear hru hgr hrd HI a1
        have hA2 : (A ++ [l.getD i 0]).length = A.length + 1 := by simp
        generalize A ++ [l.getD i 0] = A2 at HRu HN2 HE hA2
        have f1 : (l.getD i 0 == 0) = false := beq_eq_false_iff_ne.2 hc
        have f2 : (l.getD i 0 != 0) = true := bne_iff_ne.2 hc
        generalize l.getD i 0 = x at a0 f1 f2 hc HRu
        have HA2 := Lib.hid hA2
        generalize hn2 : A2.length = n2 at HRu hA2
        have HN2n := Lib.hid hn2
        clear hA2 hn2 hc
        go_wp2_with (at_builtin; refine wpList_append_run rfl _ _ _ rfl _ _ _ _ rfl rfl HRu.out ?_; clear HRu)
        exact ⟨⟨i + 1, A2, p3, c3, by go_num, by have := HA2.out; omega, by omega, by rw [HN2n.out], Lib.hid ⟨HE.out, HN2.out⟩⟩, by show n + 1 - ((i : Int) + 1).toNat < n + 1 - (i : Int).toNat; omega⟩
    · have di : decide ((i : Int) + 1 < (n : Int)) = false := decide_eq_false (by omega)
      have din : decide (i + 1 < n) = false := decide_eq_false hin
      have e : R = none := by rw [← HI.out.1]; exact txt_end l A i (by omega)
      subst e
      have HB := Lib.hid HI.out.2.b
      clear HI
      go_wp2_with fail
      go_ret2
      exact ⟨HB.out, rfl⟩
end Go.Proofs.YtebhbcbcnjdgjaaDoor.dk
/- A number of bytes: the document's answer. -/
namespace Go.Proofs.YtebhbcbcnjdgjaaDoor.dk
open Go.PlainAid Go.ChangeShapes Go.WideShapes Go.ChangeAt Go.RowKit

theorem zat_app_none : ∀ (A B : List Int), zat A = none → zat (A ++ B) = (zat B).map (· + A.length)
  | [], B, _ => by cases h : zat B <;> simp [h]
  | c :: A, B, h => by
    unfold zat at h
    split at h
    · simp at h
    · rename_i hc
      have hA : zat A = none := by cases hz : zat A with | none => rfl | some k => rw [hz] at h; simp at h
      rw [List.cons_append, zat, if_neg hc, zat_app_none A B hA]
      cases zat B with
      | none => rfl
      | some k => simp; omega
theorem zat_app_some : ∀ (A B : List Int) (k : Nat), zat A = some k → zat (A ++ B) = some k
  | [], B, k, h => by simp [zat] at h
  | c :: A, B, k, h => by
    unfold zat at h
    rw [List.cons_append, zat]
    split at h
    · rename_i hc
      rw [if_pos hc]
      exact h
    · rename_i hc
      rw [if_neg hc]
      cases hz : zat A with
      | none => rw [hz] at h; simp at h
      | some j => rw [hz] at h; rw [zat_app_some A B j hz]; exact h
theorem zat_ne : ∀ (l : List Int) (k : Nat), zat l = some k → ∀ i, i < k → l.getD i 0 ≠ 0
  | [], k, h, _, _ => by simp [zat] at h
  | c :: l, k, h, i, hi => by
    unfold zat at h
    split at h
    · simp at h; omega
    · rename_i hc
      cases hz : zat l with
      | none => rw [hz] at h; simp at h
      | some j =>
        rw [hz] at h
        simp at h
        cases i with
        | zero => exact hc
        | succ i => exact zat_ne l j hz i (by omega)
theorem take_drop_snoc (S : List Int) (i : Nat) (h : i < S.length) (h2 : 2 ≤ i) : (S.take (i + 1)).drop 2 = (S.take i).drop 2 ++ [S.getD i 0] := by
  rw [List.take_succ_eq_append_getElem h, List.drop_append_of_le_length (by rw [List.length_take]; omega), List.getD_eq_getElem?_getD, List.getElem?_eq_getElem h]
  rfl
theorem take_drop_split (S : List Int) (i : Nat) (h2 : 2 ≤ i) (h : i ≤ S.length) : S.drop 2 = (S.take i).drop 2 ++ S.drop i := by
  conv => lhs; rw [← List.take_append_drop i S]
  rw [List.drop_append_of_le_length (by rw [List.length_take]; omega)]
/-- What is answered of a number's bytes. -/
def MPost (w : World) (R : Option (Bool × List Int × Int × Nat)) (e : Ending) (w' : World) : Prop :=
  Below w.heap.size w w' ∧ e = .returned (match R with | some (neg, dg, ex, k) => .tuple #[.agg #[.bool neg, .string (strOf dg), .int .i64 ex], .int .i64 ((k : Int) - 1)] | none => .tuple #[.agg #[.bool false, .string ⟨#[]⟩, .int .i64 0], .int .i64 0])
structure NJ (w : World) (p2 : Option Addr) (c2 : Nat) (A : List Int) (wr : World) : Prop where
  own : wr.ownsRow w.heap.size 5 1 (.slice p2 A.length c2) A.length (bcells A)
  st : wr.heap[w.heap.size]? = some (.cells #[.bool false, .string ⟨#[]⟩, .int .i64 0] 25 (0, 0))
  b : Below w.heap.size w wr
theorem NJ.more {w wr wr' : World} {p2 p3 : Option Addr} {c2 c3 : Nat} {A A' : List Int} (h : NJ w p2 c2 A wr) (hg : Grew w.heap.size (.slice p2 A.length c2) wr p3 c3 A' wr') : NJ w p3 c3 A' wr' := by
  have hst : wr'.heap[w.heap.size]? = wr.heap[w.heap.size]? := hg.fr _ (Array.getElem?_eq_some_iff.1 h.st).1 (fun e => by
    obtain ⟨cur, hc⟩ := owned_type h.own e
    exact row_ne hc h.st (by decide) rfl)
  exact ⟨hg.own, hst.trans h.st, h.b.trans hg.b⟩
theorem fsz_short {neg : Bool} {S : List Int} (h : zat (S.drop 2) = none) : fsz neg S = none := by
  unfold fsz
  split
  · rfl
  · rw [h]
theorem fsz_none {neg : Bool} {S : List Int} (h : zat (S.drop 2) = some 0) : fsz neg S = none := by
  unfold fsz
  split
  · rfl
  · rw [h]; simp
theorem set3 {W W0 : World} {A B : Nat} {t : TypeId} {a0 a1 a2 v0 v1 v2 : Value} (h : W.heap[A]? = some (.cells #[a0, a1, a2] t (0, 0))) (hB : B ≤ A) (hb : Below B W0 W) :
    (((W.setCell ⟨A, 0, none⟩ v0).setCell ⟨A, 1, none⟩ v1).setCell ⟨A, 2, none⟩ v2).heap[A]? = some (.cells #[v0, v1, v2] t (0, 0)) ∧ Below B W0 (((W.setCell ⟨A, 0, none⟩ v0).setCell ⟨A, 1, none⟩ v1).setCell ⟨A, 2, none⟩ v2) := by
  have h0 := stepSet 0 v0 hB ⟨h, hb⟩
  have h1 := stepSet 1 v1 hB h0
  have h2 := stepSet 2 v2 hB h1
  simpa using h2
theorem row3 {V : World} {A : Nat} {t : TypeId} {a0 a1 a2 : Value} (h : V.heap[A]? = some (.cells #[a0, a1, a2] t (0, 0))) : (V.cell? ⟨A, 0, none⟩ = some a0 ∧ V.cell? ⟨A, 1, none⟩ = some a1 ∧ V.cell? ⟨A, 2, none⟩ = some a2) ∧ (V.frozen? ⟨A, 0, none⟩ = false ∧ V.frozen? ⟨A, 1, none⟩ = false ∧ V.frozen? ⟨A, 2, none⟩ = false) := by
  have hc := fun j => cell_of_row V A j _ _ _ h
  refine ⟨⟨hc 0, hc 1, hc 2⟩, ?_, ?_, ?_⟩ <;> exact frozen_of_row _ _ _ _ _ h
/-- The number while its digits are read. -/
structure NK (w : World) (Bd : Nat) (neg : Bool) (D : List Int) (ex : Int) (p2 : Option Addr) (c2 : Nat) (A : List Int) (W : World) : Prop where
  own : W.ownsRow w.heap.size 5 1 (.slice p2 A.length c2) A.length (bcells A)
  st : W.heap[w.heap.size]? = some (.cells #[.bool false, .string ⟨#[]⟩, .int .i64 0] 25 (0, 0))
  d : W.heap[Bd]? = some (.cells #[.bool neg, .string (strOf D), .int .i64 ex] 25 (0, 0))
  lt : w.heap.size < Bd
  b : Below w.heap.size w W
theorem NK.put {w W : World} {Bd : Nat} {neg : Bool} {D : List Int} {ex : Int} {p2 : Option Addr} {c2 : Nat} {A : List Int} (h : NK w Bd neg D ex p2 c2 A W) (i : Nat) (v : Value) (D' : List Int) (ex' : Int)
    (hd : #[Value.bool neg, .string (strOf D), .int .i64 ex].setIfInBounds i v = #[Value.bool neg, .string (strOf D'), .int .i64 ex']) : NK w Bd neg D' ex' p2 c2 A (W.setCell ⟨Bd, i, none⟩ v) := by
  have hk : ∀ k, k ≠ Bd → (W.setCell ⟨Bd, i, none⟩ v).heap[k]? = W.heap[k]? := fun k hk => Below.heap_setCell _ _ _ k hk
  have hlt := h.lt
  refine ⟨owned_keeps h.own fun g hg => hk g (fun e => ?_), (hk _ (by omega)).trans h.st, ?_, h.lt, h.b.setCell (p := ⟨Bd, i, none⟩) (Nat.le_of_lt h.lt) _⟩
  · obtain ⟨cur, hc⟩ := owned_type h.own hg
    exact row_ne hc h.d (by decide) e
  · rw [setCell_eq_setRow W Bd i _ _ _ v h.d, ← hd]
    exact setRow_heap W Bd _ _ _ _ h.d
theorem digit_str (x : Int) (h1 : 1 ≤ x) (h2 : x ≤ 10) : (⟨#[48, 49, 50, 51, 52, 53, 54, 55, 56, 57]⟩ : ByteArray).extract (x.toNat - 1) x.toNat = strOf [IntKind.u8.wrap (x + 47)] := by
  have : x = 1 ∨ x = 2 ∨ x = 3 ∨ x = 4 ∨ x = 5 ∨ x = 6 ∨ x = 7 ∨ x = 8 ∨ x = 9 ∨ x = 10 := by omega
  rcases this with rfl | rfl | rfl | rfl | rfl | rfl | rfl | rfl | rfl | rfl <;> decide +kernel
def digs (S : List Int) (j : Nat) : List Int := ((S.drop 2).take j).map fun c => IntKind.u8.wrap (c + 47)
theorem digs_succ (S : List Int) (j : Nat) (h : 2 + j < S.length) : digs S (j + 1) = digs S j ++ [IntKind.u8.wrap (S.getD (2 + j) 0 + 47)] := by
  unfold digs
  rw [List.take_succ_eq_append_getElem (by rw [List.length_drop]; omega), List.map_append, List.getElem_drop, List.getD_eq_getElem?_getD, List.getElem?_eq_getElem h]
  rfl
theorem flipb_at (l : List Int) (i : Nat) (h : i < l.length) : (flipb l).getD i 0 = 255 - l.getD i 0 := by
  unfold flipb
  rw [List.getD_eq_getElem?_getD, List.getElem?_map, List.getElem?_eq_getElem h, List.getD_eq_getElem?_getD, List.getElem?_eq_getElem h]
  rfl
theorem NK.drew {w W : World} {Bd : Nat} {neg : Bool} {D : List Int} {ex : Int} {p2 : Option Addr} {c2 : Nat} {A : List Int} (h : NK w Bd neg D ex p2 c2 A W) : NK w Bd neg D ex p2 c2 A W.drew := ⟨h.own, h.st, h.d, h.lt, h.b.drew⟩
theorem fsz_val (neg : Bool) {S : List Int} {k : Nat} (h : zat (S.drop 2) = some k) (hk : k ≠ 0) (hl : 2 ≤ S.length) :
    fsz neg S = if dsane neg (digs S k) (S.getD 0 0 * 256 + S.getD 1 0 - 1000 - k) = true then some (neg, digs S k, S.getD 0 0 * 256 + S.getD 1 0 - 1000 - k, k + 4) else none := by
  unfold fsz
  rw [if_neg (by omega), h]
  dsimp only
  rw [if_neg hk]
  rfl
theorem fsz_bad (neg : Bool) {S : List Int} {k j : Nat} (h : zat (S.drop 2) = some k) (hj : j < k) (hl : 2 + k ≤ S.length) (hx : 10 < S.getD (j + 2) 0) (hx2 : S.getD (j + 2) 0 ≤ 255) : fsz neg S = none := by
  rw [fsz_val neg h (by omega) (by omega)]
  have hd : (digs S k).length = k := by rw [digs, List.length_map, List.length_take, List.length_drop]; omega
  have hg : (digs S k).getD j 0 = IntKind.u8.wrap (S.getD (j + 2) 0 + 47) := by
    rw [List.getD_eq_getElem?_getD, digs, List.getElem?_map, List.getElem?_take, if_pos hj, List.getElem?_drop, List.getElem?_eq_getElem (by omega), List.getD_eq_getElem?_getD, Nat.add_comm j 2, List.getElem?_eq_getElem (by omega)]
    rfl
  rw [if_neg]
  rw [dsane_not neg (digs S k) _ (i := j) (by rw [hd]; exact hj) ?_]
  · decide
  · rw [hg, IntKind.wrap_u8]
    unfold isDig
    by_cases h2 : S.getD (j + 2) 0 + 47 ≤ 255
    · rw [decide_eq_false (p := (S.getD (j + 2) 0 + 47) % 256 ≤ 57) (by omega), Bool.and_false]
    · rw [decide_eq_false (p := 48 ≤ (S.getD (j + 2) 0 + 47) % 256) (by omega), Bool.false_and]
end Go.Proofs.YtebhbcbcnjdgjaaDoor.dk
