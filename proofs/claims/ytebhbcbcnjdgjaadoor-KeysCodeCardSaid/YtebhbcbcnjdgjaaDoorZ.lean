/- A part of text, decoded. -/
import Derived.Test.YtebhbcbcnjdgjaaDoorW
namespace Go.Proofs.YtebhbcbcnjdgjaaDoor.dk
open Go.PlainAid Go.ChangeShapes Go.WideShapes Go.ChangeAt Go.RowKit

theorem results_row_tmp {P : Program} {fn : Func} {p u : Tmp} {ty : TypeId} (h : fn.results = #[.cell p ty, .tmp u]) (tmps : Array Value) (w : World) (g : Nat) (t : TypeId) (cs : Array Value) (fr : Nat × Nat) (d : TypeDesc)
    (hp : tmps.getD p undef = .pointer (some ⟨g, 0, none⟩)) (hg : w.heap[g]? = some (.cells cs t fr))
    (hu : P.underlying ty = some d) (hd : (match d with | .struct _ | .array _ _ => true | _ => false) = true) (hi : (P.info? ty).map (·.size) = some cs.size) :
    (results fn tmps).run P w = .ok (.tuple #[.agg cs, tmps.getD u undef]) w := by
  rw [results_cell_tmp h, hp]
  simp [asAddr, run_loadVar_row w g t ty cs fr d hg hu hd hi, Result.andThen]
theorem stepSet {W W0 : World} {A B : Nat} {t : TypeId} {cs : Array Value} (j : Nat) (v : Value) (hB : B ≤ A) (h : W.heap[A]? = some (.cells cs t (0, 0)) ∧ Below B W0 W) : (W.setCell ⟨A, j, none⟩ v).heap[A]? = some (.cells (cs.setIfInBounds j v) t (0, 0)) ∧ Below B W0 (W.setCell ⟨A, j, none⟩ v) := by
  rw [setCell_eq_setRow W A j _ _ _ v h.1]
  exact ⟨setRow_heap W A _ _ _ _ h.1, below_setRow h.2 hB _⟩
theorem set7 {W W0 : World} {A B : Nat} {t : TypeId} {a0 a1 a2 a3 a4 a5 a6 v0 v1 v2 v3 v4 v5 v6 : Value} (h : W.heap[A]? = some (.cells #[a0, a1, a2, a3, a4, a5, a6] t (0, 0))) (hB : B ≤ A) (hb : Below B W0 W) :
    (((((((W.setCell ⟨A, 0, none⟩ v0).setCell ⟨A, 1, none⟩ v1).setCell ⟨A, 2, none⟩ v2).setCell ⟨A, 3, none⟩ v3).setCell ⟨A, 4, none⟩ v4).setCell ⟨A, 5, none⟩ v5).setCell ⟨A, 6, none⟩ v6).heap[A]? = some (.cells #[v0, v1, v2, v3, v4, v5, v6] t (0, 0)) ∧ Below B W0 (((((((W.setCell ⟨A, 0, none⟩ v0).setCell ⟨A, 1, none⟩ v1).setCell ⟨A, 2, none⟩ v2).setCell ⟨A, 3, none⟩ v3).setCell ⟨A, 4, none⟩ v4).setCell ⟨A, 5, none⟩ v5).setCell ⟨A, 6, none⟩ v6) := by
  have h0 := stepSet 0 v0 hB ⟨h, hb⟩
  have h1 := stepSet 1 v1 hB h0
  have h2 := stepSet 2 v2 hB h1
  have h3 := stepSet 3 v3 hB h2
  have h4 := stepSet 4 v4 hB h3
  have h5 := stepSet 5 v5 hB h4
  have h6 := stepSet 6 v6 hB h5
  simpa using h6
theorem row7 {V : World} {A : Nat} {t : TypeId} {a0 a1 a2 a3 a4 a5 a6 : Value} (h : V.heap[A]? = some (.cells #[a0, a1, a2, a3, a4, a5, a6] t (0, 0))) : (V.cell? ⟨A, 0, none⟩ = some a0 ∧ V.cell? ⟨A, 1, none⟩ = some a1 ∧ V.cell? ⟨A, 2, none⟩ = some a2 ∧ V.cell? ⟨A, 3, none⟩ = some a3 ∧ V.cell? ⟨A, 4, none⟩ = some a4 ∧ V.cell? ⟨A, 5, none⟩ = some a5 ∧ V.cell? ⟨A, 6, none⟩ = some a6) ∧ (V.frozen? ⟨A, 0, none⟩ = false ∧ V.frozen? ⟨A, 1, none⟩ = false ∧ V.frozen? ⟨A, 2, none⟩ = false ∧ V.frozen? ⟨A, 3, none⟩ = false ∧ V.frozen? ⟨A, 4, none⟩ = false ∧ V.frozen? ⟨A, 5, none⟩ = false ∧ V.frozen? ⟨A, 6, none⟩ = false) := by
  have hc := fun j => cell_of_row V A j _ _ _ h
  refine ⟨⟨hc 0, hc 1, hc 2, hc 3, hc 4, hc 5, hc 6⟩, ?_, ?_, ?_, ?_, ?_, ?_, ?_⟩ <;> exact frozen_of_row _ _ _ _ _ h
/-- What a text's bytes tell: the text and how far it goes. -/
def txt : List Int → List Int → Nat → Option (List Int × Nat)
  | [], _, _ => none
  | [_], _, _ => none
  | c :: d :: r, A, i => if c = 0 then (if d = 0 then some (A, i + 2) else if d = 255 then txt r (A ++ [0]) (i + 2) else none) else txt (d :: r) (A ++ [c]) (i + 1)
theorem txt_end (l A : List Int) (i : Nat) (h : l.length ≤ i + 1) : txt (l.drop i) A i = none := by
  have : (l.drop i).length ≤ 1 := by rw [List.length_drop]; omega
  match hd : l.drop i, this with
  | [], _ => rfl
  | [_], _ => rfl
  | _ :: _ :: _, h => simp at h
theorem drop_two (l : List Int) (i : Nat) (h : i + 1 < l.length) : l.drop i = l.getD i 0 :: l.getD (i + 1) 0 :: l.drop (i + 2) := by
  rw [List.drop_eq_getElem_cons (by omega), List.drop_eq_getElem_cons h, List.getD_eq_getElem?_getD, List.getD_eq_getElem?_getD, List.getElem?_eq_getElem (by omega), List.getElem?_eq_getElem h]
  rfl
theorem txt_plain (l A : List Int) (i : Nat) (h : i < l.length) (hc : l.getD i 0 ≠ 0) : txt (l.drop i) A i = txt (l.drop (i + 1)) (A ++ [l.getD i 0]) (i + 1) := by
  by_cases h1 : i + 1 < l.length
  · have e : l.drop (i + 1) = l.getD (i + 1) 0 :: l.drop (i + 2) := by
      rw [List.drop_eq_getElem_cons h1, List.getD_eq_getElem?_getD, List.getElem?_eq_getElem h1]
      rfl
    rw [drop_two l i h1, e, txt, if_neg hc]
  · rw [txt_end l A i (by omega), txt_end l _ (i + 1) (by omega)]
theorem txt_stop (l A : List Int) (i : Nat) (h : i + 1 < l.length) (hc : l.getD i 0 = 0) (hd : l.getD (i + 1) 0 = 0) : txt (l.drop i) A i = some (A, i + 2) := by
  rw [drop_two l i h, txt, if_pos hc, if_pos hd]
theorem txt_zero (l A : List Int) (i : Nat) (h : i + 1 < l.length) (hc : l.getD i 0 = 0) (hd : l.getD (i + 1) 0 = 255) : txt (l.drop i) A i = txt (l.drop (i + 2)) (A ++ [0]) (i + 2) := by
  rw [drop_two l i h, txt, if_pos hc, if_neg (by omega), if_pos hd]
theorem txt_none (l A : List Int) (i : Nat) (h : i + 1 < l.length) (hc : l.getD i 0 = 0) (hd : l.getD (i + 1) 0 ≠ 0) (hd2 : l.getD (i + 1) 0 ≠ 255) : txt (l.drop i) A i = none := by
  rw [drop_two l i h, txt, if_pos hc, if_neg hd, if_neg hd2]
def pzero : Array Value := #[.int .i64 0, .bool false, .bool false, .string ⟨#[]⟩, .int .i64 0, .string ⟨#[]⟩, .int .i64 0]
/-- What is answered of a text's bytes. -/
def TPost (w : World) (R : Option (List Int × Nat)) (e : Ending) (w' : World) : Prop :=
  Below w.heap.size w w' ∧ e = .returned (match R with | some (s, k) => .tuple #[.agg #[.int .i64 3, .bool false, .bool false, .string ⟨#[]⟩, .int .i64 0, .string (strOf s), .int .i64 0], .int .i64 (k : Int)] | none => .tuple #[.agg pzero, .int .i64 0])
structure TI (w : World) (p2 : Option Addr) (c2 : Nat) (A : List Int) (wr : World) : Prop where
  own : wr.ownsRow (w.heap.size + 1) 5 1 (.slice p2 A.length c2) A.length (bcells A)
  row : wr.heap[w.heap.size]? = some (.cells #[.int .i64 0, .bool false, .bool false, .string ⟨#[]⟩, .int .i64 0, .string ⟨#[]⟩, .int .i64 0] 43 (0, 0))
  b : Below w.heap.size w wr
theorem TI.more {w wr wr' : World} {p2 p3 : Option Addr} {c2 c3 : Nat} {A A' : List Int} (h : TI w p2 c2 A wr) (hg : Grew (w.heap.size + 1) (.slice p2 A.length c2) wr p3 c3 A' wr') : TI w p3 c3 A' wr' :=
  ⟨hg.own, (hg.b.block _ (Nat.lt_succ_self _)).trans h.row, h.b.trans (hg.b.mono (Nat.le_succ _))⟩
set_option maxHeartbeats 8000000 in
set_option maxRecDepth 100000 in
theorem firstText_any (w : World) (p : Option Addr) (n c : Nat) (l : List Int) (hR : Rd w p n l) (hn : n ≤ 100000) :
    Calls Tryd.prog 50 #[.slice p n c] w (TPost w (txt (l.drop 1) [] 1)) := by
  have hlen := hR.1
  have hTI : TI w none 0 [] (w.alloc (.cells pzero 43)) := ⟨⟨rfl, .inl ⟨rfl, rfl⟩⟩, heap_alloc_new _ _, (Below.refl _ _).alloc (Nat.le_refl _) _⟩
  have HTI := Lib.hid hTI
  have HR := Lib.hid hR
  have HN := Lib.hid hn
  obtain ⟨R, hRR⟩ : ∃ R, txt (l.drop 1) [] 1 = R := ⟨_, rfl⟩
  rw [hRR]
  have HRR := Lib.hid hRR
  unfold pzero at HTI
  clear hR hRR hTI hn
  go_enter Tryd.func50, Tryd.ntmps50
  go_wp2_with fail
  go_loopw [4, 5] (fun v4 v5 wr => ∃ (i : Nat) (A : List Int) (p2 : Option Addr) (c2 : Nat), v5 = .int .i64 i ∧ A.length ≤ i ∧ i ≤ n + 1 ∧ v4 = .slice p2 A.length c2 ∧ Hid (txt (l.drop i) A i = R ∧ TI w p2 c2 A wr)) (fun _ v5 _ => n + 1 - (intOf v5).toNat)
  case atStart => exact ⟨1, [], none, 0, rfl, by simp, by omega, rfl, Lib.hid ⟨HRR.out, HTI.out⟩⟩
  case round =>
    obtain ⟨i, A, p2, c2, rfl, hAi, hi, rfl, HI⟩ := hrel
    clear HTI HRR
    have hnn := HN.out
    by_cases hin : i < n
    · have di : decide ((i : Int) < (n : Int)) = true := decide_eq_true (by omega)
      have din : decide (i < n) = true := decide_eq_true hin
      have hrd := HR.out.below HI.out.2.b
      obtain ⟨g, off, rfl, _⟩ := hrd.form (by omega)
      have a0 := hrd.cell i hin
      by_cases hc : l.getD i 0 = 0
      · by_cases hin2 : i + 1 < n
        · have a1 := hrd.cell (i + 1) hin2
          have di2 : ((i : Int) + 1 == (n : Int)) = false := beq_eq_false_iff_ne.2 (by omega)
          by_cases hd : l.getD (i + 1) 0 = 0
          · have HE := Lib.hid ((txt_stop l A i (by omega) hc hd).symm.trans HI.out.1)
            obtain rfl := HE.out
            have V := conv_rd (c := c2) (owned_rd HI.out.2.own)
            rw [hc] at a0
            rw [hd] at a1
            obtain ⟨⟨z0, z1, z2, z3, z4, z5, z6⟩, y0, y1, y2, y3, y4, y5, y6⟩ := row7 HI.out.2.row
            have hS := set7 (v0 := .int .i64 3) (v1 := .bool false) (v2 := .bool false) (v3 := .string ⟨#[]⟩) (v4 := .int .i64 0) (v5 := .string (strOf A)) (v6 := .int .i64 0) HI.out.2.row (Nat.le_refl _) HI.out.2.b
            have HS := Lib.hid hS
            clear hS HI hrd HE
            go_wp2_with fail
            refine bodyPost_ret (results_row_tmp rfl _ _ w.heap.size _ _ _ _ rfl HS.out.1 Tryd.underlying43 rfl (by kernel_rfl)) rfl ⟨HS.out.2, ?_⟩
            have e2 : ((i + 2 : Nat) : Int) = (i : Int) + 1 + 1 := by omega
            dsimp only
            rw [e2]
            rfl
          · by_cases hd2 : l.getD (i + 1) 0 = 255
            · obtain ⟨p3, c3, w3, hru, hgr⟩ := append_one 0 HI.out.2.own (by omega) (Nat.succ_le_of_lt (Array.getElem?_eq_some_iff.1 HI.out.2.row).1)
              have HN2 := Lib.hid (HI.out.2.more hgr)
              have HE := Lib.hid ((txt_zero l A i (by omega) hc hd2).symm.trans HI.out.1)
              have HRu := Lib.hid hru
              clear hru hgr hrd HI
              have hA2 : (A ++ [0]).length = A.length + 1 := by simp
              generalize A ++ [0] = A2 at HRu HN2 HE hA2
              rw [hc] at a0
              rw [hd2] at a1
              have HA2 := Lib.hid hA2
              generalize hn2 : A2.length = n2 at HRu hA2
              have HN2n := Lib.hid hn2
              clear hA2 hn2 hc hd hd2
              go_wp2_with (at_builtin; refine wpList_append_run rfl _ _ _ rfl _ _ _ _ rfl rfl HRu.out ?_; clear HRu)
              exact ⟨⟨i + 2, A2, p3, c3, by go_num, by have := HA2.out; omega, by omega, by rw [HN2n.out], Lib.hid ⟨HE.out, HN2.out⟩⟩, by show n + 1 - ((i : Int) + 1 + 1).toNat < n + 1 - (i : Int).toNat; omega⟩
            · have e : R = none := by rw [← HI.out.1]; exact txt_none l A i (by omega) hc hd hd2
              subst e
              rw [hc] at a0
              have f1 : (l.getD (i + 1) 0 == 0) = false := beq_eq_false_iff_ne.2 hd
              have f2 : (l.getD (i + 1) 0 == 255) = false := beq_eq_false_iff_ne.2 hd2
              generalize l.getD (i + 1) 0 = x at a1 f1 f2 hd hd2
              clear hrd
              have HB := Lib.hid HI.out.2.b
              obtain ⟨⟨z0, z1, z2, z3, z4, z5, z6⟩, y0, y1, y2, y3, y4, y5, y6⟩ := row7 HI.out.2.row
              have hS := set7 (v0 := .int .i64 0) (v1 := .bool false) (v2 := .bool false) (v3 := .string ⟨#[]⟩) (v4 := .int .i64 0) (v5 := .string ⟨#[]⟩) (v6 := .int .i64 0) HI.out.2.row (Nat.le_refl _) HI.out.2.b
              have HS := Lib.hid hS
              clear hS HI
              go_wp2_with fail
              refine bodyPost_ret (results_row_tmp rfl _ _ w.heap.size _ _ _ _ rfl HS.out.1 Tryd.underlying43 rfl (by kernel_rfl)) rfl ⟨HS.out.2, rfl⟩
        · have di2 : ((i : Int) + 1 == (n : Int)) = true := beq_iff_eq.2 (by omega)
          have e : R = none := by rw [← HI.out.1]; exact txt_end l A i (by omega)
          subst e
          rw [hc] at a0
          clear hrd
          have HB := Lib.hid HI.out.2.b
          obtain ⟨⟨z0, z1, z2, z3, z4, z5, z6⟩, y0, y1, y2, y3, y4, y5, y6⟩ := row7 HI.out.2.row
          have hS := set7 (v0 := .int .i64 0) (v1 := .bool false) (v2 := .bool false) (v3 := .string ⟨#[]⟩) (v4 := .int .i64 0) (v5 := .string ⟨#[]⟩) (v6 := .int .i64 0) HI.out.2.row (Nat.le_refl _) HI.out.2.b
          have HS := Lib.hid hS
          clear hS HI
          go_wp2_with fail
          refine bodyPost_ret (results_row_tmp rfl _ _ w.heap.size _ _ _ _ rfl HS.out.1 Tryd.underlying43 rfl (by kernel_rfl)) rfl ⟨HS.out.2, rfl⟩
      · have f0 : (l.getD i 0 != 0) = true := by simpa using hc
        obtain ⟨p3, c3, w3, hru, hgr⟩ := append_one (l.getD i 0) HI.out.2.own (by omega) (Nat.succ_le_of_lt (Array.getElem?_eq_some_iff.1 HI.out.2.row).1)
        have HN2 := Lib.hid (HI.out.2.more hgr)
        have hstep := txt_plain l A i (by omega) hc
        have HE := Lib.hid (hstep.symm.trans HI.out.1)
        have HRu := Lib.hid hru
        clear hru hgr hrd hstep HI
        have hA2 : (A ++ [l.getD i 0]).length = A.length + 1 := by simp
        generalize A ++ [l.getD i 0] = A2 at HRu HN2 HE hA2
        generalize l.getD i 0 = x at a0 f0 HRu hc
        have HA2 := Lib.hid hA2
        generalize hn2 : A2.length = n2 at HRu hA2
        have HN2n := Lib.hid hn2
        clear hA2 hn2
        go_wp2_with (at_builtin; refine wpList_append_run rfl _ _ _ rfl _ _ _ _ rfl rfl HRu.out ?_; clear HRu)
        exact ⟨⟨i + 1, A2, p3, c3, by go_num, by have := HA2.out; omega, by omega, by rw [HN2n.out], Lib.hid ⟨HE.out, HN2.out⟩⟩, by show n + 1 - ((i : Int) + 1).toNat < n + 1 - (i : Int).toNat; omega⟩
    · have di : decide ((i : Int) < (n : Int)) = false := decide_eq_false (by omega)
      have din : decide (i < n) = false := decide_eq_false hin
      have e : R = none := by rw [← HI.out.1]; exact txt_end l A i (by omega)
      subst e
      have HB := Lib.hid HI.out.2.b
      obtain ⟨⟨z0, z1, z2, z3, z4, z5, z6⟩, y0, y1, y2, y3, y4, y5, y6⟩ := row7 HI.out.2.row
      have hS := set7 (v0 := .int .i64 0) (v1 := .bool false) (v2 := .bool false) (v3 := .string ⟨#[]⟩) (v4 := .int .i64 0) (v5 := .string ⟨#[]⟩) (v6 := .int .i64 0) HI.out.2.row (Nat.le_refl _) HI.out.2.b
      have HS := Lib.hid hS
      clear hS HI
      go_wp2_with fail
      refine bodyPost_ret (results_row_tmp rfl _ _ w.heap.size _ _ _ _ rfl HS.out.1 Tryd.underlying43 rfl (by kernel_rfl)) rfl ⟨HS.out.2, rfl⟩
end Go.Proofs.YtebhbcbcnjdgjaaDoor.dk
