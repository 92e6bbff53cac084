/- The bytes of a record's pieces, one behind the other. -/
import Derived.Test.YticiaiiedagalaaPl10
import Derived.Laws.AppendOwn
namespace Go.Proofs.Yticiaiiedagalaa.dk
open Go.PlainAid Go.ChangeShapes Go.WideShapes Go.ChangeAt Go.RowKit

def joinF (F : Nat → Option (List Int)) (k : Nat) : List Int := joinOf ((List.range k).map F)
theorem joinF_succ (F : Nat → Option (List Int)) (k : Nat) (p : List Int) (h : F k = some p) : joinF F (k + 1) = joinF F k ++ fB p := by
  unfold joinF joinOf
  rw [List.range_succ, List.map_append, List.map_singleton, List.flatMap_append, h]
  simp
theorem fB_len (p : List Int) (hp : isP p = true) : (fB p).length ≤ 48 := by
  unfold isP at hp
  simp only [Bool.and_eq_true, decide_eq_true_eq] at hp
  unfold fB fZ
  rw [List.length_take, List.length_drop]
  have := hp.2
  omega
theorem joinF_len (F : Nat → Option (List Int)) (hP : ∀ i l, F i = some l → isP l = true) : ∀ k, (joinF F k).length ≤ 48 * k
  | 0 => Nat.le_refl _
  | k + 1 => by
    have ih := joinF_len F hP k
    match h : F k with
    | some p =>
      rw [joinF_succ F k p h, List.length_append]
      have := fB_len p (hP k p h)
      omega
    | none =>
      have : joinF F (k + 1) = joinF F k := by
        unfold joinF joinOf
        rw [List.range_succ, List.map_append, List.map_singleton, List.flatMap_append, h]
        simp
      rw [this]; omega
theorem owned_form {w : World} {B s : Nat} {t : TypeId} {v : Value} {n : Nat} {xs : List Value} (h : w.ownsRow B t s v n xs) : ∃ p c, v = .slice p n c := by
  rcases h.2 with ⟨hv, h0⟩ | ⟨g, cap, cur, hv, _⟩
  · exact ⟨none, 0, by rw [hv, h0]⟩
  · exact ⟨some ⟨g, 0, none⟩, cap, hv⟩
theorem infoU8 : (Try.prog.info? 5).map (fun i => (i.zero, i.size, i.bytes)) = some (some (.int .u8 0), 1, 1) := by kernel_rfl
/-- append of bytes to a slice that the call made. -/
theorem append_bytes {w : World} {B : Nat} {v : Value} {l b : List Int} {G off m c : Nat} (hown : w.ownsRow B 5 1 v l.length (bcells l)) (hR : Rd w (some ⟨G, off, none⟩) m b) (hl : l.length ≤ 100000000) (hm : m ≤ 100000000) (hB : B ≤ w.heap.size) :
    ∃ p cc w', (Builtin.append_ #[45, 45] 45 #[v, .slice (some ⟨G, off, none⟩) m c]).run Try.prog w = .ok (.slice p (l ++ b).length cc) w' ∧ w'.ownsRow B 5 1 (.slice p (l ++ b).length cc) (l ++ b).length (bcells (l ++ b)) ∧ Below B w w' ∧ w.grownBy w' v.ownBlock := by
  obtain ⟨i0, hi, hz0, hz1, hz2⟩ := info_parts infoU8
  have hbl := hR.1
  obtain ⟨v', w', hr, h2, h3, _⟩ := run_append_own (P := Try.prog) w B 45 45 5 i0 _ 1 1 Try.underlying45 hi hz0 hz1 hz2 (by rfl) (by decide) v l.length (bcells l) hown ⟨G, off, none⟩ m c (bcells b) (by rw [bcells_length, hbl, Nat.mul_one])
    (fun j u hj => by
      rw [add_off]
      have hjb : j < b.length := by
        have := (List.getElem?_eq_some_iff.1 hj).1
        rwa [bcells_length] at this
      rw [bcells_at b j hjb] at hj
      rw [← hj]
      exact hR.cell j (by omega)) (bcells_one b) (by unfold maxLen; omega) (by omega) hB
  obtain ⟨p, cc, rfl⟩ := owned_form h2
  have e : l.length + m = (l ++ b).length := by rw [List.length_append, hbl]
  rw [e, ← bcells_append] at h2
  rw [e] at hr
  exact ⟨p, cc, w', hr, h2, (Below.refl _ _).grown h3 hB (fun k hk => (hown.lt k hk).1), h3⟩
/-- append, by what it does when it is run. -/
theorem wpList_append_run {P : Program} {ops : Array Oper} {rest : List Oper} {o : Oper} {a : Act} {w : World} {Q : Exit → Act → World → Prop} (hgd : o.guard = none) (s x : Operand) (t : TypeId)
    (ho : o.op = .call { callee := .builtin .append, args := #[s, x], argTypes := #[t, t] }) (sv xv v' : Value) (w' : World) (hs : a.eval s = sv) (hx : a.eval x = xv)
    (hr : (Builtin.append_ #[t, t] o.type #[sv, xv]).run P w = .ok v' w') (h : wpList P ops Q rest (a.put o.dst v') w') : wpList P ops Q (o :: rest) a w :=
  wpList_plain hgd fun K hK => by
    unfold Oper.wp execOp
    simp only [ho, resolve, invoke, builtin, Sem.run_bind, Sem.run_pure, Result.andThen_ok, List.map_toArray, List.map_cons, List.map_nil, hs, hx, hr]
    exact hK _ _ h
def JoinPost (w : World) (l : List Int) (e : Ending) (w' : World) : Prop := ∃ p cc, e = .returned (.slice p l.length cc) ∧ w'.ownsRow w.heap.size 5 1 (.slice p l.length cc) l.length (bcells l) ∧ Below w.heap.size w w'
set_option maxHeartbeats 4000000 in
set_option maxRecDepth 100000 in
theorem joined_any {B b n : Nat} {F : Nat → Option (List Int)} {gs : Nat → Nat} {w : World} (h : PcAt B b n F gs w) (hF : ∀ i l, F i = some l → l.length = 64 ∧ Bys l) (hP : ∀ i l, F i = some l → isP l = true) (o k c : Nat) (hok : o + k ≤ n) (hn : n ≤ 65536) (hall : ∀ i, i < k → ∃ l, F (o + i) = some l) :
    Calls Try.prog 55 #[.slice (some ⟨b, o, none⟩) k c] w (JoinPost w (joinF (fun i => F (o + i)) k)) := by
  have HP := Lib.hid h
  have HF := Lib.hid hF
  have HIP := Lib.hid hP
  have HA := Lib.hid hall
  clear h hF hP hall
  go_enter Try.func55, Try.ntmps55
  go_wp2_with fail
  generalize hw1 : w.alloc (.cells #[] 5) = w1
  have h1 : w1.ownsRow w.heap.size 5 1 (.slice (some ⟨w.heap.size, 0, none⟩) (joinF (fun i => F (o + i)) 0).length 0) (joinF (fun i => F (o + i)) 0).length (bcells (joinF (fun i => F (o + i)) 0)) := by
    rw [← hw1]
    exact World.ownsRow_made w #[] 0 (Nat.le_refl _) (by unfold maxLen; omega) rfl
  have hb1 : Below w.heap.size w w1 := by rw [← hw1]; exact (Below.refl _ _).alloc (Nat.le_refl _) _
  have H1 := Lib.hid h1
  have HB1 := Lib.hid hb1
  clear hw1 h1 hb1
  go_loopw [3, 9] (fun v i wr => ∃ (j : Nat) (p : Option Addr) (cc : Nat), i = .int .i64 (j : Int) ∧ j ≤ k ∧ v = .slice p (joinF (fun i => F (o + i)) j).length cc ∧ Hid (wr.ownsRow w.heap.size 5 1 (.slice p (joinF (fun i => F (o + i)) j).length cc) (joinF (fun i => F (o + i)) j).length (bcells (joinF (fun i => F (o + i)) j))) ∧ Hid (Below w.heap.size w wr)) (fun _ i _ => k - (intOf i).toNat)
  case atStart => exact ⟨0, _, _, rfl, Nat.zero_le _, rfl, H1.out, HB1.out⟩
  case round =>
    clear H1 HB1
    obtain ⟨j, p, cc, rfl, hj, rfl, HO, HB⟩ := hrel
    by_cases hjn : j < k
    · have dj : decide ((j : Int) < (k : Int)) = true := decide_eq_true (by omega)
      obtain ⟨l, hl⟩ := HA.out j hjn
      have hP := HP.out.below HB.out
      have c1 := hP.cell (o + j) (by omega)
      rw [hl] at c1
      unfold pv at c1
      have hlf := HF.out _ l hl
      have hip := HIP.out _ l hl
      have hrd := (hP.el (o + j) (by omega) l hl).1.rd hlf.1
      have HBy := Lib.hid (bytes_any wr (gs (o + j)) l hrd hlf.2 hip)
      have hjl := joinF_len (fun i => F (o + i)) (fun i l h => HIP.out _ l h) j
      have hfl := fB_len l hip
      have hcut := hrd.cut 16 (fB l).length (by omega)
      have hfB : (l.drop 16).take (fB l).length = fB l := by unfold fB; simp
      rw [hfB, Nat.zero_add] at hcut
      obtain ⟨p2, cc2, w2, hr, h2, hb2, _⟩ := append_bytes (c := 48) HO.out hcut (by omega) (by omega) HB.out.size
      have HO2 := Lib.hid h2
      have HB2 := Lib.hid (HB.out.trans hb2)
      have e : Hid (joinF (fun i => F (o + i)) (j + 1) = joinF (fun i => F (o + i)) j ++ fB l) := joinF_succ _ j l hl
      rw [← e.out] at hr HO2
      have HR := Lib.hid hr
      clear hl hP hlf hip hrd hcut hfB h2 hb2 HO HB hr
      generalize (joinF (fun i => F (o + i)) j).length = L0 at HR hjl ⊢
      go_wp2_with fail
      with_reducible refine HBy.out.mono ?_
      rintro e' w' ⟨rfl, rfl⟩
      go_wp2_with (at_builtin; refine wpList_append_run rfl _ _ _ rfl _ _ _ _ rfl rfl HR.out ?_)
      constructor
      · exact ⟨j + 1, p2, cc2, by go_num, by omega, rfl, HO2.out, HB2.out⟩
      · show k - ((j : Int) + 1).toNat < k - (j : Int).toNat
        omega
    · have dj : decide ((j : Int) < (k : Int)) = false := decide_eq_false (by omega)
      obtain rfl : j = k := by omega
      go_wp2_with fail
      go_ret
      exact ⟨p, cc, rfl, HO.out, HB.out⟩
end Go.Proofs.Yticiaiiedagalaa.dk
/- A log in memory, and records that are told. -/
namespace Go.Proofs.Yticiaiiedagalaa.dk
open Go.PlainAid Go.ChangeShapes Go.WideShapes Go.ChangeAt Go.RowKit

/-- What a log holds. -/
structure Lg where
  d : Nat
  frm : Nat
  n : Nat
  place : Nat
  num : Int
  ses : Int
  broken : Bool
def lgcells (g : Lg) : Array Value := #[.pointer (some ⟨g.d, 0, none⟩), .int .i64 (g.frm : Int), .int .i64 (g.n : Int), .int .i64 (g.place : Int), .int .u32 g.num, .int .u32 g.ses, .bool g.broken]
def LogAt (A : Nat) (g : Lg) (W : World) : Prop := W.heap[A]? = some (.cells (lgcells g) 76 (0, 0))
theorem LogAt.lt {A : Nat} {g : Lg} {W : World} (h : LogAt A g W) : A < W.heap.size := (Array.getElem?_eq_some_iff.1 h).1
theorem LogAt.cell {A : Nat} {g : Lg} {W : World} (h : LogAt A g W) (j : Nat) : W.cell? ⟨A, j, none⟩ = (lgcells g)[j]? := cell_of_row _ _ _ _ _ _ h
theorem LogAt.frozen {A : Nat} {g : Lg} {W : World} (h : LogAt A g W) (j : Nat) : W.frozen? ⟨A, j, none⟩ = false := by
  simp [World.frozen?, show W.heap[A]? = _ from h]
theorem LogAt.below {A : Nat} {g : Lg} {W W' : World} (h : LogAt A g W) (hb : Below W.heap.size W W') : LogAt A g W' := (hb.block _ h.lt).trans h
theorem LogAt.turn {A B : Nat} {g g' : Lg} {W W0 : World} (h : LogAt A g W) (j : Nat) (v : Value) (he : (lgcells g).setIfInBounds j v = lgcells g') (hB : B ≤ A) (hb : Below B W0 W) :
    LogAt A g' (W.setCell ⟨A, j, none⟩ v) ∧ Below B W0 (W.setCell ⟨A, j, none⟩ v) ∧ Fr A W (W.setCell ⟨A, j, none⟩ v) := by
  rw [setCell_eq_setRow W A j _ _ _ v h, he]
  exact ⟨setRow_heap W A _ _ _ _ h, below_setRow hb hB _, fun k hk => setRow_other W A k _ hk⟩
theorem row_ne {W : World} {a b : Nat} {c d : Array Value} {s t : TypeId} (h1 : W.heap[a]? = some (.cells c s (0, 0))) (h2 : W.heap[b]? = some (.cells d t (0, 0))) (ht : s ≠ t) : a ≠ b := by
  rintro rfl
  rw [h1] at h2
  injection h2 with h2
  injection h2 with _ h2 _
  exact ht h2
theorem owned_type {w : World} {B s : Nat} {t : TypeId} {v : Value} {n : Nat} {xs : List Value} (h : w.ownsRow B t s v n xs) {g : Nat} (hg : v.ownBlock = some g) : ∃ cur, w.heap[g]? = some (.cells cur t (0, 0)) := by
  rcases h.2 with ⟨hv, _⟩ | ⟨g', cap, cur, hv, _, hh, _⟩
  · rw [hv] at hg; cases hg
  · rw [hv] at hg
    injection hg with hg
    subst hg
    exact ⟨cur, hh⟩
theorem owned_keeps {w w' : World} {B s : Nat} {t : TypeId} {v : Value} {n : Nat} {xs : List Value} (h : w.ownsRow B t s v n xs) (hb : ∀ g, v.ownBlock = some g → w'.heap[g]? = w.heap[g]?) : w'.ownsRow B t s v n xs := own_block_keeps h hb
theorem owned_base {w : World} {B B' s : Nat} {t : TypeId} {v : Value} {n : Nat} {xs : List Value} (h : w.ownsRow B t s v n xs) (hB : B' ≤ B) : w.ownsRow B' t s v n xs := by
  refine ⟨h.1, ?_⟩
  rcases h.2 with h' | ⟨g, cap, cur, hv, hg, rest⟩
  · exact .inl h'
  · exact .inr ⟨g, cap, cur, hv, Nat.le_trans hB hg, rest⟩
theorem owned_rd {w : World} {B n c : Nat} {p : Option Addr} {l : List Int} (h : w.ownsRow B 5 1 (.slice p n c) n (bcells l)) : Rd w p n l := by
  have hl : l.length = n := by have := h.1; rw [bcells_length, Nat.mul_one] at this; exact this
  refine ⟨hl, fun h0 => ?_⟩
  rcases h.2 with ⟨hv, h1⟩ | ⟨g, cap, cur, hv, hg, hh, _⟩
  · omega
  · injection hv with hp _ _
    refine ⟨g, 0, hp, (Array.getElem?_eq_some_iff.1 hh).1, fun i hi => ?_⟩
    have := h.cells (g := g) (by rw [hp]; rfl) i _ (bcells_at l i (by omega))
    rw [add_off] at this
    exact this
/-- Records that are told: a slice of slices of bytes. -/
structure RecAt (B : Nat) (v : Value) (R : List (List Int)) (vs : List Value) (W : World) : Prop where
  own : W.ownsRow B 45 1 v R.length vs
  el : ∀ i, i < R.length → ∃ q cc, vs[i]? = some (.slice q (R.getD i []).length cc) ∧ W.ownsRow B 5 1 (.slice q (R.getD i []).length cc) (R.getD i []).length (bcells (R.getD i []))
theorem RecAt.keep {B : Nat} {v : Value} {R : List (List Int)} {vs : List Value} {W W' : World} (h : RecAt B v R vs W) (hb : ∀ (k : Nat) (cur : Array Value) (t : TypeId), W.heap[k]? = some (.cells cur t (0, 0)) → (t = 45 ∨ t = 5) → W'.heap[k]? = W.heap[k]?) : RecAt B v R vs W' := by
  refine ⟨owned_keeps h.own fun g hg => ?_, fun i hi => ?_⟩
  · obtain ⟨cur, hc⟩ := owned_type h.own hg
    exact hb g _ _ hc (.inl rfl)
  · obtain ⟨q, cc, e, ho⟩ := h.el i hi
    refine ⟨q, cc, e, owned_keeps ho fun g hg => ?_⟩
    obtain ⟨cur, hc⟩ := owned_type ho hg
    exact hb g _ _ hc (.inr rfl)
theorem RecAt.below {B : Nat} {v : Value} {R : List (List Int)} {vs : List Value} {W W' : World} (h : RecAt B v R vs W) (hb : Below W.heap.size W W') : RecAt B v R vs W' :=
  h.keep fun k _ _ hk _ => hb.block k (Array.getElem?_eq_some_iff.1 hk).1
theorem RecAt.base {B B' : Nat} {v : Value} {R : List (List Int)} {vs : List Value} {W : World} (h : RecAt B v R vs W) (hB : B' ≤ B) : RecAt B' v R vs W :=
  ⟨owned_base h.own hB, fun i hi => by
    obtain ⟨q, cc, e, ho⟩ := h.el i hi
    exact ⟨q, cc, e, owned_base ho hB⟩⟩
/-- append, as one step of a region that draws. -/
theorem step_append_run {P : Program} {ops : Array Oper} {o : Oper} {a : Act} {w : World} {K : Act → World → Prop} {Q : Exit → Act → World → Prop} {E : Prop} (hgd : o.guard = none) (s x : Operand) (t : TypeId)
    (ho : o.op = .call { callee := .builtin .append, args := #[s, x], argTypes := #[t, t] }) (sv xv v' : Value) (w' : World) (hs : a.eval s = sv) (hx : a.eval x = xv)
    (hr : (Builtin.append_ #[t, t] o.type #[sv, xv]).run P w = .ok v' w') (h : K (a.put o.dst v') w') :
    if Region.wanted o (yielded ops a.tmps) = true then Oper.wp P o a w K Q else E := by
  have hw : Region.wanted o (yielded ops a.tmps) = true := by simp [Region.wanted, hgd]
  rw [if_pos hw]
  unfold Oper.wp execOp
  simp only [ho, resolve, invoke, builtin, Sem.run_bind, Sem.run_pure, Result.andThen_ok, List.map_toArray, List.map_cons, List.map_nil, hs, hx, hr]
  exact h
theorem infoBs : (Try.prog.info? 45).map (fun i => (i.zero, i.size, i.bytes)) = some (some (.slice none 0 0), 1, 24) := by kernel_rfl
/-- append of one record. -/
theorem append_rec {w : World} {B b c : Nat} {v : Value} {R : List (List Int)} {vs : List Value} {q : Option Addr} {cc : Nat} {l : List Int} (h : RecAt B v R vs w) (hq : w.ownsRow B 5 1 (.slice q l.length cc) l.length (bcells l)) (hn : w.cell? ⟨b, 0, none⟩ = some (.slice q l.length cc)) (hR : R.length ≤ 1000000) (hB : B ≤ w.heap.size) :
    ∃ p c2 w', (Builtin.append_ #[33, 33] 33 #[v, .slice (some ⟨b, 0, none⟩) 1 c]).run Try.prog w = .ok (.slice p (R ++ [l]).length c2) w' ∧ RecAt B (.slice p (R ++ [l]).length c2) (R ++ [l]) (vs ++ [.slice q l.length cc]) w' ∧ Below B w w' ∧ w.grownBy w' v.ownBlock := by
  obtain ⟨i0, hi, hz0, hz1, hz2⟩ := info_parts infoBs
  obtain ⟨v', w', hr, h2, h3, _⟩ := run_append_own (P := Try.prog) w B 33 33 45 i0 _ 1 24 Try.underlying33 hi hz0 hz1 hz2 (by rfl) (by decide) v R.length vs h.own ⟨b, 0, none⟩ 1 c [.slice q l.length cc] rfl
    (fun j u hj => by
      match j, hj with
      | 0, hj => cases hj; rw [add_off]; exact hn
      | j + 1, hj => cases hj) (fun u hu => by rw [List.mem_singleton.1 hu]; rfl) (by unfold maxLen; omega) (by omega) hB
  obtain ⟨p, c2, rfl⟩ := owned_form h2
  have e : R.length + 1 = (R ++ [l]).length := by rw [List.length_append]; rfl
  rw [e] at h2 hr
  refine ⟨p, c2, w', hr, ⟨h2, fun i hi => ?_⟩, (Below.refl _ _).grown h3 hB (fun k hk => (h.own.lt k hk).1), h3⟩
  have ht : ∀ {x : Value} {m : Nat} {xs : List Value}, w.ownsRow B 5 1 x m xs → w'.ownsRow B 5 1 x m xs := fun {x m xs} hx => by
    refine owned_keeps hx fun g hg => ?_
    obtain ⟨cur, hc⟩ := owned_type hx hg
    refine h3.block g (Array.getElem?_eq_some_iff.1 hc).1 fun e2 => ?_
    obtain ⟨cur2, hc2⟩ := owned_type h.own e2.symm
    exact row_ne hc hc2 (by decide) rfl
  have hvl : vs.length = R.length := by have := h.own.1; rw [Nat.mul_one] at this; exact this
  by_cases hiR : i < R.length
  · obtain ⟨q', cc', e1, e2⟩ := h.el i hiR
    refine ⟨q', cc', ?_, ?_⟩
    · rw [List.getElem?_append_left (by omega), e1]
      congr 3
      rw [List.getD_eq_getElem?_getD, List.getD_eq_getElem?_getD, List.getElem?_append_left hiR]
    · have := ht e2
      rw [List.getD_eq_getElem?_getD, List.getElem?_append_left hiR, ← List.getD_eq_getElem?_getD]
      exact this
  · have hi2 : i = R.length := by rw [List.length_append, List.length_singleton] at hi; omega
    subst hi2
    have e0 : (R ++ [l]).getD R.length [] = l := by
      rw [List.getD_eq_getElem?_getD, List.getElem?_append_right (Nat.le_refl _), Nat.sub_self]; rfl
    rw [e0]
    refine ⟨q, cc, ?_, ht hq⟩
    rw [List.getElem?_append_right (by omega), hvl, Nat.sub_self]
    rfl
end Go.Proofs.Yticiaiiedagalaa.dk
