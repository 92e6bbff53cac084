/- Decode. -/
import Derived.Test.YtebhbcbcnjdgjaaDoorLB
namespace Go.Proofs.YtebhbcbcnjdgjaaDoor.dk
open Go.PlainAid Go.ChangeShapes Go.WideShapes Go.ChangeAt Go.RowKit Go.Shelf

attribute [local go_sem] Oper.semAt_some
theorem parts_any (w : World) (p : Option Addr) (n c : Nat) : Calls Tryd.prog 27 #[.slice p n c] w fun e w' => e = .returned (.func (.func 38) #[] #[.pointer (some ⟨w.heap.size, 0, none⟩)]) ∧ w' = w.alloc (.cells #[.slice p n c] 23) := by
  go_enter Tryd.func27, Tryd.ntmps27
  go_wp2_with fail
  go_ret
  exact ⟨rfl, rfl⟩
/-- What Decode answers. -/
def DPost (w : World) (b : List Int) (e : Ending) (w' : World) : Prop :=
  Below w.heap.size w w' ∧
  ((∃ qs p2 c2, Dc b qs [] ∧ qs.length ≤ 16 ∧ e = .returned (.tuple #[.slice p2 qs.length c2, .int .i64 0]) ∧ w'.ownsRow w.heap.size 43 7 (.slice p2 qs.length c2) qs.length (pcells qs)) ∨
   (∃ qs r, Dc b qs r ∧ r ≠ [] ∧ fpart r = none ∧ qs.length ≤ 16 ∧ e = .returned (.tuple #[.slice none 0 0, .int .i64 2])) ∨
   (∃ qs r q k, Dc b qs r ∧ r ≠ [] ∧ fpart r = some (q, k) ∧ qs.length = 16 ∧ e = .returned (.tuple #[.slice none 0 0, .int .i64 4])))
theorem nxt_none {r : List Int} {q : Pt} (h : nxt r = (q, false)) : fpart r = none := by
  unfold nxt at h
  cases hf : fpart r with
  | none => rfl
  | some x => rw [hf] at h; simp at h
theorem nxt_some {r : List Int} {q : Pt} (h : nxt r = (q, true)) : ∃ q k, fpart r = some (q, k) := by
  unfold nxt at h
  cases hf : fpart r with
  | none => rw [hf] at h; simp at h
  | some x => exact ⟨x.1, x.2, rfl⟩
theorem alloc_old {W : World} {k : Nat} {x : Obj} (o : Obj) (h : W.heap[k]? = some x) : (W.alloc o).heap[k]? = some x := (Below.heap_alloc W o k (Array.getElem?_eq_some_iff.1 h).1).trans h
theorem wpListIn_append_run {F : Fence} {m : Nat} {P : Program} {ops : Array Oper} {rest : List Oper} {o : Oper} {a : Act} {w : World} {Q : Exit → Act → World → Prop} (hgd : o.guard = none) (s x : Operand) (t : TypeId)
    (ho : o.op = .call { callee := .builtin .append, args := #[s, x], argTypes := #[t, t] }) (sv xv v' : Value) (w' : World) (hs : a.eval s = sv) (hx : a.eval x = xv)
    (hr : (Builtin.append_ #[t, t] o.type #[sv, xv]).run P w = .ok v' w') (h : wpListIn F m P ops Q rest (a.put o.dst v') w') : wpListIn F m P ops Q (o :: rest) a w := by
  refine wpListIn_plain hgd fun K hK => ?_
  unfold Oper.wpIn
  refine ⟨?_, ?_⟩
  · simp [Oper.about, ho, resolve, Target.leads, Sem.run_pure]
  · rw [Oper.semAt_plain F _ _ (by rw [ho]; intro c hc; cases hc)]
    simp [execOp, ho, resolve, invoke, builtin, hs, hx, hr, Result.andThen]
    exact hK _ _ h
theorem oks_inj : ∀ {a b : List Pt}, oks a = oks b → a = b
  | [], [], _ => rfl
  | [], _ :: _, h => by simp [oks] at h
  | _ :: _, [], h => by simp [oks] at h
  | x :: a, y :: b, h => by
    simp only [oks, List.map_cons, List.cons.injEq, Prod.mk.injEq] at h
    rw [h.1.1, oks_inj h.2]
theorem oks_end {a b : List Pt} {q : Pt} {x : Bool} (h : oks a = oks b ++ [(q, x)]) : x = true := by
  have : (q, x) ∈ oks a := by rw [h]; simp
  obtain ⟨_, _, e⟩ := List.mem_map.1 this
  injection e with _ e
  exact e.symm
theorem snoc_inj {α : Type} {a b : List α} {x y : α} (h : a ++ [x] = b ++ [y]) : a = b ∧ x = y := by
  have := List.append_inj' h rfl
  exact ⟨this.1, by simpa using this.2⟩
/-- What Decode holds between two rounds. -/
structure DI (w : World) (qs : List Pt) (p2 : Option Addr) (c2 : Nat) (W : World) : Prop where
  b2 : Boxed W w.heap.size 35 (.slice none 0 0)
  b3 : Boxed W (w.heap.size + 1) 32 (.int .i64 0)
  b4 : Boxed W (w.heap.size + 3) 35 (.slice p2 qs.length c2)
  bx : ∃ v, Boxed W (w.heap.size + 4) 23 v
  own : W.ownsRow w.heap.size 43 7 (.slice p2 qs.length c2) qs.length (pcells qs)
  le : qs.length ≤ 16
  below : Below w.heap.size w W
abbrev Trn (w : World) (W W' : World) (r : Option Nat) : Prop := ∀ k, r = some k → (k = w.heap.size + 4 ∧ ∃ v, Boxed W' (w.heap.size + 4) 23 v) ∨ w.heap.size + 5 ≤ k ∧ ∃ o : Obj, W.heap[k]? = some o ∧ o.isCells = false
theorem trn_ne {w W W' : World} {r : Option Nat} (hr : Trn w W W' r) {B : Nat} (h1 : B ≠ w.heap.size + 4) {o : Obj} (hB : W.heap[B]? = some o) (hc : o.isCells = true) : some B ≠ r := fun e => by
  rcases hr B e.symm with ⟨h, _⟩ | ⟨_, o', h2, h3⟩
  · exact h1 h
  · rw [hB] at h2; cases h2; rw [hc] at h3; cases h3
theorem DI.kept {w W W' : World} {qs : List Pt} {p2 : Option Addr} {c2 : Nat} {r : Option Nat} (h : DI w qs p2 c2 W) (hg : W.grownBy W' r) (hr : Trn w W W' r) : DI w qs p2 c2 W' := by
  obtain ⟨v, hv⟩ := h.bx
  refine ⟨h.b2.kept hg (trn_ne hr (by omega) h.b2 rfl), h.b3.kept hg (trn_ne hr (by omega) h.b3 rfl), h.b4.kept hg (trn_ne hr (by omega) h.b4 rfl), ?_, owned_keeps h.own fun g hk => ?_, h.le, h.below.grown hg h.below.size fun k e => ?_⟩
  · by_cases e : r = some (w.heap.size + 4)
    · rcases hr _ e with ⟨_, h2⟩ | ⟨h2, _⟩
      · exact h2
      · omega
    · exact ⟨v, hv.kept hg (Ne.symm e)⟩
  · obtain ⟨cur, hc⟩ := owned_type h.own hk
    refine hg.block g (h.own.lt g hk).2 (trn_ne hr ?_ hc rfl)
    intro e
    subst e
    have := (show W.heap[_]? = _ from hv).symm.trans hc
    simp at this
  · rcases hr k e with ⟨h2, _⟩ | ⟨h2, _⟩ <;> omega
/-- What is left when a round has said no more. -/
structure DX (w : World) (pre : List (Pt × Bool)) (ec : Int) (W : World) : Prop where
  b2 : Boxed W w.heap.size 35 (.slice none 0 0)
  b3 : Boxed W (w.heap.size + 1) 32 (.int .i64 ec)
  below : Below w.heap.size w W
  why : (ec = 2 ∧ ∃ qs q, qs.length ≤ 16 ∧ pre = oks qs ++ [(q, false)]) ∨ (ec = 4 ∧ ∃ qs q, qs.length = 16 ∧ pre = oks qs ++ [(q, true)])
theorem DX.kept {w W W' : World} {pre : List (Pt × Bool)} {ec : Int} {r : Option Nat} (h : DX w pre ec W) (hg : W.grownBy W' r) (hr : Trn w W W' r) : DX w pre ec W' :=
  ⟨h.b2.kept hg (trn_ne hr (by omega) h.b2 rfl), h.b3.kept hg (trn_ne hr (by omega) h.b3 rfl), h.below.grown hg h.below.size fun k e => by rcases hr k e with ⟨h2, _⟩ | ⟨h2, _⟩ <;> omega, h.why⟩
set_option maxHeartbeats 2000000 in
set_option maxRecDepth 100000 in
theorem Decode_any (w : World) (p : Option Addr) (n c : Nat) (l : List Int) (hR : Rd w p n l) (hy : Bys l) (hnc : n ≤ c) (hn : n ≤ 100000) :
    Calls Tryd.prog 13 #[.slice p n c] w (DPost w l) := by
  have HR := Lib.hid hR
  have HY := Lib.hid hy
  have HNC := Lib.hid hnc
  have HN := Lib.hid hn
  clear hR hy hnc hn
  refine (callsIn_wide (n := 3)).1 ?_
  refine callsIn_of_wp_marks Tryd.func13 rfl trivial ?_ rfl
  simp only [Tryd.ntmps13, List.size_toArray, List.length_cons, List.length_nil, Nat.reduceAdd, Nat.reduceSub, Array.replicate_succ, Array.replicate_zero, List.push_toArray, List.append_toArray, List.nil_append, List.cons_append]
  gi_wp2
  refine ⟨trivial, ?_⟩
  refine (callsIn_wide.2 (parts_any _ p n c)).mono ?_
  rintro e w' ⟨rfl, rfl⟩
  gi_wp2
  obtain ⟨w5, hw5⟩ : ∃ w5, w5 = ((((w.alloc (.cells #[.slice none 0 0] 35)).alloc (.cells #[.int .i64 0] 32)).alloc (.cells #[] 43)).alloc (.cells #[.slice (some ⟨w.heap.size + 1 + 1, 0, none⟩) 0 0] 35)).alloc (.cells #[.slice p n c] 23) := ⟨_, rfl⟩
  have hs5 : w5.heap.size = w.heap.size + 5 := by rw [hw5]; simp
  have hb5 : Below w.heap.size w w5 := by rw [hw5]; exact (((((Below.refl _ w).alloc (Nat.le_refl _) _).alloc (by simp) _).alloc (by simp; omega) _).alloc (by simp; omega) _).alloc (by simp; omega) _
  have f0 := alloc_old (.cells #[.slice p n c] 23) (alloc_old (.cells #[.slice (some ⟨w.heap.size + 1 + 1, 0, none⟩) 0 0] 35) (alloc_old (.cells #[] 43) (alloc_old (.cells #[.int .i64 0] 32) (heap_alloc_new w (.cells #[.slice none 0 0] 35)))))
  have f1 := alloc_old (.cells #[.slice p n c] 23) (alloc_old (.cells #[.slice (some ⟨w.heap.size + 1 + 1, 0, none⟩) 0 0] 35) (alloc_old (.cells #[] 43) (heap_alloc_new (w.alloc (.cells #[.slice none 0 0] 35)) (.cells #[.int .i64 0] 32))))
  have f2 := alloc_old (.cells #[.slice p n c] 23) (alloc_old (.cells #[.slice (some ⟨w.heap.size + 1 + 1, 0, none⟩) 0 0] 35) (heap_alloc_new ((w.alloc (.cells #[.slice none 0 0] 35)).alloc (.cells #[.int .i64 0] 32)) (.cells #[] 43)))
  have f3 := alloc_old (.cells #[.slice p n c] 23) (heap_alloc_new (((w.alloc (.cells #[.slice none 0 0] 35)).alloc (.cells #[.int .i64 0] 32)).alloc (.cells #[] 43)) (.cells #[.slice (some ⟨w.heap.size + 1 + 1, 0, none⟩) 0 0] 35))
  have f4 := heap_alloc_new ((((w.alloc (.cells #[.slice none 0 0] 35)).alloc (.cells #[.int .i64 0] 32)).alloc (.cells #[] 43)).alloc (.cells #[.slice (some ⟨w.heap.size + 1 + 1, 0, none⟩) 0 0] 35)) (.cells #[.slice p n c] 23)
  simp only [World.size_alloc] at f1 f2 f3 f4
  rw [← hw5] at f0 f1 f2 f3 f4
  have hbx : Boxed w5 (w.heap.size + 4) 23 (.slice p n c) := f4
  have hDI : DI w [] (some ⟨w.heap.size + 2, 0, none⟩) 0 w5 :=
    ⟨f0, f1, f3, ⟨_, hbx⟩, ⟨rfl, .inr ⟨_, 0, _, rfl, by omega, f2, Nat.le_refl _, by unfold maxLen; omega, rfl, rfl⟩⟩, by simp, hb5⟩
  rw [← hw5]
  have HBx := Lib.hid hbx
  have HDI := Lib.hid hDI
  have HB5 := Lib.hid hb5
  have HS5 := Lib.hid hs5
  clear hw5 hbx hDI hb5 hs5 f0 f1 f2 f3 f4
  refine rangeBox (gf := 38) (lb := #[.pointer (some ⟨w.heap.size + 4, 0, none⟩)]) (n0 := w.heap.size) (b := w.heap.size + 4) (t := 23) (encs := encs) (S := SAll l) (Sp := SPart l) rfl (enters_of Tryd.func38 (by kernel_rfl) rfl) (by have := HS5.out; omega) (by have := HS5.out; omega) (fun _ => rfl) ?seq
    (fun pre W => ∃ qs p2 c2, pre = oks qs ∧ DI w qs p2 c2 W) (fun cd pre W => cd = .ret ∧ ∃ ec, DX w pre ec W)
    (by rw [HS5.out]; exact fun s W W' r hs hg hr => by obtain ⟨qs, p2, c2, h1, h2⟩ := hs; exact ⟨qs, p2, c2, h1, h2.kept hg hr⟩)
    (by rw [HS5.out]; exact fun cd s W W' r hs hg hr => by obtain ⟨h1, ec, h2⟩ := hs; exact ⟨h1, ec, h2.kept hg hr⟩)
    ⟨[], _, _, rfl, HDI.out⟩
    (fun x a' W => ∃ Bx, w.heap.size + 5 ≤ Bx ∧ W.heap[Bx]? = some (.cells (parr x.1) 43 (0, 0)) ∧ a' = { tmps := #[.slice p n c, undef, .pointer (some ⟨w.heap.size, 0, none⟩), .pointer (some ⟨w.heap.size + 1, 0, none⟩), .pointer (some ⟨w.heap.size + 1 + 1 + 1, 0, none⟩), .pointer (some ⟨Bx, 0, none⟩), .bool x.2, .slice (some ⟨w.heap.size + 1 + 1, 0, none⟩) 0 0, .slice p n c, .func (.func 38) #[] #[.pointer (some ⟨w.heap.size + 1 + 1 + 1 + 1, 0, none⟩)], .agg (parr x.1), .bool x.2, undef, undef, undef, undef, undef, undef, undef, undef, undef, undef, undef, undef], defers := [] })
    (by rw [HS5.out]; exact fun x a' s W W' r hs hg hr => by
          obtain ⟨Bx, h1, h2, h3⟩ := hs
          exact ⟨Bx, h1, (hg.block Bx (Array.getElem?_eq_some_iff.1 h2).1 (trn_ne hr (by omega) h2 rfl)).trans h2, h3⟩)
    ?assign ?body ?done ?stop
  case seq =>
    intro l0 J Jx W hbw hJ hJx hY h0
    have hsz := HS5.out
    exact parts1_in _ l0 (w.heap.size + 4) w l J Jx W p n c (by omega) hJ hJx hY ((hbw.block _ (by omega)).trans HBx.out) ⟨HR.out, HNC.out, HN.out, .nil, HY.out, h0, Nat.le_trans HB5.out.size hbw.size, fun k hk => (hbw.block k (by omega)).trans (HB5.out.block k hk)⟩
  case assign =>
    rintro l0 pre ⟨⟨k9, x, neg, dg, ex, s, i⟩, ok⟩ W K ⟨qs, p2, c2, rfl, hD⟩ hK
    have hsz := HS5.out
    obtain ⟨v0, hv0⟩ := hD.bx
    have hl := hv0.lt
    dsimp only [encs, parr] at hK ⊢
    gi_wp2
    refine hK _ _ ((KeepsOthers.alloc _ _).from _) ⟨by rw [World.size_alloc]; omega, fun k hk => Below.heap_alloc _ _ _ (by have := hD.below.size; omega)⟩ ⟨qs, p2, c2, rfl, hD.kept (World.grownBy_alloc W _ none) fun k e => by cases e⟩ ⟨W.heap.size, by omega, heap_alloc_new _ _, rfl⟩
  case body =>
    rintro l0 pre ⟨⟨k9, x, neg, dg, ex, s, i⟩, ok⟩ a' W hl ⟨qs, p2, c2, rfl, hD⟩ ⟨Bx, hBx, hrow, rfl⟩
    dsimp only [parr] at hrow ⊢
    have hsz := HS5.out
    have e2 := hD.b2.cell
    have g2 := hD.b2.frozen
    have e3 := hD.b3.cell
    have g3 := hD.b3.frozen
    have e4 := hD.b4.cell
    have g4 := hD.b4.frozen
    have hX : ∀ ec : Int, ((ec = 2 ∧ ∃ qs' q, qs'.length ≤ 16 ∧ oks qs ++ [((⟨k9, x, neg, dg, ex, s, i⟩ : Pt), ok)] = oks qs' ++ [(q, false)]) ∨ (ec = 4 ∧ ∃ qs' q, qs'.length = 16 ∧ oks qs ++ [((⟨k9, x, neg, dg, ex, s, i⟩ : Pt), ok)] = oks qs' ++ [(q, true)])) →
        DX w (oks qs ++ [((⟨k9, x, neg, dg, ex, s, i⟩ : Pt), ok)]) ec ((W.setCell ⟨w.heap.size, 0, none⟩ (.slice none 0 0)).setCell ⟨w.heap.size + 1, 0, none⟩ (.int .i64 ec)) := fun ec hy =>
      ⟨(hD.b2.set _).other (by omega) _, (hD.b3.other (by omega) _).set _, (hD.below.setCell (p := ⟨w.heap.size, 0, none⟩) (Nat.le_refl _) _).setCell (p := ⟨w.heap.size + 1, 0, none⟩) (Nat.le_succ _) _, hy⟩
    have HD := Lib.hid hD
    have HX := Lib.hid hX
    have HL := Lib.hid hD.le
    clear hX hD
    cases ok with
    | false =>
      clear hrow
      gi_wp2
      exact ⟨((KeepsOthers.setCell _ _ _).trans (KeepsOthers.setCell _ _ _)).from _, rfl, 2, HX.out 2 (.inl ⟨rfl, qs, _, HL.out, rfl⟩)⟩
    | true =>
      by_cases h16 : qs.length = 16
      · have d16 : ((qs.length : Int) == 16) = true := beq_iff_eq.2 (by omega)
        have d16n : (qs.length == 16) = true := beq_iff_eq.2 h16
        have H16 := Lib.hid h16
        clear hrow h16
        gi_wp2
        exact ⟨((KeepsOthers.setCell _ _ _).trans (KeepsOthers.setCell _ _ _)).from _, rfl, 4, HX.out 4 (.inr ⟨rfl, qs, _, H16.out, rfl⟩)⟩
      · have d16 : ((qs.length : Int) == 16) = false := beq_eq_false_iff_ne.2 (by omega)
        have d16n : (qs.length == 16) = false := beq_eq_false_iff_ne.2 h16
        have hle := HL.out
        have c0 := cell_of_row _ _ 0 _ _ _ hrow
        have c1 := cell_of_row _ _ 1 _ _ _ hrow
        have c2' := cell_of_row _ _ 2 _ _ _ hrow
        have c3 := cell_of_row _ _ 3 _ _ _ hrow
        have c4 := cell_of_row _ _ 4 _ _ _ hrow
        have c5 := cell_of_row _ _ 5 _ _ _ hrow
        have c6 := cell_of_row _ _ 6 _ _ _ hrow
        simp at c0 c1 c2' c3 c4 c5 c6
        have hbn : Below W.heap.size W (W.alloc (.cells (parr ⟨k9, x, neg, dg, ex, s, i⟩) 43)) := (Below.refl _ _).alloc (Nat.le_refl _) _
        have hown := owned_keeps HD.out.own fun k hk => hbn.block k (HD.out.own.lt k hk).2
        obtain ⟨p3, c3n, w8, hr8, ho8, hb8, hf8⟩ := appendK_some (cc := 1) hown (rdP_new W ⟨k9, x, neg, dg, ex, s, i⟩ 43) (by decide) (by omega) (by decide) (Nat.le_trans HD.out.below.size hbn.size)
        obtain ⟨vb, hvb⟩ := HD.out.bx
        have hnb : some (w.heap.size + 4) ≠ (Value.slice p2 qs.length c2).ownBlock := hvb.not_row (by decide) HD.out.own
        have hn2 : some w.heap.size ≠ (Value.slice p2 qs.length c2).ownBlock := HD.out.b2.not_row (by decide) HD.out.own
        have hn3 : some (w.heap.size + 1) ≠ (Value.slice p2 qs.length c2).ownBlock := HD.out.b3.not_row (by decide) HD.out.own
        have hn4 : some (w.heap.size + 3) ≠ (Value.slice p2 qs.length c2).ownBlock := HD.out.b4.not_row (by decide) HD.out.own
        have hfr : ∀ k, k < W.heap.size → some k ≠ (Value.slice p2 qs.length c2).ownBlock → w8.heap[k]? = W.heap[k]? := fun k hk hne => (hf8 k (Nat.lt_of_lt_of_le hk hbn.size) (Ne.symm hne)).trans (hbn.block k hk)
        have hb48 : Boxed w8 (w.heap.size + 3) 35 (.slice p2 qs.length c2) := (hfr _ HD.out.b4.lt hn4).trans HD.out.b4
        have e48 := hb48.cell
        have g48 := hb48.frozen
        have hsz8 := Nat.le_trans hbn.size hb8.size
        have HFin : Hid (∀ v, KeepsFrom w5.heap.size W (w8.setCell ⟨w.heap.size + 3, 0, none⟩ v) ∧ RKeep w.heap.size (w.heap.size + 4) W (w8.setCell ⟨w.heap.size + 3, 0, none⟩ v) ∧ DI w (qs ++ [⟨k9, x, neg, dg, ex, s, i⟩]) p3 c3n (w8.setCell ⟨w.heap.size + 3, 0, none⟩ (.slice p3 (qs ++ [(⟨k9, x, neg, dg, ex, s, i⟩ : Pt)]).length c3n))) := Lib.hid fun v => by
          have hset : ∀ v k, k ≠ w.heap.size + 3 → (w8.setCell ⟨w.heap.size + 3, 0, none⟩ v).heap[k]? = w8.heap[k]? := fun v k hk => Below.heap_setCell _ _ _ k hk
          have hss : ∀ v, W.heap.size ≤ (w8.setCell ⟨w.heap.size + 3, 0, none⟩ v).heap.size := fun v => Nat.le_trans hsz8 (grownBy_setCell' w8 _ v).size
          refine ⟨⟨hss _, fun k o hk ho hc => ?_⟩, ⟨hss _, fun k hk => ?_⟩, ⟨?_, ?_, hb48.set _, ⟨vb, ?_⟩, ?_, ?_, ?_⟩⟩
          · rw [hset _ k (by omega), hfr k (Array.getElem?_eq_some_iff.1 ho).1 ?_]
            · exact ho
            · intro e
              obtain ⟨cur, h⟩ := owned_type HD.out.own e.symm
              rw [ho] at h
              cases h
              cases hc
          · have := HD.out.below.size
            rw [hset _ k (by omega)]
            rcases hk with hk | rfl
            · exact hfr k (by omega) (fun e => by have := (HD.out.own.lt k e.symm).1; omega)
            · exact hfr _ hvb.lt hnb
          · exact (hset _ _ (by omega)).trans ((hfr _ HD.out.b2.lt hn2).trans HD.out.b2)
          · exact (hset _ _ (by omega)).trans ((hfr _ HD.out.b3.lt hn3).trans HD.out.b3)
          · exact (hset _ _ (by omega)).trans ((hfr _ hvb.lt hnb).trans hvb)
          · exact owned_keeps ho8 fun g hg => hset _ g (fun e => (hb48.not_row (t := 35) (by decide) ho8) (by rw [hg, e]))
          · rw [List.length_append]; simp; omega
          · exact (HD.out.below.trans ((hbn.mono HD.out.below.size).trans hb8)).setCell (p := ⟨w.heap.size + 3, 0, none⟩) (by simp) _
        have HR8 := Lib.hid hr8
        clear hbn hown hr8 ho8 hb8 hf8 hvb hnb hn2 hn3 hn4 hfr hb48 hrow
        generalize hl2 : (qs ++ [(⟨k9, x, neg, dg, ex, s, i⟩ : Pt)]).length = l2 at HR8 HFin
        have HL2 := Lib.hid hl2
        clear hl2
        dsimp only [parr] at HR8
        gi_wp2_with (gi_at_builtin; refine wpListIn_append_run rfl _ _ _ rfl _ _ _ _ rfl rfl HR8.out ?_; clear HR8)
        obtain ⟨k1, k2, k3⟩ := HFin.out (.slice p3 l2 c3n)
        exact ⟨k1, k2, _, p3, c3n, (oks_snoc _ _).symm, k3⟩
  case done =>
    rintro D xs W hD hS ⟨qs, p2, c2, rfl, hDI⟩ hK
    have hsz := HS5.out
    have e2 := hDI.b2.cell
    have g2 := hDI.b2.frozen
    have e3 := hDI.b3.cell
    have g3 := hDI.b3.frozen
    have e4 := hDI.b4.cell
    have HDI := Lib.hid hDI
    have HK := Lib.hid hK
    have HS := Lib.hid hS
    clear hDI hK hS
    have hne2 : some w.heap.size ≠ some D := fun e => by cases e; omega
    have hne3 : some (w.heap.size + 1) ≠ some D := fun e => by cases e; omega
    gi_wp2
    have hU2 := (HDI.out.b2.set (.slice p2 qs.length c2)).other (B' := w.heap.size + 1) (by omega) (.int .i64 0)
    have hU3 := (HDI.out.b3.other (B' := w.heap.size) (by omega) (.slice p2 qs.length c2)).set (.int .i64 0)
    have hKO := (KeepsOthers.setCell W ⟨w.heap.size, 0, none⟩ (.slice p2 qs.length c2)).trans (KeepsOthers.setCell _ ⟨w.heap.size + 1, 0, none⟩ (.int .i64 0))
    have hBU := (HDI.out.below.setCell (p := ⟨w.heap.size, 0, none⟩) (Nat.le_refl _) (.slice p2 qs.length c2)).setCell (p := ⟨w.heap.size + 1, 0, none⟩) (Nat.le_succ _) (.int .i64 0)
    have hOU : ((W.setCell ⟨w.heap.size, 0, none⟩ (.slice p2 qs.length c2)).setCell ⟨w.heap.size + 1, 0, none⟩ (.int .i64 0)).ownsRow w.heap.size 43 7 (.slice p2 qs.length c2) qs.length (pcells qs) :=
      owned_keeps HDI.out.own fun g hg => by
        have n2 : some w.heap.size ≠ (Value.slice p2 qs.length c2).ownBlock := HDI.out.b2.not_row (by decide) HDI.out.own
        have n3 : some (w.heap.size + 1) ≠ (Value.slice p2 qs.length c2).ownBlock := HDI.out.b3.not_row (by decide) HDI.out.own
        rw [Below.heap_setCell _ _ _ g (fun e => n3 (by rw [hg, e])), Below.heap_setCell _ _ _ g (fun e => n2 (by rw [hg, e]))]
    generalize (W.setCell ⟨w.heap.size, 0, none⟩ (.slice p2 qs.length c2)).setCell ⟨w.heap.size + 1, 0, none⟩ (.int .i64 0) = U at hU2 hU3 hKO hBU hOU ⊢
    have hK' := hKO.same D _ HK.out rfl
    refine ⟨by simp, .inl ⟨_, _, rfl, run_takeDeferred hK', ?_⟩⟩
    have hV2 := (hU2.kept (grownBy_putObj' _ D (.deferred none)) hne2).cell
    have hV3 := (hU3.kept (grownBy_putObj' _ D (.deferred none)) hne3).cell
    refine ⟨.tuple #[.slice p2 qs.length c2, .int .i64 0], by simp [results, Tryd.f13, go_sem, hV2, hV3], hBU.grown (grownBy_putObj' _ D (.deferred none)) hBU.size (fun k e => by cases e; omega), .inl ?_⟩
    rcases HS.out with ⟨l', hdc, he⟩ | ⟨l', r, _, _, _, he⟩
    · obtain rfl := oks_inj he
      exact ⟨qs, p2, c2, hdc, HDI.out.le, rfl, ownsRow_putObj hOU _ hK' rfl⟩
    · exact absurd (oks_end he) (by decide)
  case stop =>
    rintro D cd pre W hD hS ⟨rfl, ec, hX⟩ hK
    have hsz := HS5.out
    have HX := Lib.hid hX
    have HK := Lib.hid hK
    have HS := Lib.hid hS
    clear hX hK hS
    have hne2 : some w.heap.size ≠ some D := fun e => by cases e; omega
    have hne3 : some (w.heap.size + 1) ≠ some D := fun e => by cases e; omega
    gi_wp2
    refine ⟨by simp, .inl ⟨_, _, rfl, run_takeDeferred HK.out, ?_⟩⟩
    have hV2 := (HX.out.b2.kept (grownBy_putObj' _ D (.deferred none)) hne2).cell
    have hV3 := (HX.out.b3.kept (grownBy_putObj' _ D (.deferred none)) hne3).cell
    refine ⟨.tuple #[.slice none 0 0, .int .i64 ec], by simp [results, Tryd.f13, go_sem, hV2, hV3], HX.out.below.grown (grownBy_putObj' _ D (.deferred none)) HX.out.below.size (fun k e => by cases e; omega), .inr ?_⟩
    obtain ⟨l', r, hdc, hr, he⟩ := HS.out
    rcases HX.out.why with ⟨rfl, qs', q', hle, he2⟩ | ⟨rfl, qs', q', hle, he2⟩
    · obtain ⟨h1, h2⟩ := snoc_inj (he.symm.trans he2)
      obtain rfl := oks_inj h1
      exact .inl ⟨l', r, hdc, hr, nxt_none h2, hle, rfl⟩
    · obtain ⟨h1, h2⟩ := snoc_inj (he.symm.trans he2)
      obtain rfl := oks_inj h1
      obtain ⟨q, k, h3⟩ := nxt_some h2
      exact .inr ⟨l', r, q, k, hdc, hr, h3, hle, rfl⟩
end Go.Proofs.YtebhbcbcnjdgjaaDoor.dk
