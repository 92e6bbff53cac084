/- The document's disk: one sector laid; Sync. -/
import Derived.Test.YticiaiiedagalaaPl22
namespace Go.Proofs.Yticiaiiedagalaa.dk
open Go.PlainAid Go.ChangeShapes Go.WideShapes Go.ChangeAt Go.RowKit

theorem own_set {w : World} {B : Nat} {t : TypeId} {g n c : Nat} {xs : List Value} (h : w.ownsRow B t 1 (.slice (some ⟨g, 0, none⟩) n c) n xs) (i : Nat) (v : Value) :
    (w.setCell ⟨g, i, none⟩ v).ownsRow B t 1 (.slice (some ⟨g, 0, none⟩) n c) n (xs.set i v) ∧ B ≤ g ∧ (∀ k, k ≠ g → (w.setCell ⟨g, i, none⟩ v).heap[k]? = w.heap[k]?) ∧ Below B w (w.setCell ⟨g, i, none⟩ v) := by
  rcases h.2 with ⟨hv, _⟩ | ⟨g', cap, cur, hv, hg, hh, hn, hcm, hcs, ht⟩
  · cases hv
  · injection hv with h1 h2 h3
    have hgg : g' = g := by injection h1 with h1; injection h1 with h1 _ _; exact h1.symm
    subst hgg
    subst h3
    rw [setCell_eq_setRow w g' i _ _ _ v hh]
    refine ⟨⟨by rw [List.length_set]; exact h.1, .inr ⟨g', c, _, rfl, hg, setRow_heap w g' _ _ _ _ hh, hn, hcm, by rw [Array.size_setIfInBounds]; exact hcs, ?_⟩⟩, hg, fun k hk => setRow_other w g' k _ hk, below_setRow (Below.refl _ _) hg _⟩
    rw [Array.toList_setIfInBounds, List.take_set, ht]
theorem scells_set (l : List (List Int)) (i : Nat) (b : List Int) : scells (l.set i b) = (scells l).set i (.string (strOf b)) := by
  unfold scells
  rw [List.map_set]
theorem RefAt.set_sec {B D g n c : Nat} {P : Value} {r : Rk} {W : World} (h : RefAt B D (.slice (some ⟨g, 0, none⟩) n c) P r W) (i : Nat) (b : List Int) (hb : b.length = 64) :
    RefAt B D (.slice (some ⟨g, 0, none⟩) n c) P { r with S := r.S.set i b } (W.setCell ⟨g, i, none⟩ (.string (strOf b))) ∧ Below B W (W.setCell ⟨g, i, none⟩ (.string (strOf b))) ∧ (∀ k, k ≠ g → (W.setCell ⟨g, i, none⟩ (.string (strOf b))).heap[k]? = W.heap[k]?) := by
  have hne := h.ne
  have hn : n = r.S.length := by
    rcases h.hS.2 with ⟨hv, _⟩ | ⟨g', cap, cur, hv, _⟩
    · cases hv
    · injection hv
  have hS := h.hS
  rw [← hn] at hS
  obtain ⟨o1, o2, o3, o4⟩ := own_set hS i (.string (strOf b))
  refine ⟨{ h with
    hD := by rw [o3 D (fun e => hne.1 (by rw [e]; rfl))]; exact h.hD
    hS := by
      rw [scells_set]
      show World.ownsRow _ _ _ _ _ (r.S.set i b).length _
      rw [List.length_set, ← hn]
      exact o1
    hP := own_block_keeps h.hP fun k hk => o3 k (fun e => hne.2.2 g rfl (by rw [hk, e]))
    n2 := by show (r.S.set i b).length ≤ 32; rw [List.length_set]; exact h.n2
    sw := fun s hs => by
      rcases List.mem_or_eq_of_mem_set hs with h1 | h1
      · exact h.sw s h1
      · rw [h1]; exact hb
    pw := fun x hx => by show x.1 < (r.S.set i b).length ∧ _; rw [List.length_set]; exact h.pw x hx }, o4, o3⟩
theorem RefAt.clear_pend {B D : Nat} {S P : Value} {r : Rk} {W : World} (h : RefAt B D S P r W) :
    RefAt B D S (.slice none 0 0) { r with P := [] } (W.setCell ⟨D, 1, none⟩ (.slice none 0 0)) ∧ Below B W (W.setCell ⟨D, 1, none⟩ (.slice none 0 0)) ∧ Fr D W (W.setCell ⟨D, 1, none⟩ (.slice none 0 0)) := by
  rw [setCell_eq_setRow W D 1 _ _ _ _ h.hD]
  have ho : ∀ k, k ≠ D → (W.setRow D ((rcells S P r).setIfInBounds 1 (.slice none 0 0))).heap[k]? = W.heap[k]? := fun k hk => setRow_other W D k _ hk
  refine ⟨{ h with
    hD := setRow_heap W D _ _ _ _ h.hD
    hS := own_block_keeps h.hS fun g hg => ho g (fun e => h.ne.1 (by rw [hg, e]))
    hP := World.ownsRow_nil _ _ _ _
    pl := Nat.zero_le _
    pw := fun x hx => by cases hx }, below_setRow (Below.refl _ _) h.bD _, ho⟩

def rlaid (S : List (List Int)) (p : List (Nat × List Int)) : List (List Int) := p.foldl (fun S x => S.set x.1 x.2) S
theorem rlaid_snoc (S : List (List Int)) (p : List (Nat × List Int)) (x : Nat × List Int) : rlaid S (p ++ [x]) = (rlaid S p).set x.1 x.2 := by simp [rlaid]
theorem rlaid_length (S : List (List Int)) : ∀ (p : List (Nat × List Int)), (rlaid S p).length = S.length := by
  intro p
  induction p generalizing S with
  | nil => rfl
  | cons x p ih => show (rlaid (S.set x.1 x.2) p).length = _; rw [ih, List.length_set]
set_option maxRecDepth 100000 in
theorem rSync_gone {B D : Nat} {S P : Value} {r : Rk} {w : World} (h : RefAt B D S P r w) (hd : r.gone = true) :
    Calls Try.prog 22 #[.pointer (some ⟨D, 0, none⟩)] w fun e w' => e = .returned (.int .i64 10) ∧ w = w' := by
  have k3 := h.cell 3
  simp only [rcells] at k3
  simp at k3
  rw [hd] at k3
  go_enter Try.func22, Try.ntmps22
  go_wp2
  go_ret
  exact ⟨rfl, rfl⟩
set_option maxRecDepth 100000 in
theorem rSync_stop {B D : Nat} {S P : Value} {r : Rk} {w : World} (h : RefAt B D S P r w) (hd : r.gone = false) (h0 : r.left = 0) :
    Calls Try.prog 22 #[.pointer (some ⟨D, 0, none⟩)] w fun e w' => e = .returned (.int .i64 10) ∧ RefAt B D S P { r with gone := true } w' ∧ Below B w w' ∧ Fr D w w' := by
  have k3 := h.cell 3
  have HS := Lib.hid (rspend_dead h h0)
  simp only [rcells] at k3
  simp at k3
  rw [hd] at k3
  go_enter Try.func22, Try.ntmps22
  go_wp2_with (go_at_call 47; with_reducible refine HS.out.mono ?_; rintro e w' ⟨rfl, hw⟩)
  go_ret
  exact ⟨rfl, hw⟩
set_option maxHeartbeats 4000000 in
set_option maxRecDepth 20000 in
theorem rSync_ok {B D : Nat} {S P : Value} {r : Rk} {w : World} (h : RefAt B D S P r w) (r1 : Rk) (hd : r.gone = false) (hs1 : r1.S = r.S) (hp1 : r1.P = r.P)
    (HS : Calls Try.prog 47 #[.pointer (some ⟨D, 0, none⟩)] w fun e w' => e = .returned (.bool true) ∧ RefAt B D S P r1 w' ∧ Below B w w' ∧ Fr D w w') :
    Calls Try.prog 22 #[.pointer (some ⟨D, 0, none⟩)] w fun e w' => e = .returned (.int .i64 0) ∧ RefAt B D S (.slice none 0 0) { r1 with S := rlaid r.S r.P, P := [] } w' ∧ Bf B (Xr D S P) w w' := by
  obtain ⟨q, qc, rfl⟩ := own_form h.hP
  have k3 := h.cell 3
  have HS := Lib.hid HS
  simp only [rcells] at k3
  simp at k3
  rw [hd] at k3
  go_enter Try.func22, Try.ntmps22
  go_wp2_with (go_at_call 47; with_reducible refine HS.out.mono ?_; rintro e w' ⟨rfl, hw⟩)
  obtain ⟨p, c, rfl⟩ := own_form h.hS
  have hr1 : r1 = { r1 with S := rlaid r.S (r.P.take 0) } := by rw [List.take_zero]; show r1 = { r1 with S := r.S }; rw [← hs1]
  have hnS : r.S.length ≤ 32 := h.n2
  have H0 := Lib.hid (show RefAt B D (.slice p r.S.length c) (.slice q r.P.length qc) { r1 with S := rlaid r.S (r.P.take 0) } w' by rw [← hr1]; exact hw.1)
  have HB0 := Lib.hid (Bf.one (X := Xr D (.slice p r.S.length c) (.slice q r.P.length qc)) hw.2.1 hw.2.2 (.inl rfl))
  have hpl := h.pl
  have hpw := Lib.hid h.pw
  clear hr1 hw h HS
  go_loopw [3] (fun i wr => ∃ (j : Nat), i = .int .i64 (j : Int) ∧ j ≤ r.P.length ∧ Hid (RefAt B D (.slice p r.S.length c) (.slice q r.P.length qc) { r1 with S := rlaid r.S (r.P.take j) } wr) ∧ Hid (Bf B (Xr D (.slice p r.S.length c) (.slice q r.P.length qc)) w wr)) (fun i _ => r.P.length - (intOf i).toNat)
  case atStart => exact ⟨0, rfl, Nat.zero_le _, H0.out, HB0.out⟩
  case round =>
    clear H0 HB0
    obtain ⟨j, rfl, hj, HR, HB⟩ := hrel
    by_cases hjn : j < r.P.length
    · have dj : decide ((j : Int) < (r.P.length : Int)) = true := decide_eq_true (by omega)
      obtain ⟨x, hx⟩ : ∃ x, x = r.P[j]'hjn := ⟨_, rfl⟩
      have hxw : x.1 < r.S.length ∧ x.2.length = 64 := by rw [hx]; exact hpw.out _ (List.getElem_mem hjn)
      have hts : rlaid r.S (r.P.take (j + 1)) = (rlaid r.S (r.P.take j)).set x.1 x.2 := by rw [List.take_succ_eq_append_getElem hjn, rlaid_snoc, ← hx]
      have HR := Lib.hid (HR.out.below ((Below.refl _ _).drew))
      have HB := Lib.hid (HB.out.trans (Bf.new ((Below.refl wr.heap.size wr).drew) (Nat.le_of_lt (Nat.lt_of_le_of_lt HR.out.bD HR.out.lt))))
      obtain ⟨pg, rfl, c0, c1⟩ := HR.out.pnd.2 j (by show j < r1.P.length; rw [hp1]; exact hjn)
      have e1 : (({ r1 with S := rlaid r.S (r.P.take j) } : Rk).P[j]'(by show j < r1.P.length; rw [hp1]; exact hjn)) = x := by
        rw [hx]
        show r1.P[j]'_ = _
        simp only [hp1]
      rw [e1] at c0 c1
      obtain ⟨g, rfl, hjunk, cs⟩ := HR.out.sec x.1 (by show x.1 < (rlaid r.S (r.P.take j)).length; rw [rlaid_length]; exact hxw.1)
      clear hjunk
      obtain ⟨T1, T2, T3⟩ := HR.out.set_sec x.1 x.2 hxw.2
      obtain ⟨cur, hcur⟩ := own_type HR.out.hS (g := g) rfl
      have fz : wr.drew.frozen? ⟨g, x.1, none⟩ = false := frozen_of_row _ _ _ _ _ hcur
      have k0 := HR.out.cell 0
      have k1 := HR.out.cell 1
      simp only [rcells] at k0 k1
      simp at k0 k1
      have HT := Lib.hid (show RefAt B D (.slice (some ⟨g, 0, none⟩) r.S.length c) (.slice (some ⟨pg, 0, none⟩) r.P.length qc) { r1 with S := rlaid r.S (r.P.take (j + 1)) } (wr.drew.setCell ⟨g, x.1, none⟩ (.string (strOf x.2))) by rw [hts]; exact T1)
      have HB2 := Lib.hid (HB.out.trans (⟨T2, fun k _ hk => T3 k (fun e => hk (.inr (.inl (by rw [e]; rfl))))⟩ : Bf B (Xr D (.slice (some ⟨g, 0, none⟩) r.S.length c) (.slice (some ⟨pg, 0, none⟩) r.P.length qc)) wr.drew _))
      have hx1 := hxw.1
      have dx : decide ((x.1 : Int) < (r.S.length : Int)) = true := decide_eq_true (by omega)
      have hpg : pg ≠ g := fun e => HR.out.ne.2.2 g rfl (by rw [← e]; rfl)
      have k0' := T1.cell 0
      have k1' := T1.cell 1
      have c0' := (World.cell?_of_block (a := ⟨pg, j * 2, none⟩) (T3 pg hpg)).trans c0
      have c1' := (World.cell?_of_block (a := ⟨pg, j * 2 + 1, none⟩) (T3 pg hpg)).trans c1
      simp only [rcells] at k0' k1'
      simp only [List.getElem?_toArray, List.getElem?_cons_zero, List.getElem?_cons_succ] at k0' k1'
      generalize strOf x.2 = z at *
      have hT2 : Hid ((fun W : World => W.cell? ⟨D, 0, none⟩ = some (.slice (some ⟨g, 0, none⟩) r.S.length c) ∧ W.cell? ⟨D, 1, none⟩ = some (.slice (some ⟨pg, 0, none⟩) r.P.length qc) ∧ W.cell? ⟨pg, j * 2, none⟩ = some (.int .i64 (x.1 : Int)) ∧ W.cell? ⟨pg, j * 2 + 1, none⟩ = some (.string z)) (wr.drew.setCell ⟨g, x.1, none⟩ (.string z))) := ⟨k0', k1', c0', c1'⟩
      clear k0' k1' c0' c1' hpg
      clear T1 T2 T3 hcur hts e1 HR HB hx hxw
      have hT : (fun W : World => W.cell? ⟨D, 0, none⟩ = some (.slice (some ⟨g, 0, none⟩) r.S.length c) ∧ W.cell? ⟨D, 1, none⟩ = some (.slice (some ⟨pg, 0, none⟩) r.P.length qc) ∧ W.cell? ⟨pg, j * 2, none⟩ = some (.int .i64 (x.1 : Int)) ∧ W.cell? ⟨pg, j * 2 + 1, none⟩ = some (.string z)) wr.drew := ⟨k0, k1, c0, c1⟩
      go_wp2_with fail
      refine wp_region_held_drew (S := fun W => W.cell? ⟨D, 0, none⟩ = some (.slice (some ⟨g, 0, none⟩) r.S.length c) ∧ W.cell? ⟨D, 1, none⟩ = some (.slice (some ⟨pg, 0, none⟩) r.P.length qc) ∧ W.cell? ⟨pg, j * 2, none⟩ = some (.int .i64 (x.1 : Int)) ∧ W.cell? ⟨pg, j * 2 + 1, none⟩ = some (.string z)) (by kernel_rfl) hT (fun hHeld => ?_)
      clear hHeld k0 k1 c0 c1
      refine wpAnyH_take (i := 0) (oi := { dst := some 22, op := Op.move (Operand.tmp 0), type := 29, pos := "ref.go:88", after := #[], guard := none }) (v := ?_) rfl (by kernel_rfl) (by kernel_rfl) (by kernel_rfl) (fun _ _ _ h => h) (Or.inl ⟨by rfl, ?_⟩) (by assumption) ?_
      rotate_left
      · intro w hSw
        try dsimp only at hSw
        go_simp
        try with_reducible rfl
      try simp only [Act.put, List.setIfInBounds_toArray, List.set_cons_zero, List.set_cons_succ]
      refine wpAnyH_take (i := 1) (oi := { dst := some 23, op := Op.nilCheck (Operand.tmp 22), type := 0, pos := "ref.go:88", after := #[{ on := 0, ground := Ground.data }], guard := none }) (v := ?_) rfl (by kernel_rfl) (by kernel_rfl) (by kernel_rfl) (fun _ _ _ h => h) (Or.inl ⟨by rfl, ?_⟩) (by assumption) ?_
      rotate_left
      · intro w hSw
        try dsimp only at hSw
        go_simp
        try with_reducible rfl
      try simp only [Act.put, List.setIfInBounds_toArray, List.set_cons_zero, List.set_cons_succ]
      refine wpAnyH_take (i := 2) (oi := { dst := some 24, op := Op.fieldAddr 44 (Operand.tmp 23) 0, type := 0, pos := "ref.go:88", after := #[{ on := 1, ground := Ground.data }], guard := none }) (v := ?_) rfl (by kernel_rfl) (by kernel_rfl) (by kernel_rfl) (fun _ _ _ h => h) (Or.inl ⟨by rfl, ?_⟩) (by assumption) ?_
      rotate_left
      · intro w hSw
        try dsimp only at hSw
        go_simp
        try with_reducible rfl
      try simp only [Act.put, List.setIfInBounds_toArray, List.set_cons_zero, List.set_cons_succ]
      refine wpAnyH_take (i := 3) (oi := { dst := some 25, op := Op.load 41 (Operand.tmp 24), type := 41, pos := "ref.go:88", after := #[{ on := 2, ground := Ground.data }], guard := none }) (v := ?_) rfl (by kernel_rfl) (by kernel_rfl) (by kernel_rfl) (fun _ _ _ h => h) (Or.inl ⟨by rfl, ?_⟩) (by assumption) ?_
      rotate_left
      · intro w hSw
        try dsimp only at hSw
        go_simp
        try with_reducible rfl
      try simp only [Act.put, List.setIfInBounds_toArray, List.set_cons_zero, List.set_cons_succ]
      refine wpAnyH_take (i := 4) (oi := { dst := some 26, op := Op.move (Operand.tmp 0), type := 29, pos := "ref.go:88", after := #[], guard := none }) (v := ?_) rfl (by kernel_rfl) (by kernel_rfl) (by kernel_rfl) (fun _ _ _ h => h) (Or.inl ⟨by rfl, ?_⟩) (by assumption) ?_
      rotate_left
      · intro w hSw
        try dsimp only at hSw
        go_simp
        try with_reducible rfl
      try simp only [Act.put, List.setIfInBounds_toArray, List.set_cons_zero, List.set_cons_succ]
      refine wpAnyH_take (i := 5) (oi := { dst := some 27, op := Op.nilCheck (Operand.tmp 26), type := 0, pos := "ref.go:88", after := #[{ on := 4, ground := Ground.data }], guard := none }) (v := ?_) rfl (by kernel_rfl) (by kernel_rfl) (by kernel_rfl) (fun _ _ _ h => h) (Or.inl ⟨by rfl, ?_⟩) (by assumption) ?_
      rotate_left
      · intro w hSw
        try dsimp only at hSw
        go_simp
        try with_reducible rfl
      try simp only [Act.put, List.setIfInBounds_toArray, List.set_cons_zero, List.set_cons_succ]
      refine wpAnyH_take (i := 6) (oi := { dst := some 28, op := Op.fieldAddr 44 (Operand.tmp 27) 1, type := 0, pos := "ref.go:88", after := #[{ on := 5, ground := Ground.data }], guard := none }) (v := ?_) rfl (by kernel_rfl) (by kernel_rfl) (by kernel_rfl) (fun _ _ _ h => h) (Or.inl ⟨by rfl, ?_⟩) (by assumption) ?_
      rotate_left
      · intro w hSw
        try dsimp only at hSw
        go_simp
        try with_reducible rfl
      try simp only [Act.put, List.setIfInBounds_toArray, List.set_cons_zero, List.set_cons_succ]
      refine wpAnyH_take (i := 7) (oi := { dst := some 29, op := Op.load 42 (Operand.tmp 28), type := 42, pos := "ref.go:88", after := #[{ on := 6, ground := Ground.data }], guard := none }) (v := ?_) rfl (by kernel_rfl) (by kernel_rfl) (by kernel_rfl) (fun _ _ _ h => h) (Or.inl ⟨by rfl, ?_⟩) (by assumption) ?_
      rotate_left
      · intro w hSw
        try dsimp only at hSw
        go_simp
        try with_reducible rfl
      try simp only [Act.put, List.setIfInBounds_toArray, List.set_cons_zero, List.set_cons_succ]
      refine wpAnyH_take (i := 8) (oi := { dst := some 30, op := Op.move (Operand.tmp 3), type := 3, pos := "ref.go:88", after := #[], guard := none }) (v := ?_) rfl (by kernel_rfl) (by kernel_rfl) (by kernel_rfl) (fun _ _ _ h => h) (Or.inl ⟨by rfl, ?_⟩) (by assumption) ?_
      rotate_left
      · intro w hSw
        try dsimp only at hSw
        go_simp
        try with_reducible rfl
      try simp only [Act.put, List.setIfInBounds_toArray, List.set_cons_zero, List.set_cons_succ]
      refine wpAnyH_take (i := 9) (oi := { dst := some 31, op := Op.indexAddr 42 (Operand.tmp 29) (Operand.tmp 30), type := 0, pos := "ref.go:88", after := #[{ on := 7, ground := Ground.data }, { on := 8, ground := Ground.data }], guard := none }) (v := ?_) rfl (by kernel_rfl) (by kernel_rfl) (by kernel_rfl) (fun _ _ _ h => h) (Or.inl ⟨by rfl, ?_⟩) (by assumption) ?_
      rotate_left
      · intro w hSw
        try dsimp only at hSw
        go_simp
        try with_reducible rfl
      try simp only [Act.put, List.setIfInBounds_toArray, List.set_cons_zero, List.set_cons_succ]
      refine wpAnyH_take (i := 10) (oi := { dst := some 32, op := Op.fieldAddr 93 (Operand.tmp 31) 0, type := 0, pos := "ref.go:88", after := #[{ on := 9, ground := Ground.data }], guard := none }) (v := ?_) rfl (by kernel_rfl) (by kernel_rfl) (by kernel_rfl) (fun _ _ _ h => h) (Or.inl ⟨by rfl, ?_⟩) (by assumption) ?_
      rotate_left
      · intro w hSw
        try dsimp only at hSw
        go_simp
        try with_reducible rfl
      try simp only [Act.put, List.setIfInBounds_toArray, List.set_cons_zero, List.set_cons_succ]
      refine wpAnyH_take (i := 11) (oi := { dst := some 33, op := Op.load 3 (Operand.tmp 32), type := 3, pos := "ref.go:88", after := #[{ on := 10, ground := Ground.data }], guard := none }) (v := ?_) rfl (by kernel_rfl) (by kernel_rfl) (by kernel_rfl) (fun _ _ _ h => h) (Or.inl ⟨by rfl, ?_⟩) (by assumption) ?_
      rotate_left
      · intro w hSw
        try dsimp only at hSw
        go_simp
        try with_reducible rfl
      try simp only [Act.put, List.setIfInBounds_toArray, List.set_cons_zero, List.set_cons_succ]
      refine wpAnyH_take (i := 12) (oi := { dst := some 34, op := Op.move (Operand.tmp 0), type := 29, pos := "ref.go:88", after := #[], guard := none }) (v := ?_) rfl (by kernel_rfl) (by kernel_rfl) (by kernel_rfl) (fun _ _ _ h => h) (Or.inl ⟨by rfl, ?_⟩) (by assumption) ?_
      rotate_left
      · intro w hSw
        try dsimp only at hSw
        go_simp
        try with_reducible rfl
      try simp only [Act.put, List.setIfInBounds_toArray, List.set_cons_zero, List.set_cons_succ]
      refine wpAnyH_take (i := 13) (oi := { dst := some 35, op := Op.nilCheck (Operand.tmp 34), type := 0, pos := "ref.go:88", after := #[{ on := 12, ground := Ground.data }], guard := none }) (v := ?_) rfl (by kernel_rfl) (by kernel_rfl) (by kernel_rfl) (fun _ _ _ h => h) (Or.inl ⟨by rfl, ?_⟩) (by assumption) ?_
      rotate_left
      · intro w hSw
        try dsimp only at hSw
        go_simp
        try with_reducible rfl
      try simp only [Act.put, List.setIfInBounds_toArray, List.set_cons_zero, List.set_cons_succ]
      refine wpAnyH_take (i := 14) (oi := { dst := some 36, op := Op.fieldAddr 44 (Operand.tmp 35) 1, type := 0, pos := "ref.go:88", after := #[{ on := 13, ground := Ground.data }], guard := none }) (v := ?_) rfl (by kernel_rfl) (by kernel_rfl) (by kernel_rfl) (fun _ _ _ h => h) (Or.inl ⟨by rfl, ?_⟩) (by assumption) ?_
      rotate_left
      · intro w hSw
        try dsimp only at hSw
        go_simp
        try with_reducible rfl
      try simp only [Act.put, List.setIfInBounds_toArray, List.set_cons_zero, List.set_cons_succ]
      refine wpAnyH_take (i := 15) (oi := { dst := some 37, op := Op.load 42 (Operand.tmp 36), type := 42, pos := "ref.go:88", after := #[{ on := 14, ground := Ground.data }], guard := none }) (v := ?_) rfl (by kernel_rfl) (by kernel_rfl) (by kernel_rfl) (fun _ _ _ h => h) (Or.inl ⟨by rfl, ?_⟩) (by assumption) ?_
      rotate_left
      · intro w hSw
        try dsimp only at hSw
        go_simp
        try with_reducible rfl
      try simp only [Act.put, List.setIfInBounds_toArray, List.set_cons_zero, List.set_cons_succ]
      refine wpAnyH_take (i := 16) (oi := { dst := some 38, op := Op.move (Operand.tmp 3), type := 3, pos := "ref.go:88", after := #[], guard := none }) (v := ?_) rfl (by kernel_rfl) (by kernel_rfl) (by kernel_rfl) (fun _ _ _ h => h) (Or.inl ⟨by rfl, ?_⟩) (by assumption) ?_
      rotate_left
      · intro w hSw
        try dsimp only at hSw
        go_simp
        try with_reducible rfl
      try simp only [Act.put, List.setIfInBounds_toArray, List.set_cons_zero, List.set_cons_succ]
      refine wpAnyH_take (i := 17) (oi := { dst := some 39, op := Op.indexAddr 42 (Operand.tmp 37) (Operand.tmp 38), type := 0, pos := "ref.go:88", after := #[{ on := 15, ground := Ground.data }, { on := 16, ground := Ground.data }], guard := none }) (v := ?_) rfl (by kernel_rfl) (by kernel_rfl) (by kernel_rfl) (fun _ _ _ h => h) (Or.inl ⟨by rfl, ?_⟩) (by assumption) ?_
      rotate_left
      · intro w hSw
        try dsimp only at hSw
        go_simp
        try with_reducible rfl
      try simp only [Act.put, List.setIfInBounds_toArray, List.set_cons_zero, List.set_cons_succ]
      refine wpAnyH_take (i := 18) (oi := { dst := some 40, op := Op.fieldAddr 93 (Operand.tmp 39) 1, type := 0, pos := "ref.go:88", after := #[{ on := 17, ground := Ground.data }], guard := none }) (v := ?_) rfl (by kernel_rfl) (by kernel_rfl) (by kernel_rfl) (fun _ _ _ h => h) (Or.inl ⟨by rfl, ?_⟩) (by assumption) ?_
      rotate_left
      · intro w hSw
        try dsimp only at hSw
        go_simp
        try with_reducible rfl
      try simp only [Act.put, List.setIfInBounds_toArray, List.set_cons_zero, List.set_cons_succ]
      refine wpAnyH_take (i := 19) (oi := { dst := some 41, op := Op.load 9 (Operand.tmp 40), type := 9, pos := "ref.go:88", after := #[{ on := 18, ground := Ground.data }], guard := none }) (v := ?_) rfl (by kernel_rfl) (by kernel_rfl) (by kernel_rfl) (fun _ _ _ h => h) (Or.inl ⟨by rfl, ?_⟩) (by assumption) ?_
      rotate_left
      · intro w hSw
        try dsimp only at hSw
        go_simp
        try with_reducible rfl
      try simp only [Act.put, List.setIfInBounds_toArray, List.set_cons_zero, List.set_cons_succ]
      refine wpAnyH_take (i := 20) (oi := { dst := some 42, op := Op.indexAddr 41 (Operand.tmp 25) (Operand.tmp 33), type := 0, pos := "ref.go:88", after := #[{ on := 3, ground := Ground.data }, { on := 11, ground := Ground.data }, { on := 0, ground := Ground.phase }, { on := 1, ground := Ground.phase }, { on := 2, ground := Ground.phase }, { on := 3, ground := Ground.phase }, { on := 4, ground := Ground.phase }, { on := 5, ground := Ground.phase }, { on := 6, ground := Ground.phase }, { on := 7, ground := Ground.phase }, { on := 8, ground := Ground.phase }, { on := 9, ground := Ground.phase }, { on := 10, ground := Ground.phase }, { on := 11, ground := Ground.phase }, { on := 12, ground := Ground.phase }, { on := 13, ground := Ground.phase }, { on := 14, ground := Ground.phase }, { on := 15, ground := Ground.phase }, { on := 16, ground := Ground.phase }, { on := 17, ground := Ground.phase }, { on := 18, ground := Ground.phase }, { on := 19, ground := Ground.phase }], guard := none }) (v := ?_) rfl (by kernel_rfl) (by kernel_rfl) (by kernel_rfl) (fun _ _ _ h => h) (Or.inl ⟨by rfl, ?_⟩) (by assumption) ?_
      rotate_left
      · intro w hSw
        try dsimp only at hSw
        go_simp
        try with_reducible rfl
      try simp only [Act.put, List.setIfInBounds_toArray, List.set_cons_zero, List.set_cons_succ]
      refine wpAnyH_ready (rs := [21]) (by kernel_rfl) (by simp) ?_
      refine AllReadyH.cons (o := { dst := none, op := Op.store 9 (Operand.tmp 42) (Operand.tmp 41), type := 0, pos := "ref.go:88", after := #[{ on := 20, ground := Ground.data }, { on := 19, ground := Ground.data }, { on := 0, ground := Ground.phase }, { on := 1, ground := Ground.phase }, { on := 2, ground := Ground.phase }, { on := 3, ground := Ground.phase }, { on := 4, ground := Ground.phase }, { on := 5, ground := Ground.phase }, { on := 6, ground := Ground.phase }, { on := 7, ground := Ground.phase }, { on := 8, ground := Ground.phase }, { on := 9, ground := Ground.phase }, { on := 10, ground := Ground.phase }, { on := 11, ground := Ground.phase }, { on := 12, ground := Ground.phase }, { on := 13, ground := Ground.phase }, { on := 14, ground := Ground.phase }, { on := 15, ground := Ground.phase }, { on := 16, ground := Ground.phase }, { on := 17, ground := Ground.phase }, { on := 18, ground := Ground.phase }, { on := 19, ground := Ground.phase }], guard := none }) rfl (fun K hK => ?_) AllReadyH.nil
      go_simp
      refine hK.out _ _ hT2.out (fun _ => ?_)
      clear hK K
      try simp only [Act.put, List.setIfInBounds_toArray, List.set_cons_zero, List.set_cons_succ]
      refine wpAnyH_done (by kernel_rfl) ?_ _
      go_wp2
      constructor
      · exact ⟨j + 1, by go_num, by omega, HT.out, HB2.out⟩
      · show r.P.length - ((j : Int) + 1).toNat < r.P.length - (j : Int).toNat
        omega
    · have dj : decide ((j : Int) < (r.P.length : Int)) = false := decide_eq_false (by omega)
      have htk : r.P.take j = r.P := List.take_of_length_le (by omega)
      rw [htk] at HR
      have k1 := HR.out.cell 1
      have f1 := HR.out.frozen 1
      simp only [rcells] at k1
      simp at k1
      obtain ⟨T1, T2, T3⟩ := HR.out.clear_pend
      have HT := Lib.hid T1
      have HB2 := Lib.hid (HB.out.trans (Bf.one (X := Xr D (.slice p r.S.length c) (.slice q r.P.length qc)) T2 T3 (.inl rfl)))
      clear T1 T2 T3 HR HB htk
      go_wp2
      go_ret
      exact ⟨rfl, HT.out, HB2.out⟩
end Go.Proofs.Yticiaiiedagalaa.dk
