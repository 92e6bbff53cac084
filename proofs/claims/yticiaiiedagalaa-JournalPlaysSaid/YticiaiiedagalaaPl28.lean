/- The document's Reopen. -/
import Derived.Test.YticiaiiedagalaaPl27
import Derived.Test.YticiaiiedagalaaPl23
import Derived.Test.YticiaiiedagalaaPl8
namespace Go.Proofs.Yticiaiiedagalaa.dk
open Go.PlainAid Go.ChangeShapes Go.WideShapes Go.ChangeAt Go.RowKit

def rkept (kb : List Bool) (S : List (List Int)) (p : List (Nat × List Int)) : List (List Int) := p.zipIdx.foldl (fun S x => if kb.getD x.2 false = true then S.set x.1.1 x.1.2 else S) S
theorem rkept_snoc (kb : List Bool) (S : List (List Int)) (p : List (Nat × List Int)) (x : Nat × List Int) : rkept kb S (p ++ [x]) = if kb.getD p.length false = true then (rkept kb S p).set x.1 x.2 else rkept kb S p := by
  unfold rkept
  rw [List.zipIdx_append, List.foldl_append]
  simp
theorem rkept_length (kb : List Bool) (S : List (List Int)) : ∀ (n : Nat) (p : List (Nat × List Int)), p.length = n → (rkept kb S p).length = S.length
  | 0, p, h => by
    obtain rfl := List.length_eq_zero_iff.1 h
    rfl
  | n + 1, p, h => by
    rcases List.eq_nil_or_concat p with rfl | ⟨p', x, rfl⟩
    · rfl
    rw [List.concat_eq_append] at h ⊢
    rw [rkept_snoc]
    have := rkept_length kb S n p' (by rw [List.length_append, List.length_singleton] at h; omega)
    split
    · rw [List.length_set]; exact this
    · exact this
/-- Behind the keep's end nothing is kept. -/
theorem rkept_past (kb : List Bool) (S : List (List Int)) (p : List (Nat × List Int)) : ∀ (k : Nat), kb.length ≤ p.length - k → k ≤ p.length → rkept kb S p = rkept kb S (p.take (p.length - k)) := by
  intro k
  induction k with
  | zero => intro _ _; rw [Nat.sub_zero, List.take_length]
  | succ k ih =>
    intro h hk
    rw [ih (by omega) (by omega)]
    have hlt : p.length - (k + 1) < p.length := by omega
    rw [show p.length - k = p.length - (k + 1) + 1 by omega, List.take_succ_eq_append_getElem hlt, rkept_snoc, if_neg]
    rw [List.length_take, Nat.min_eq_left (by omega), List.getD_eq_getElem?_getD, List.getElem?_eq_none h]
    simp

set_option maxHeartbeats 4000000 in
set_option maxRecDepth 20000 in
theorem rReopen_any {B D : Nat} {S P : Value} {r : Rk} {w : World} (h : RefAt B D S P r w) (ka : Option Addr) (kn kc : Nat) (kb : List Bool) (hkb : Kb B w ka kn kb) :
    Calls Try.prog 18 #[.pointer (some ⟨D, 0, none⟩), .slice ka kn kc] w fun e w' => e = .returned (.tuple #[]) ∧ RefAt B D S (.slice none 0 0) { r with S := rkept kb r.S r.P, P := [], gone := false, left := -1 } w' ∧ Bf B (Xr D S P) w w' := by
  obtain ⟨q, qc, rfl⟩ := own_form h.hP
  obtain ⟨p, c, rfl⟩ := own_form h.hS
  have hnS : r.S.length ≤ 32 := h.n2
  have H0 := Lib.hid (show RefAt B D (.slice p r.S.length c) (.slice q r.P.length qc) { r with S := rkept kb r.S (r.P.take 0) } w from h)
  have hpl := h.pl
  have hpw := Lib.hid h.pw
  have HK := Lib.hid hkb
  have hkl := hkb.1
  clear h hkb
  go_enter Try.func18, Try.ntmps18
  go_wp2_with fail
  go_loopw [4] (fun i wr => ∃ (j : Nat), i = .int .i64 (j : Int) ∧ j ≤ r.P.length ∧ j ≤ kn ∧ Hid (RefAt B D (.slice p r.S.length c) (.slice q r.P.length qc) { r with S := rkept kb r.S (r.P.take j) } wr) ∧ Hid (Bf B (Xr D (.slice p r.S.length c) (.slice q r.P.length qc)) w wr)) (fun i _ => r.P.length - (intOf i).toNat)
  case atStart => exact ⟨0, rfl, Nat.zero_le _, Nat.zero_le _, H0.out, Bf.refl _ _ _⟩
  case round =>
    clear H0
    obtain ⟨j, rfl, hj, hjk, HR, HB⟩ := hrel
    have hKw := HK.out.below HB.out.below
    by_cases hjn : j < r.P.length ∧ j < kn
    · obtain ⟨hjn, hjk2⟩ := hjn
      have dj : decide ((j : Int) < (r.P.length : Int)) = true := decide_eq_true (by omega)
      have dk : decide ((j : Int) < (kn : Int)) = true := decide_eq_true (by omega)
      obtain ⟨kbk, ko, rfl, hkB, hkc⟩ := hKw.2 (by omega)
      have ck := hkc j hjk2
      clear hkc hKw
      have k1 := HR.out.cell 1
      simp only [rcells] at k1
      simp at k1
      cases hkk : kb.getD j false with
      | true =>
        rw [hkk] at ck
        go_wp2_with fail
        clear ck k1
        obtain ⟨x, hx⟩ : ∃ x, x = r.P[j]'hjn := ⟨_, rfl⟩
        have hxw : x.1 < r.S.length ∧ x.2.length = 64 := by rw [hx]; exact hpw.out _ (List.getElem_mem hjn)
        have hts : rkept kb r.S (r.P.take (j + 1)) = (rkept kb r.S (r.P.take j)).set x.1 x.2 := by
          rw [List.take_succ_eq_append_getElem hjn, rkept_snoc, List.length_take, Nat.min_eq_left (by omega), hkk, ← hx]
          exact if_pos rfl
        have HR := Lib.hid (HR.out.below ((Below.refl _ _).drew))
        have HB := Lib.hid (HB.out.trans (Bf.new ((Below.refl wr.heap.size wr).drew) (Nat.le_of_lt (Nat.lt_of_le_of_lt HR.out.bD HR.out.lt))))
        obtain ⟨pg, rfl, c0, c1⟩ := HR.out.pnd.2 j (by exact hjn)
        have e1 : (({ r with S := rkept kb r.S (r.P.take j) } : Rk).P[j]'hjn) = x := hx.symm
        rw [e1] at c0 c1
        obtain ⟨g, rfl, hjunk, cs⟩ := HR.out.sec x.1 (by show x.1 < (rkept kb r.S (r.P.take j)).length; rw [rkept_length kb r.S _ _ rfl]; exact hxw.1)
        clear hjunk
        obtain ⟨T1, T2, T3⟩ := HR.out.set_sec x.1 x.2 hxw.2
        obtain ⟨cur, hcur⟩ := own_type HR.out.hS (g := g) rfl
        have fz : wr.drew.frozen? ⟨g, x.1, none⟩ = false := frozen_of_row _ _ _ _ _ hcur
        have k0 := HR.out.cell 0
        have k1 := HR.out.cell 1
        simp only [rcells] at k0 k1
        simp at k0 k1
        have HT := Lib.hid (show RefAt B D (.slice (some ⟨g, 0, none⟩) r.S.length c) (.slice (some ⟨pg, 0, none⟩) r.P.length qc) { r with S := rkept kb r.S (r.P.take (j + 1)) } (wr.drew.setCell ⟨g, x.1, none⟩ (.string (strOf x.2))) by rw [hts]; exact T1)
        have HB2 := Lib.hid (HB.out.trans (⟨T2, fun k _ hk => T3 k (fun e => hk (.inr (.inl (by rw [e]; rfl))))⟩ : Bf B (Xr D (.slice (some ⟨g, 0, none⟩) r.S.length c) (.slice (some ⟨pg, 0, none⟩) r.P.length qc)) wr.drew _))
        have hx1 := hxw.1
        have dx : decide ((x.1 : Int) < (r.S.length : Int)) = true := decide_eq_true (by omega)
        have hpg : pg ≠ g := fun e => HR.out.ne.2.2 g rfl (by rw [← e]; rfl)
        have k0' := T1.cell 0
        have k1' := T1.cell 1
        have c0' := (World.cell?_of_block (a := ⟨pg, j * 2, none⟩) (T3 pg hpg)).trans c0
        have c1' := (World.cell?_of_block (a := ⟨pg, j * 2 + 1, none⟩) (T3 pg hpg)).trans c1
        simp only [rcells] at k0' k1'
        simp only [List.getElem?_toArray, List.getElem?_cons_zero, List.getElem?_cons_succ] at k0' k1'
        generalize strOf x.2 = z at *
        have hT2 : Hid ((fun W : World => W.cell? ⟨D, 0, none⟩ = some (.slice (some ⟨g, 0, none⟩) r.S.length c) ∧ W.cell? ⟨D, 1, none⟩ = some (.slice (some ⟨pg, 0, none⟩) r.P.length qc) ∧ W.cell? ⟨pg, j * 2, none⟩ = some (.int .i64 (x.1 : Int)) ∧ W.cell? ⟨pg, j * 2 + 1, none⟩ = some (.string z)) (wr.drew.setCell ⟨g, x.1, none⟩ (.string z))) := ⟨k0', k1', c0', c1'⟩
        clear k0' k1' c0' c1' hpg
        clear T1 T2 T3 hcur hts e1 HR HB hx hxw
        have hT : (fun W : World => W.cell? ⟨D, 0, none⟩ = some (.slice (some ⟨g, 0, none⟩) r.S.length c) ∧ W.cell? ⟨D, 1, none⟩ = some (.slice (some ⟨pg, 0, none⟩) r.P.length qc) ∧ W.cell? ⟨pg, j * 2, none⟩ = some (.int .i64 (x.1 : Int)) ∧ W.cell? ⟨pg, j * 2 + 1, none⟩ = some (.string z)) wr.drew := ⟨k0, k1, c0, c1⟩
        refine wp_region_held_drew (S := fun W => W.cell? ⟨D, 0, none⟩ = some (.slice (some ⟨g, 0, none⟩) r.S.length c) ∧ W.cell? ⟨D, 1, none⟩ = some (.slice (some ⟨pg, 0, none⟩) r.P.length qc) ∧ W.cell? ⟨pg, j * 2, none⟩ = some (.int .i64 (x.1 : Int)) ∧ W.cell? ⟨pg, j * 2 + 1, none⟩ = some (.string z)) (by kernel_rfl) hT (fun hHeld => ?_)
        clear hHeld k0 k1 c0 c1
        refine wpAnyH_take (i := 0) (oi := { dst := some 24, op := Op.move (Operand.tmp 0), type := 29, pos := "ref.go:101", after := #[], guard := none }) (v := ?_) rfl (by kernel_rfl) (by kernel_rfl) (by kernel_rfl) (fun _ _ _ h => h) (Or.inl ⟨by rfl, ?_⟩) (by assumption) ?_
        rotate_left
        · intro w hSw
          try dsimp only at hSw
          go_simp
          try with_reducible rfl
        try simp only [Act.put, List.setIfInBounds_toArray, List.set_cons_zero, List.set_cons_succ]
        refine wpAnyH_take (i := 1) (oi := { dst := some 25, op := Op.nilCheck (Operand.tmp 24), type := 0, pos := "ref.go:101", after := #[{ on := 0, ground := Ground.data }], guard := none }) (v := ?_) rfl (by kernel_rfl) (by kernel_rfl) (by kernel_rfl) (fun _ _ _ h => h) (Or.inl ⟨by rfl, ?_⟩) (by assumption) ?_
        rotate_left
        · intro w hSw
          try dsimp only at hSw
          go_simp
          try with_reducible rfl
        try simp only [Act.put, List.setIfInBounds_toArray, List.set_cons_zero, List.set_cons_succ]
        refine wpAnyH_take (i := 2) (oi := { dst := some 26, op := Op.fieldAddr 44 (Operand.tmp 25) 0, type := 0, pos := "ref.go:101", after := #[{ on := 1, ground := Ground.data }], guard := none }) (v := ?_) rfl (by kernel_rfl) (by kernel_rfl) (by kernel_rfl) (fun _ _ _ h => h) (Or.inl ⟨by rfl, ?_⟩) (by assumption) ?_
        rotate_left
        · intro w hSw
          try dsimp only at hSw
          go_simp
          try with_reducible rfl
        try simp only [Act.put, List.setIfInBounds_toArray, List.set_cons_zero, List.set_cons_succ]
        refine wpAnyH_take (i := 3) (oi := { dst := some 27, op := Op.load 41 (Operand.tmp 26), type := 41, pos := "ref.go:101", after := #[{ on := 2, ground := Ground.data }], guard := none }) (v := ?_) rfl (by kernel_rfl) (by kernel_rfl) (by kernel_rfl) (fun _ _ _ h => h) (Or.inl ⟨by rfl, ?_⟩) (by assumption) ?_
        rotate_left
        · intro w hSw
          try dsimp only at hSw
          go_simp
          try with_reducible rfl
        try simp only [Act.put, List.setIfInBounds_toArray, List.set_cons_zero, List.set_cons_succ]
        refine wpAnyH_take (i := 4) (oi := { dst := some 28, op := Op.move (Operand.tmp 0), type := 29, pos := "ref.go:101", after := #[], guard := none }) (v := ?_) rfl (by kernel_rfl) (by kernel_rfl) (by kernel_rfl) (fun _ _ _ h => h) (Or.inl ⟨by rfl, ?_⟩) (by assumption) ?_
        rotate_left
        · intro w hSw
          try dsimp only at hSw
          go_simp
          try with_reducible rfl
        try simp only [Act.put, List.setIfInBounds_toArray, List.set_cons_zero, List.set_cons_succ]
        refine wpAnyH_take (i := 5) (oi := { dst := some 29, op := Op.nilCheck (Operand.tmp 28), type := 0, pos := "ref.go:101", after := #[{ on := 4, ground := Ground.data }], guard := none }) (v := ?_) rfl (by kernel_rfl) (by kernel_rfl) (by kernel_rfl) (fun _ _ _ h => h) (Or.inl ⟨by rfl, ?_⟩) (by assumption) ?_
        rotate_left
        · intro w hSw
          try dsimp only at hSw
          go_simp
          try with_reducible rfl
        try simp only [Act.put, List.setIfInBounds_toArray, List.set_cons_zero, List.set_cons_succ]
        refine wpAnyH_take (i := 6) (oi := { dst := some 30, op := Op.fieldAddr 44 (Operand.tmp 29) 1, type := 0, pos := "ref.go:101", after := #[{ on := 5, ground := Ground.data }], guard := none }) (v := ?_) rfl (by kernel_rfl) (by kernel_rfl) (by kernel_rfl) (fun _ _ _ h => h) (Or.inl ⟨by rfl, ?_⟩) (by assumption) ?_
        rotate_left
        · intro w hSw
          try dsimp only at hSw
          go_simp
          try with_reducible rfl
        try simp only [Act.put, List.setIfInBounds_toArray, List.set_cons_zero, List.set_cons_succ]
        refine wpAnyH_take (i := 7) (oi := { dst := some 31, op := Op.load 42 (Operand.tmp 30), type := 42, pos := "ref.go:101", after := #[{ on := 6, ground := Ground.data }], guard := none }) (v := ?_) rfl (by kernel_rfl) (by kernel_rfl) (by kernel_rfl) (fun _ _ _ h => h) (Or.inl ⟨by rfl, ?_⟩) (by assumption) ?_
        rotate_left
        · intro w hSw
          try dsimp only at hSw
          go_simp
          try with_reducible rfl
        try simp only [Act.put, List.setIfInBounds_toArray, List.set_cons_zero, List.set_cons_succ]
        refine wpAnyH_take (i := 8) (oi := { dst := some 32, op := Op.move (Operand.tmp 4), type := 3, pos := "ref.go:101", after := #[], guard := none }) (v := ?_) rfl (by kernel_rfl) (by kernel_rfl) (by kernel_rfl) (fun _ _ _ h => h) (Or.inl ⟨by rfl, ?_⟩) (by assumption) ?_
        rotate_left
        · intro w hSw
          try dsimp only at hSw
          go_simp
          try with_reducible rfl
        try simp only [Act.put, List.setIfInBounds_toArray, List.set_cons_zero, List.set_cons_succ]
        refine wpAnyH_take (i := 9) (oi := { dst := some 33, op := Op.indexAddr 42 (Operand.tmp 31) (Operand.tmp 32), type := 0, pos := "ref.go:101", after := #[{ on := 7, ground := Ground.data }, { on := 8, ground := Ground.data }], guard := none }) (v := ?_) rfl (by kernel_rfl) (by kernel_rfl) (by kernel_rfl) (fun _ _ _ h => h) (Or.inl ⟨by rfl, ?_⟩) (by assumption) ?_
        rotate_left
        · intro w hSw
          try dsimp only at hSw
          go_simp
          try with_reducible rfl
        try simp only [Act.put, List.setIfInBounds_toArray, List.set_cons_zero, List.set_cons_succ]
        refine wpAnyH_take (i := 10) (oi := { dst := some 34, op := Op.fieldAddr 93 (Operand.tmp 33) 0, type := 0, pos := "ref.go:101", after := #[{ on := 9, ground := Ground.data }], guard := none }) (v := ?_) rfl (by kernel_rfl) (by kernel_rfl) (by kernel_rfl) (fun _ _ _ h => h) (Or.inl ⟨by rfl, ?_⟩) (by assumption) ?_
        rotate_left
        · intro w hSw
          try dsimp only at hSw
          go_simp
          try with_reducible rfl
        try simp only [Act.put, List.setIfInBounds_toArray, List.set_cons_zero, List.set_cons_succ]
        refine wpAnyH_take (i := 11) (oi := { dst := some 35, op := Op.load 3 (Operand.tmp 34), type := 3, pos := "ref.go:101", after := #[{ on := 10, ground := Ground.data }], guard := none }) (v := ?_) rfl (by kernel_rfl) (by kernel_rfl) (by kernel_rfl) (fun _ _ _ h => h) (Or.inl ⟨by rfl, ?_⟩) (by assumption) ?_
        rotate_left
        · intro w hSw
          try dsimp only at hSw
          go_simp
          try with_reducible rfl
        try simp only [Act.put, List.setIfInBounds_toArray, List.set_cons_zero, List.set_cons_succ]
        refine wpAnyH_take (i := 12) (oi := { dst := some 36, op := Op.move (Operand.tmp 0), type := 29, pos := "ref.go:101", after := #[], guard := none }) (v := ?_) rfl (by kernel_rfl) (by kernel_rfl) (by kernel_rfl) (fun _ _ _ h => h) (Or.inl ⟨by rfl, ?_⟩) (by assumption) ?_
        rotate_left
        · intro w hSw
          try dsimp only at hSw
          go_simp
          try with_reducible rfl
        try simp only [Act.put, List.setIfInBounds_toArray, List.set_cons_zero, List.set_cons_succ]
        refine wpAnyH_take (i := 13) (oi := { dst := some 37, op := Op.nilCheck (Operand.tmp 36), type := 0, pos := "ref.go:101", after := #[{ on := 12, ground := Ground.data }], guard := none }) (v := ?_) rfl (by kernel_rfl) (by kernel_rfl) (by kernel_rfl) (fun _ _ _ h => h) (Or.inl ⟨by rfl, ?_⟩) (by assumption) ?_
        rotate_left
        · intro w hSw
          try dsimp only at hSw
          go_simp
          try with_reducible rfl
        try simp only [Act.put, List.setIfInBounds_toArray, List.set_cons_zero, List.set_cons_succ]
        refine wpAnyH_take (i := 14) (oi := { dst := some 38, op := Op.fieldAddr 44 (Operand.tmp 37) 1, type := 0, pos := "ref.go:101", after := #[{ on := 13, ground := Ground.data }], guard := none }) (v := ?_) rfl (by kernel_rfl) (by kernel_rfl) (by kernel_rfl) (fun _ _ _ h => h) (Or.inl ⟨by rfl, ?_⟩) (by assumption) ?_
        rotate_left
        · intro w hSw
          try dsimp only at hSw
          go_simp
          try with_reducible rfl
        try simp only [Act.put, List.setIfInBounds_toArray, List.set_cons_zero, List.set_cons_succ]
        refine wpAnyH_take (i := 15) (oi := { dst := some 39, op := Op.load 42 (Operand.tmp 38), type := 42, pos := "ref.go:101", after := #[{ on := 14, ground := Ground.data }], guard := none }) (v := ?_) rfl (by kernel_rfl) (by kernel_rfl) (by kernel_rfl) (fun _ _ _ h => h) (Or.inl ⟨by rfl, ?_⟩) (by assumption) ?_
        rotate_left
        · intro w hSw
          try dsimp only at hSw
          go_simp
          try with_reducible rfl
        try simp only [Act.put, List.setIfInBounds_toArray, List.set_cons_zero, List.set_cons_succ]
        refine wpAnyH_take (i := 16) (oi := { dst := some 40, op := Op.move (Operand.tmp 4), type := 3, pos := "ref.go:101", after := #[], guard := none }) (v := ?_) rfl (by kernel_rfl) (by kernel_rfl) (by kernel_rfl) (fun _ _ _ h => h) (Or.inl ⟨by rfl, ?_⟩) (by assumption) ?_
        rotate_left
        · intro w hSw
          try dsimp only at hSw
          go_simp
          try with_reducible rfl
        try simp only [Act.put, List.setIfInBounds_toArray, List.set_cons_zero, List.set_cons_succ]
        refine wpAnyH_take (i := 17) (oi := { dst := some 41, op := Op.indexAddr 42 (Operand.tmp 39) (Operand.tmp 40), type := 0, pos := "ref.go:101", after := #[{ on := 15, ground := Ground.data }, { on := 16, ground := Ground.data }], guard := none }) (v := ?_) rfl (by kernel_rfl) (by kernel_rfl) (by kernel_rfl) (fun _ _ _ h => h) (Or.inl ⟨by rfl, ?_⟩) (by assumption) ?_
        rotate_left
        · intro w hSw
          try dsimp only at hSw
          go_simp
          try with_reducible rfl
        try simp only [Act.put, List.setIfInBounds_toArray, List.set_cons_zero, List.set_cons_succ]
        refine wpAnyH_take (i := 18) (oi := { dst := some 42, op := Op.fieldAddr 93 (Operand.tmp 41) 1, type := 0, pos := "ref.go:101", after := #[{ on := 17, ground := Ground.data }], guard := none }) (v := ?_) rfl (by kernel_rfl) (by kernel_rfl) (by kernel_rfl) (fun _ _ _ h => h) (Or.inl ⟨by rfl, ?_⟩) (by assumption) ?_
        rotate_left
        · intro w hSw
          try dsimp only at hSw
          go_simp
          try with_reducible rfl
        try simp only [Act.put, List.setIfInBounds_toArray, List.set_cons_zero, List.set_cons_succ]
        refine wpAnyH_take (i := 19) (oi := { dst := some 43, op := Op.load 9 (Operand.tmp 42), type := 9, pos := "ref.go:101", after := #[{ on := 18, ground := Ground.data }], guard := none }) (v := ?_) rfl (by kernel_rfl) (by kernel_rfl) (by kernel_rfl) (fun _ _ _ h => h) (Or.inl ⟨by rfl, ?_⟩) (by assumption) ?_
        rotate_left
        · intro w hSw
          try dsimp only at hSw
          go_simp
          try with_reducible rfl
        try simp only [Act.put, List.setIfInBounds_toArray, List.set_cons_zero, List.set_cons_succ]
        refine wpAnyH_take (i := 20) (oi := { dst := some 44, op := Op.indexAddr 41 (Operand.tmp 27) (Operand.tmp 35), type := 0, pos := "ref.go:101", after := #[{ on := 3, ground := Ground.data }, { on := 11, ground := Ground.data }, { on := 0, ground := Ground.phase }, { on := 1, ground := Ground.phase }, { on := 2, ground := Ground.phase }, { on := 3, ground := Ground.phase }, { on := 4, ground := Ground.phase }, { on := 5, ground := Ground.phase }, { on := 6, ground := Ground.phase }, { on := 7, ground := Ground.phase }, { on := 8, ground := Ground.phase }, { on := 9, ground := Ground.phase }, { on := 10, ground := Ground.phase }, { on := 11, ground := Ground.phase }, { on := 12, ground := Ground.phase }, { on := 13, ground := Ground.phase }, { on := 14, ground := Ground.phase }, { on := 15, ground := Ground.phase }, { on := 16, ground := Ground.phase }, { on := 17, ground := Ground.phase }, { on := 18, ground := Ground.phase }, { on := 19, ground := Ground.phase }], guard := none }) (v := ?_) rfl (by kernel_rfl) (by kernel_rfl) (by kernel_rfl) (fun _ _ _ h => h) (Or.inl ⟨by rfl, ?_⟩) (by assumption) ?_
        rotate_left
        · intro w hSw
          try dsimp only at hSw
          go_simp
          try with_reducible rfl
        try simp only [Act.put, List.setIfInBounds_toArray, List.set_cons_zero, List.set_cons_succ]
        refine wpAnyH_ready (rs := [21]) (by kernel_rfl) (by simp) ?_
        refine AllReadyH.cons (o := { dst := none, op := Op.store 9 (Operand.tmp 44) (Operand.tmp 43), type := 0, pos := "ref.go:101", after := #[{ on := 20, ground := Ground.data }, { on := 19, ground := Ground.data }, { on := 0, ground := Ground.phase }, { on := 1, ground := Ground.phase }, { on := 2, ground := Ground.phase }, { on := 3, ground := Ground.phase }, { on := 4, ground := Ground.phase }, { on := 5, ground := Ground.phase }, { on := 6, ground := Ground.phase }, { on := 7, ground := Ground.phase }, { on := 8, ground := Ground.phase }, { on := 9, ground := Ground.phase }, { on := 10, ground := Ground.phase }, { on := 11, ground := Ground.phase }, { on := 12, ground := Ground.phase }, { on := 13, ground := Ground.phase }, { on := 14, ground := Ground.phase }, { on := 15, ground := Ground.phase }, { on := 16, ground := Ground.phase }, { on := 17, ground := Ground.phase }, { on := 18, ground := Ground.phase }, { on := 19, ground := Ground.phase }], guard := none }) rfl (fun K hK => ?_) AllReadyH.nil
        go_simp
        refine hK.out _ _ hT2.out (fun _ => ?_)
        clear hK K
        try simp only [Act.put, List.setIfInBounds_toArray, List.set_cons_zero, List.set_cons_succ]
        refine wpAnyH_done (by kernel_rfl) ?_ _
        go_wp2
        constructor
        · exact ⟨j + 1, by go_num, by omega, by omega, HT.out, HB2.out⟩
        · show r.P.length - ((j : Int) + 1).toNat < r.P.length - (j : Int).toNat
          omega
      | false =>
        rw [hkk] at ck
        have hts : rkept kb r.S (r.P.take (j + 1)) = rkept kb r.S (r.P.take j) := by
          rw [List.take_succ_eq_append_getElem hjn, rkept_snoc, List.length_take, Nat.min_eq_left (by omega), hkk]
          exact if_neg (by decide)
        have HT := Lib.hid (show RefAt B D (.slice p r.S.length c) (.slice q r.P.length qc) { r with S := rkept kb r.S (r.P.take (j + 1)) } wr by rw [hts]; exact HR.out)
        clear HR hts
        go_wp2
        constructor
        · exact ⟨j + 1, by go_num, by omega, by omega, HT.out, HB.out⟩
        · show r.P.length - ((j : Int) + 1).toNat < r.P.length - (j : Int).toNat
          omega
    · have htk : rkept kb r.S (r.P.take j) = rkept kb r.S r.P := by
        rcases Nat.lt_or_ge j r.P.length with h1 | h1
        · have := rkept_past kb r.S r.P (r.P.length - j) (by omega) (by omega)
          rw [show r.P.length - (r.P.length - j) = j by omega] at this
          exact this.symm
        · rw [List.take_of_length_le h1]
      rw [htk] at HR
      have k1 := HR.out.cell 1
      have f1 := HR.out.frozen 1
      simp only [rcells] at k1
      simp at k1
      obtain ⟨T1, T2, T3⟩ := HR.out.clear_pend
      have f2 := T1.frozen 3
      have g2 := T1.cell 3
      obtain ⟨U1, U2, U3⟩ := T1.turn (r' := { r with S := rkept kb r.S r.P, P := [], gone := false }) 3 (.bool false) rfl rfl rfl T1.lim T1.lim1 T1.c0 T1.c1
      have f3 := U1.frozen 2
      have g3 := U1.cell 2
      obtain ⟨V1, V2, V3⟩ := U1.turn (r' := { r with S := rkept kb r.S r.P, P := [], gone := false, left := -1 }) 2 (.int .i64 (-1)) rfl rfl rfl (show (-1 : Int) ≤ -1 by omega) (show (-1 : Int) ≤ 9223372036854775807 by omega) U1.c0 U1.c1
      simp only [rcells, List.getElem?_toArray, List.getElem?_cons_zero, List.getElem?_cons_succ] at g2 g3
      have HT := Lib.hid V1
      have HB2 := Lib.hid (HB.out.trans (Bf.one (X := Xr D (.slice p r.S.length c) (.slice q r.P.length qc)) (T2.trans (U2.trans V2)) (show Fr D _ _ from fun k hk => (V3 k hk).trans ((U3 k hk).trans (T3 k hk))) (.inl rfl)))
      clear T1 T2 T3 U1 U2 U3 V1 V2 V3 HR HB htk hKw
      rcases Nat.lt_or_ge j r.P.length with h1 | h1
      · have dj : decide ((j : Int) < (r.P.length : Int)) = true := decide_eq_true (by omega)
        have dk : decide ((j : Int) < (kn : Int)) = false := decide_eq_false (by omega)
        go_wp2
        go_end0
        exact ⟨rfl, HT.out, HB2.out⟩
      · have dj : decide ((j : Int) < (r.P.length : Int)) = false := decide_eq_false (by omega)
        go_wp2
        go_end0
        exact ⟨rfl, HT.out, HB2.out⟩
end Go.Proofs.Yticiaiiedagalaa.dk
