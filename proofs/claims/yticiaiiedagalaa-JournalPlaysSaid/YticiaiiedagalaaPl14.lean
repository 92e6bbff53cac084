/- lay: a record's pieces are written and synced. -/
import Derived.Test.YticiaiiedagalaaPl13
namespace Go.Proofs.Yticiaiiedagalaa.dk
open Go.PlainAid Go.ChangeShapes Go.WideShapes Go.ChangeAt Go.RowKit

def LayPost (B D L N : Nat) (P : Value) (r : Dk × Int) (w : World) (e : Ending) (w' : World) : Prop := ∃ P', e = .returned (.int .i64 r.2) ∧ DiskAt B D L N P' r.1 w' ∧ DkF B D L N P w P' w'
set_option maxHeartbeats 4000000 in
set_option maxRecDepth 100000 in
theorem lay_some {B D L N A : Nat} {P : Value} {m : Dk} {g : Lg} {w : World} (h : DiskAt B D L N P m w) (hg : LogAt A g w) (hgd : g.d = D) (gb off k c count : Nat) (b : List Int) (hS : Src D L N P w (some ⟨gb, off, none⟩) k b) (hk : 0 < k) (hkc : k ≤ c) (hc : c ≤ 100000000)
    (hc1 : count * 48 < k + 48) (hc2 : k ≤ count * 48) (hc3 : count ≤ 65535) (hfp : g.frm + g.place ≤ 1000000) (hw : m.writes + count < 999990) (hp : m.pend.length + count ≤ 999990) (hnum : 0 ≤ g.num ∧ g.num ≤ 4294967295) (hses : 0 ≤ g.ses ∧ g.ses ≤ 4294967295) :
    Calls Try.prog 48 #[.pointer (some ⟨A, 0, none⟩), .slice (some ⟨gb, off, none⟩) k c, .int .i64 (count : Int)] w (LayPost B D L N P (layGo g b count count 0 m) w) := by
  have H := Lib.hid h
  have HG := Lib.hid hg
  have HS := Lib.hid hS
  have HGd := Lib.hid hgd
  clear h hg hS hgd
  go_enter Try.func48, Try.ntmps48
  go_wp2_with fail
  go_loopw [12] (fun v wr => ∃ (f i : Nat) (m' : Dk) (P' : Value), v = .int .i64 (i : Int) ∧ f + i = count ∧ m'.writes ≤ m.writes + i ∧ m'.pend.length ≤ m.pend.length + i ∧ Hid (layGo g b count count 0 m = layGo g b count f i m') ∧ Hid (DiskAt B D L N P' m' wr) ∧ Hid (DkF B D L N P w P' wr)) (fun v _ => count - (intOf v).toNat)
  case atStart => exact ⟨count, 0, m, P, rfl, rfl, by omega, by omega, rfl, H.out, DkF.refl⟩
  case round =>
    obtain ⟨f, i, m', P', rfl, hfi, hmw, hmp, HE, HD, HF⟩ := hrel
    by_cases hi : i < count
    · have di : decide ((i : Int) < (count : Int)) = true := decide_eq_true (by omega)
      obtain ⟨f, rfl⟩ : ∃ f', f = f' + 1 := ⟨f - 1, by omega⟩
      obtain ⟨x1, hx1⟩ : ∃ x, x = i * 48 := ⟨_, rfl⟩
      have e1 : (i : Int) * 48 = (x1 : Int) := by omega
      have e2 : ((i : Int) + 1) * 48 = ((x1 + 48 : Nat) : Int) := by omega
      have hx2 : x1 < k := by omega
      have hSr := HS.out.next HF.out
      have HX1 := Lib.hid hx1
      have hicount : i ≤ 65535 := by omega
      clear hx1
      by_cases hfull : x1 + 48 ≤ k
      · have hpart := hSr.1.cut x1 48 (by omega)
        rw [HX1.out] at hpart
        rw [← HX1.out] at hpart
        have HPart := Lib.hid (show Rd wr (some ⟨gb, off + x1, none⟩) (x1 + 48 - x1) ((b.drop (i * 48)).take 48) by rw [show x1 + 48 - x1 = 48 by omega, ← HX1.out]; exact hpart)
        have hz : x1 + 48 - x1 ≤ 48 := by omega
        clear hpart
        go_upto_region 5 with fail
        generalize x1 + 48 - x1 = z at HPart hz ⊢
        have hLr := HG.out.d H.out HF.out.bf
        have hbd : Below wr.heap.size wr wr.drew := (Below.refl _ _).drew
        have hLd := hLr.below hbd
        have HNP := Lib.hid (newPiece_any wr.drew g.ses g.num i count (some ⟨gb, off + x1, none⟩) z (c - x1) _ (HPart.out.below hbd) hz hses hnum (by omega) (by omega))
        have hBw := HD.out.base
        have HLd := Lib.hid hLd
        have HDd := Lib.hid (HD.out.below hbd)
        have HFd := Lib.hid (HF.out.trans (DkF.new hbd hBw))
        have hT : (fun W : World => W.cell? ⟨A, 5, none⟩ = some (.int .u32 g.ses) ∧ W.cell? ⟨A, 4, none⟩ = some (.int .u32 g.num)) wr.drew := ⟨hLd.cell 5, hLd.cell 4⟩
        clear hLr hbd hLd hBw HPart hSr HD HF
        refine wp_region_held_drew (S := (fun W : World => W.cell? ⟨A, 5, none⟩ = some (.int .u32 g.ses) ∧ W.cell? ⟨A, 4, none⟩ = some (.int .u32 g.num))) (by kernel_rfl) hT (fun hHeld => ?_)
        clear hHeld
        refine wpAnyH_take (i := 0) (oi := { dst := some 25, op := Op.move (Operand.tmp 0), type := 32, pos := "journal.go:99", after := #[], guard := none }) (v := ?_) rfl (by kernel_rfl) (by kernel_rfl) (by kernel_rfl) (fun _ _ _ h => h) (Or.inl ⟨by rfl, ?_⟩) (by assumption) ?_
        rotate_left
        · intro w hSw
          try dsimp only at hSw
          go_simp
          try with_reducible rfl
        try simp only [Act.put, List.setIfInBounds_toArray, List.set_cons_zero, List.set_cons_succ]
        refine wpAnyH_take (i := 1) (oi := { dst := some 26, op := Op.nilCheck (Operand.tmp 25), type := 0, pos := "journal.go:99", after := #[{ on := 0, ground := Ground.data }], guard := none }) (v := ?_) rfl (by kernel_rfl) (by kernel_rfl) (by kernel_rfl) (fun _ _ _ h => h) (Or.inl ⟨by rfl, ?_⟩) (by assumption) ?_
        rotate_left
        · intro w hSw
          try dsimp only at hSw
          go_simp
          try with_reducible rfl
        try simp only [Act.put, List.setIfInBounds_toArray, List.set_cons_zero, List.set_cons_succ]
        refine wpAnyH_take (i := 2) (oi := { dst := some 27, op := Op.fieldAddr 76 (Operand.tmp 26) 5, type := 0, pos := "journal.go:99", after := #[{ on := 1, ground := Ground.data }], guard := none }) (v := ?_) rfl (by kernel_rfl) (by kernel_rfl) (by kernel_rfl) (fun _ _ _ h => h) (Or.inl ⟨by rfl, ?_⟩) (by assumption) ?_
        rotate_left
        · intro w hSw
          try dsimp only at hSw
          go_simp
          try with_reducible rfl
        try simp only [Act.put, List.setIfInBounds_toArray, List.set_cons_zero, List.set_cons_succ]
        refine wpAnyH_take (i := 3) (oi := { dst := some 28, op := Op.load 70 (Operand.tmp 27), type := 70, pos := "journal.go:99", after := #[{ on := 2, ground := Ground.data }], guard := none }) (v := ?_) rfl (by kernel_rfl) (by kernel_rfl) (by kernel_rfl) (fun _ _ _ h => h) (Or.inl ⟨by rfl, ?_⟩) (by assumption) ?_
        rotate_left
        · intro w hSw
          try dsimp only at hSw
          go_simp
          try with_reducible rfl
        try simp only [Act.put, List.setIfInBounds_toArray, List.set_cons_zero, List.set_cons_succ]
        refine wpAnyH_take (i := 4) (oi := { dst := some 29, op := Op.move (Operand.tmp 0), type := 32, pos := "journal.go:99", after := #[], guard := none }) (v := ?_) rfl (by kernel_rfl) (by kernel_rfl) (by kernel_rfl) (fun _ _ _ h => h) (Or.inl ⟨by rfl, ?_⟩) (by assumption) ?_
        rotate_left
        · intro w hSw
          try dsimp only at hSw
          go_simp
          try with_reducible rfl
        try simp only [Act.put, List.setIfInBounds_toArray, List.set_cons_zero, List.set_cons_succ]
        refine wpAnyH_take (i := 5) (oi := { dst := some 30, op := Op.nilCheck (Operand.tmp 29), type := 0, pos := "journal.go:99", after := #[{ on := 4, ground := Ground.data }], guard := none }) (v := ?_) rfl (by kernel_rfl) (by kernel_rfl) (by kernel_rfl) (fun _ _ _ h => h) (Or.inl ⟨by rfl, ?_⟩) (by assumption) ?_
        rotate_left
        · intro w hSw
          try dsimp only at hSw
          go_simp
          try with_reducible rfl
        try simp only [Act.put, List.setIfInBounds_toArray, List.set_cons_zero, List.set_cons_succ]
        refine wpAnyH_take (i := 6) (oi := { dst := some 31, op := Op.fieldAddr 76 (Operand.tmp 30) 4, type := 0, pos := "journal.go:99", after := #[{ on := 5, ground := Ground.data }], guard := none }) (v := ?_) rfl (by kernel_rfl) (by kernel_rfl) (by kernel_rfl) (fun _ _ _ h => h) (Or.inl ⟨by rfl, ?_⟩) (by assumption) ?_
        rotate_left
        · intro w hSw
          try dsimp only at hSw
          go_simp
          try with_reducible rfl
        try simp only [Act.put, List.setIfInBounds_toArray, List.set_cons_zero, List.set_cons_succ]
        refine wpAnyH_take (i := 7) (oi := { dst := some 32, op := Op.load 70 (Operand.tmp 31), type := 70, pos := "journal.go:99", after := #[{ on := 6, ground := Ground.data }], guard := none }) (v := ?_) rfl (by kernel_rfl) (by kernel_rfl) (by kernel_rfl) (fun _ _ _ h => h) (Or.inl ⟨by rfl, ?_⟩) (by assumption) ?_
        rotate_left
        · intro w hSw
          try dsimp only at hSw
          go_simp
          try with_reducible rfl
        try simp only [Act.put, List.setIfInBounds_toArray, List.set_cons_zero, List.set_cons_succ]
        refine wpAnyH_take (i := 8) (oi := { dst := some 33, op := Op.move (Operand.tmp 7), type := 3, pos := "journal.go:99", after := #[], guard := none }) (v := ?_) rfl (by kernel_rfl) (by kernel_rfl) (by kernel_rfl) (fun _ _ _ h => h) (Or.inl ⟨by rfl, ?_⟩) (by assumption) ?_
        rotate_left
        · intro w hSw
          try dsimp only at hSw
          go_simp
          try with_reducible rfl
        try simp only [Act.put, List.setIfInBounds_toArray, List.set_cons_zero, List.set_cons_succ]
        refine wpAnyH_take (i := 9) (oi := { dst := some 34, op := Op.move (Operand.tmp 2), type := 3, pos := "journal.go:99", after := #[], guard := none }) (v := ?_) rfl (by kernel_rfl) (by kernel_rfl) (by kernel_rfl) (fun _ _ _ h => h) (Or.inl ⟨by rfl, ?_⟩) (by assumption) ?_
        rotate_left
        · intro w hSw
          try dsimp only at hSw
          go_simp
          try with_reducible rfl
        try simp only [Act.put, List.setIfInBounds_toArray, List.set_cons_zero, List.set_cons_succ]
        refine wpAnyH_take (i := 10) (oi := { dst := some 35, op := Op.move (Operand.tmp 8), type := 45, pos := "journal.go:99", after := #[], guard := none }) (v := ?_) rfl (by kernel_rfl) (by kernel_rfl) (by kernel_rfl) (fun _ _ _ h => h) (Or.inl ⟨by rfl, ?_⟩) (by assumption) ?_
        rotate_left
        · intro w hSw
          try dsimp only at hSw
          go_simp
          try with_reducible rfl
        try simp only [Act.put, List.setIfInBounds_toArray, List.set_cons_zero, List.set_cons_succ]
        refine wpAnyH_ready (rs := [11]) (by kernel_rfl) (by simp) ?_
        refine AllReadyH.cons (o := { dst := some 36, op := Op.call { callee := Callee.value (Operand.func 57), args := #[Operand.tmp 28, Operand.tmp 32, Operand.tmp 33, Operand.tmp 34, Operand.tmp 35], argTypes := #[70, 70, 3, 3, 45] }, type := 74, pos := "journal.go:99", after := #[{ on := 3, ground := Ground.data }, { on := 7, ground := Ground.data }, { on := 8, ground := Ground.data }, { on := 9, ground := Ground.data }, { on := 10, ground := Ground.data }], guard := none }) rfl (fun K hK => ?_) AllReadyH.nil
        go_simp
        with_reducible refine HNP.out.mono ?_
        clear HNP
        rintro e w5 ⟨G, rfl, hG, hrow, hb5⟩
        have hL5 := HLd.out.below hb5
        have HL5 := Lib.hid hL5
        have hD5 := HDd.out.below hb5
        have HD5 := Lib.hid hD5
        have HF5 := Lib.hid (HFd.out.trans (DkF.new hb5 HDd.out.base))
        have HRow := Lib.hid hrow
        have hT5 : (fun W : World => W.cell? ⟨A, 5, none⟩ = some (.int .u32 g.ses) ∧ W.cell? ⟨A, 4, none⟩ = some (.int .u32 g.num)) w5 := ⟨hL5.cell 5, hL5.cell 4⟩
        clear hL5 hD5 hrow hb5 HLd HDd HFd
        try go_wp2_with fail
        refine hK.out _ _ hT5 (fun _ => ?_)
        clear hK K
        try simp only [Act.put, List.setIfInBounds_toArray, List.set_cons_zero, List.set_cons_succ]
        clear hT
        refine wpAnyH_take (i := 12) (oi := { dst := some 9, op := Op.assign (Operand.tmp 36), type := 74, pos := "journal.go:99", after := #[{ on := 11, ground := Ground.data }, { on := 11, ground := Ground.chain }, { on := 0, ground := Ground.phase }, { on := 1, ground := Ground.phase }, { on := 2, ground := Ground.phase }, { on := 3, ground := Ground.phase }, { on := 4, ground := Ground.phase }, { on := 5, ground := Ground.phase }, { on := 6, ground := Ground.phase }, { on := 7, ground := Ground.phase }, { on := 8, ground := Ground.phase }, { on := 9, ground := Ground.phase }, { on := 10, ground := Ground.phase }, { on := 11, ground := Ground.phase }], guard := none }) (v := ?_) rfl (by kernel_rfl) (by kernel_rfl) (by kernel_rfl) (fun _ _ _ h => h) (Or.inl ⟨by rfl, ?_⟩) (by assumption) ?_
        rotate_left
        · intro w hSw
          try dsimp only at hSw
          go_simp
          try with_reducible rfl
        try simp only [Act.put, List.setIfInBounds_toArray, List.set_cons_zero, List.set_cons_succ]
        refine wpAnyH_done (by kernel_rfl) ?_ _
        clear hT5
        go_wp2_with fail
        have hbd : Below w5.heap.size w5 w5.drew := (Below.refl _ _).drew
        have hL6 := HL5.out.below hbd
        have HD6 := Lib.hid (HD5.out.below hbd)
        have HF6 := Lib.hid (HF5.out.trans (DkF.new hbd HD5.out.base))
        have HL6 := Lib.hid hL6
        have hlen : (mk g.ses g.num i count ((b.drop (i * 48)).take 48)).length = 64 := mk_length _ _ _ _ _ (by rw [List.length_take]; omega)
        have hW6 := Write_any HD6.out (some ⟨G, 0, none⟩) 64 64 _ ((g.frm : Int) + g.place + i) ((HRow.out.below hbd).rd hlen) (by omega) (by omega)
        rw [← HGd.out] at hW6
        have HW6 := Lib.hid hW6
        have ws1 : IntKind.i64.wrap ((g.frm : Int) + g.place) = (g.frm : Int) + g.place := by rw [IntKind.wrap_i64]; omega
        have ws2 : IntKind.i64.wrap ((g.frm : Int) + g.place + i) = (g.frm : Int) + g.place + i := by rw [IntKind.wrap_i64]; omega
        have hT : (fun W : World => W.cell? ⟨A, 0, none⟩ = some (.pointer (some ⟨g.d, 0, none⟩)) ∧ W.cell? ⟨A, 1, none⟩ = some (.int .i64 (g.frm : Int)) ∧ W.cell? ⟨A, 3, none⟩ = some (.int .i64 (g.place : Int))) w5.drew := ⟨hL6.cell 0, hL6.cell 1, hL6.cell 3⟩
        clear hbd hL6 hW6 hlen HD5 HF5 HL5 HRow
        refine wp_region_held_drew (S := (fun W : World => W.cell? ⟨A, 0, none⟩ = some (.pointer (some ⟨g.d, 0, none⟩)) ∧ W.cell? ⟨A, 1, none⟩ = some (.int .i64 (g.frm : Int)) ∧ W.cell? ⟨A, 3, none⟩ = some (.int .i64 (g.place : Int)))) (by kernel_rfl) hT (fun hHeld => ?_)
        clear hHeld
        refine wpAnyH_take (i := 0) (oi := { dst := some 37, op := Op.move (Operand.tmp 0), type := 32, pos := "journal.go:100", after := #[], guard := none }) (v := ?_) rfl (by kernel_rfl) (by kernel_rfl) (by kernel_rfl) (fun _ _ _ h => h) (Or.inl ⟨by rfl, ?_⟩) (by assumption) ?_
        rotate_left
        · intro w hSw
          try dsimp only at hSw
          go_simp
          try with_reducible rfl
        try simp only [Act.put, List.setIfInBounds_toArray, List.set_cons_zero, List.set_cons_succ]
        refine wpAnyH_take (i := 1) (oi := { dst := some 38, op := Op.nilCheck (Operand.tmp 37), type := 0, pos := "journal.go:100", after := #[{ on := 0, ground := Ground.data }], guard := none }) (v := ?_) rfl (by kernel_rfl) (by kernel_rfl) (by kernel_rfl) (fun _ _ _ h => h) (Or.inl ⟨by rfl, ?_⟩) (by assumption) ?_
        rotate_left
        · intro w hSw
          try dsimp only at hSw
          go_simp
          try with_reducible rfl
        try simp only [Act.put, List.setIfInBounds_toArray, List.set_cons_zero, List.set_cons_succ]
        refine wpAnyH_take (i := 2) (oi := { dst := some 39, op := Op.fieldAddr 76 (Operand.tmp 38) 0, type := 0, pos := "journal.go:100", after := #[{ on := 1, ground := Ground.data }], guard := none }) (v := ?_) rfl (by kernel_rfl) (by kernel_rfl) (by kernel_rfl) (fun _ _ _ h => h) (Or.inl ⟨by rfl, ?_⟩) (by assumption) ?_
        rotate_left
        · intro w hSw
          try dsimp only at hSw
          go_simp
          try with_reducible rfl
        try simp only [Act.put, List.setIfInBounds_toArray, List.set_cons_zero, List.set_cons_succ]
        refine wpAnyH_take (i := 3) (oi := { dst := some 40, op := Op.load 25 (Operand.tmp 39), type := 25, pos := "journal.go:100", after := #[{ on := 2, ground := Ground.data }], guard := none }) (v := ?_) rfl (by kernel_rfl) (by kernel_rfl) (by kernel_rfl) (fun _ _ _ h => h) (Or.inl ⟨by rfl, ?_⟩) (by assumption) ?_
        rotate_left
        · intro w hSw
          try dsimp only at hSw
          go_simp
          try with_reducible rfl
        try simp only [Act.put, List.setIfInBounds_toArray, List.set_cons_zero, List.set_cons_succ]
        refine wpAnyH_take (i := 4) (oi := { dst := some 41, op := Op.move (Operand.tmp 0), type := 32, pos := "journal.go:100", after := #[], guard := none }) (v := ?_) rfl (by kernel_rfl) (by kernel_rfl) (by kernel_rfl) (fun _ _ _ h => h) (Or.inl ⟨by rfl, ?_⟩) (by assumption) ?_
        rotate_left
        · intro w hSw
          try dsimp only at hSw
          go_simp
          try with_reducible rfl
        try simp only [Act.put, List.setIfInBounds_toArray, List.set_cons_zero, List.set_cons_succ]
        refine wpAnyH_take (i := 5) (oi := { dst := some 42, op := Op.nilCheck (Operand.tmp 41), type := 0, pos := "journal.go:100", after := #[{ on := 4, ground := Ground.data }], guard := none }) (v := ?_) rfl (by kernel_rfl) (by kernel_rfl) (by kernel_rfl) (fun _ _ _ h => h) (Or.inl ⟨by rfl, ?_⟩) (by assumption) ?_
        rotate_left
        · intro w hSw
          try dsimp only at hSw
          go_simp
          try with_reducible rfl
        try simp only [Act.put, List.setIfInBounds_toArray, List.set_cons_zero, List.set_cons_succ]
        refine wpAnyH_take (i := 6) (oi := { dst := some 43, op := Op.fieldAddr 76 (Operand.tmp 42) 1, type := 0, pos := "journal.go:100", after := #[{ on := 5, ground := Ground.data }], guard := none }) (v := ?_) rfl (by kernel_rfl) (by kernel_rfl) (by kernel_rfl) (fun _ _ _ h => h) (Or.inl ⟨by rfl, ?_⟩) (by assumption) ?_
        rotate_left
        · intro w hSw
          try dsimp only at hSw
          go_simp
          try with_reducible rfl
        try simp only [Act.put, List.setIfInBounds_toArray, List.set_cons_zero, List.set_cons_succ]
        refine wpAnyH_take (i := 7) (oi := { dst := some 44, op := Op.load 3 (Operand.tmp 43), type := 3, pos := "journal.go:100", after := #[{ on := 6, ground := Ground.data }], guard := none }) (v := ?_) rfl (by kernel_rfl) (by kernel_rfl) (by kernel_rfl) (fun _ _ _ h => h) (Or.inl ⟨by rfl, ?_⟩) (by assumption) ?_
        rotate_left
        · intro w hSw
          try dsimp only at hSw
          go_simp
          try with_reducible rfl
        try simp only [Act.put, List.setIfInBounds_toArray, List.set_cons_zero, List.set_cons_succ]
        refine wpAnyH_take (i := 8) (oi := { dst := some 45, op := Op.move (Operand.tmp 0), type := 32, pos := "journal.go:100", after := #[], guard := none }) (v := ?_) rfl (by kernel_rfl) (by kernel_rfl) (by kernel_rfl) (fun _ _ _ h => h) (Or.inl ⟨by rfl, ?_⟩) (by assumption) ?_
        rotate_left
        · intro w hSw
          try dsimp only at hSw
          go_simp
          try with_reducible rfl
        try simp only [Act.put, List.setIfInBounds_toArray, List.set_cons_zero, List.set_cons_succ]
        refine wpAnyH_take (i := 9) (oi := { dst := some 46, op := Op.nilCheck (Operand.tmp 45), type := 0, pos := "journal.go:100", after := #[{ on := 8, ground := Ground.data }], guard := none }) (v := ?_) rfl (by kernel_rfl) (by kernel_rfl) (by kernel_rfl) (fun _ _ _ h => h) (Or.inl ⟨by rfl, ?_⟩) (by assumption) ?_
        rotate_left
        · intro w hSw
          try dsimp only at hSw
          go_simp
          try with_reducible rfl
        try simp only [Act.put, List.setIfInBounds_toArray, List.set_cons_zero, List.set_cons_succ]
        refine wpAnyH_take (i := 10) (oi := { dst := some 47, op := Op.fieldAddr 76 (Operand.tmp 46) 3, type := 0, pos := "journal.go:100", after := #[{ on := 9, ground := Ground.data }], guard := none }) (v := ?_) rfl (by kernel_rfl) (by kernel_rfl) (by kernel_rfl) (fun _ _ _ h => h) (Or.inl ⟨by rfl, ?_⟩) (by assumption) ?_
        rotate_left
        · intro w hSw
          try dsimp only at hSw
          go_simp
          try with_reducible rfl
        try simp only [Act.put, List.setIfInBounds_toArray, List.set_cons_zero, List.set_cons_succ]
        refine wpAnyH_take (i := 11) (oi := { dst := some 48, op := Op.load 3 (Operand.tmp 47), type := 3, pos := "journal.go:100", after := #[{ on := 10, ground := Ground.data }], guard := none }) (v := ?_) rfl (by kernel_rfl) (by kernel_rfl) (by kernel_rfl) (fun _ _ _ h => h) (Or.inl ⟨by rfl, ?_⟩) (by assumption) ?_
        rotate_left
        · intro w hSw
          try dsimp only at hSw
          go_simp
          try with_reducible rfl
        try simp only [Act.put, List.setIfInBounds_toArray, List.set_cons_zero, List.set_cons_succ]
        refine wpAnyH_take (i := 12) (oi := { dst := some 49, op := Op.binOp BinOp.add 3 (Operand.tmp 44) (Operand.tmp 48) 3, type := 3, pos := "journal.go:100", after := #[{ on := 7, ground := Ground.data }, { on := 11, ground := Ground.data }], guard := none }) (v := ?_) rfl (by kernel_rfl) (by kernel_rfl) (by kernel_rfl) (fun _ _ _ h => h) (Or.inl ⟨by rfl, ?_⟩) (by assumption) ?_
        rotate_left
        · intro w hSw
          try dsimp only at hSw
          go_simp
          try with_reducible rfl
        try simp only [Act.put, List.setIfInBounds_toArray, List.set_cons_zero, List.set_cons_succ]
        refine wpAnyH_take (i := 13) (oi := { dst := some 50, op := Op.move (Operand.tmp 7), type := 3, pos := "journal.go:100", after := #[], guard := none }) (v := ?_) rfl (by kernel_rfl) (by kernel_rfl) (by kernel_rfl) (fun _ _ _ h => h) (Or.inl ⟨by rfl, ?_⟩) (by assumption) ?_
        rotate_left
        · intro w hSw
          try dsimp only at hSw
          go_simp
          try with_reducible rfl
        try simp only [Act.put, List.setIfInBounds_toArray, List.set_cons_zero, List.set_cons_succ]
        refine wpAnyH_take (i := 14) (oi := { dst := some 51, op := Op.binOp BinOp.add 3 (Operand.tmp 49) (Operand.tmp 50) 3, type := 3, pos := "journal.go:100", after := #[{ on := 12, ground := Ground.data }, { on := 13, ground := Ground.data }], guard := none }) (v := ?_) rfl (by kernel_rfl) (by kernel_rfl) (by kernel_rfl) (fun _ _ _ h => h) (Or.inl ⟨by rfl, ?_⟩) (by assumption) ?_
        rotate_left
        · intro w hSw
          try dsimp only at hSw
          go_simp
          try with_reducible rfl
        try simp only [Act.put, List.setIfInBounds_toArray, List.set_cons_zero, List.set_cons_succ]
        refine wpAnyH_take (i := 15) (oi := { dst := some 52, op := Op.move (Operand.tmp 9), type := 74, pos := "journal.go:100", after := #[], guard := none }) (v := ?_) rfl (by kernel_rfl) (by kernel_rfl) (by kernel_rfl) (fun _ _ _ h => h) (Or.inl ⟨by rfl, ?_⟩) (by assumption) ?_
        rotate_left
        · intro w hSw
          try dsimp only at hSw
          go_simp
          try with_reducible rfl
        try simp only [Act.put, List.setIfInBounds_toArray, List.set_cons_zero, List.set_cons_succ]
        refine wpAnyH_ready (rs := [16]) (by kernel_rfl) (by simp) ?_
        refine AllReadyH.cons (o := { dst := some 53, op := Op.call { callee := Callee.value (Operand.func 19), args := #[Operand.tmp 40, Operand.tmp 51, Operand.tmp 52], argTypes := #[25, 3, 45] }, type := 26, pos := "journal.go:100", after := #[{ on := 3, ground := Ground.data }, { on := 14, ground := Ground.data }, { on := 15, ground := Ground.data }], guard := none }) rfl (fun K hK => ?_) AllReadyH.nil
        go_simp
        with_reducible refine HW6.out.mono ?_
        clear HW6
        rintro e w7 ⟨P7, rfl, hd7, hf7⟩
        rw [HGd.out] at hd7 hf7
        have hL7 := HL6.out.d HD6.out hf7.bf
        have HD7 := Lib.hid hd7
        have HF7 := Lib.hid (HF6.out.trans hf7)
        have hT7 : (fun W : World => W.cell? ⟨A, 0, none⟩ = some (.pointer (some ⟨g.d, 0, none⟩)) ∧ W.cell? ⟨A, 1, none⟩ = some (.int .i64 (g.frm : Int)) ∧ W.cell? ⟨A, 3, none⟩ = some (.int .i64 (g.place : Int))) w7 := ⟨hL7.cell 0, hL7.cell 1, hL7.cell 3⟩
        have hwb := dWrite_bd m' ((g.frm : Int) + g.place + i) (mk g.ses g.num i count ((b.drop (i * 48)).take 48))
        clear hL7 hd7 hf7 HL6 HD6 HF6
        try go_wp2_with fail
        refine hK.out _ _ hT7 (fun _ => ?_)
        clear hK K
        try simp only [Act.put, List.setIfInBounds_toArray, List.set_cons_zero, List.set_cons_succ]
        clear hT
        refine wpAnyH_take (i := 17) (oi := { dst := some 10, op := Op.assign (Operand.tmp 53), type := 26, pos := "journal.go:100", after := #[{ on := 16, ground := Ground.data }, { on := 16, ground := Ground.chain }, { on := 0, ground := Ground.phase }, { on := 1, ground := Ground.phase }, { on := 2, ground := Ground.phase }, { on := 3, ground := Ground.phase }, { on := 4, ground := Ground.phase }, { on := 5, ground := Ground.phase }, { on := 6, ground := Ground.phase }, { on := 7, ground := Ground.phase }, { on := 8, ground := Ground.phase }, { on := 9, ground := Ground.phase }, { on := 10, ground := Ground.phase }, { on := 11, ground := Ground.phase }, { on := 12, ground := Ground.phase }, { on := 13, ground := Ground.phase }, { on := 14, ground := Ground.phase }, { on := 15, ground := Ground.phase }, { on := 16, ground := Ground.phase }], guard := none }) (v := ?_) rfl (by kernel_rfl) (by kernel_rfl) (by kernel_rfl) (fun _ _ _ h => h) (Or.inl ⟨by rfl, ?_⟩) (by assumption) ?_
        rotate_left
        · intro w hSw
          try dsimp only at hSw
          go_simp
          try with_reducible rfl
        try simp only [Act.put, List.setIfInBounds_toArray, List.set_cons_zero, List.set_cons_succ]
        refine wpAnyH_done (by kernel_rfl) ?_ _
        clear hT7
        have HEq : Hid (layGo g b count (f + 1) i m' = _) := layGo.eq_2 g b count i m' f
        have e8 := HE.out.trans HEq.out
        have HE8 := Lib.hid e8
        clear e8 HEq HE ws1 ws2
        generalize dWrite m' ((g.frm : Int) + g.place + i) (mk g.ses g.num i count ((b.drop (i * 48)).take 48)) = r at HD7 hwb HE8 ⊢
        obtain ⟨m8, ec⟩ := r
        dsimp only at hwb HE8 HD7 ⊢
        by_cases hec : ec = 0
        · subst hec
          have HE9 := Lib.hid (HE8.out.trans (if_pos rfl))
          go_wp2_with fail
          constructor
          · exact ⟨f, i + 1, m8, P7, by go_num, by omega, by omega, by omega, HE9.out, HD7.out, HF7.out⟩
          · show count - ((i : Int) + 1).toNat < count - (i : Int).toNat
            omega
        · have HE9 := Lib.hid (HE8.out.trans (if_neg hec))
          have de : (ec != 0) = true := by simpa using hec
          clear HE8
          go_wp2_with fail
          go_ret
          rw [HE9.out]
          exact ⟨P7, rfl, HD7.out, HF7.out⟩
      · have hpart := hSr.1.cut x1 (k - x1) (by omega)
        have hbl := hSr.1.1
        have HPart := Lib.hid (show Rd wr (some ⟨gb, off + x1, none⟩) (k - x1) ((b.drop (i * 48)).take 48) by
          rw [← HX1.out]
          rw [List.take_of_length_le (by rw [List.length_drop]; omega)] at hpart ⊢
          exact hpart)
        have hz : k - x1 ≤ 48 := by omega
        clear hpart hbl
        go_upto_region 5 with fail
        generalize k - x1 = z at HPart hz ⊢
        have hLr := HG.out.d H.out HF.out.bf
        have hbd : Below wr.heap.size wr wr.drew := (Below.refl _ _).drew
        have hLd := hLr.below hbd
        have HNP := Lib.hid (newPiece_any wr.drew g.ses g.num i count (some ⟨gb, off + x1, none⟩) z (c - x1) _ (HPart.out.below hbd) hz hses hnum (by omega) (by omega))
        have hBw := HD.out.base
        have HLd := Lib.hid hLd
        have HDd := Lib.hid (HD.out.below hbd)
        have HFd := Lib.hid (HF.out.trans (DkF.new hbd hBw))
        have hT : (fun W : World => W.cell? ⟨A, 5, none⟩ = some (.int .u32 g.ses) ∧ W.cell? ⟨A, 4, none⟩ = some (.int .u32 g.num)) wr.drew := ⟨hLd.cell 5, hLd.cell 4⟩
        clear hLr hbd hLd hBw HPart hSr HD HF
        refine wp_region_held_drew (S := (fun W : World => W.cell? ⟨A, 5, none⟩ = some (.int .u32 g.ses) ∧ W.cell? ⟨A, 4, none⟩ = some (.int .u32 g.num))) (by kernel_rfl) hT (fun hHeld => ?_)
        clear hHeld
        refine wpAnyH_take (i := 0) (oi := { dst := some 25, op := Op.move (Operand.tmp 0), type := 32, pos := "journal.go:99", after := #[], guard := none }) (v := ?_) rfl (by kernel_rfl) (by kernel_rfl) (by kernel_rfl) (fun _ _ _ h => h) (Or.inl ⟨by rfl, ?_⟩) (by assumption) ?_
        rotate_left
        · intro w hSw
          try dsimp only at hSw
          go_simp
          try with_reducible rfl
        try simp only [Act.put, List.setIfInBounds_toArray, List.set_cons_zero, List.set_cons_succ]
        refine wpAnyH_take (i := 1) (oi := { dst := some 26, op := Op.nilCheck (Operand.tmp 25), type := 0, pos := "journal.go:99", after := #[{ on := 0, ground := Ground.data }], guard := none }) (v := ?_) rfl (by kernel_rfl) (by kernel_rfl) (by kernel_rfl) (fun _ _ _ h => h) (Or.inl ⟨by rfl, ?_⟩) (by assumption) ?_
        rotate_left
        · intro w hSw
          try dsimp only at hSw
          go_simp
          try with_reducible rfl
        try simp only [Act.put, List.setIfInBounds_toArray, List.set_cons_zero, List.set_cons_succ]
        refine wpAnyH_take (i := 2) (oi := { dst := some 27, op := Op.fieldAddr 76 (Operand.tmp 26) 5, type := 0, pos := "journal.go:99", after := #[{ on := 1, ground := Ground.data }], guard := none }) (v := ?_) rfl (by kernel_rfl) (by kernel_rfl) (by kernel_rfl) (fun _ _ _ h => h) (Or.inl ⟨by rfl, ?_⟩) (by assumption) ?_
        rotate_left
        · intro w hSw
          try dsimp only at hSw
          go_simp
          try with_reducible rfl
        try simp only [Act.put, List.setIfInBounds_toArray, List.set_cons_zero, List.set_cons_succ]
        refine wpAnyH_take (i := 3) (oi := { dst := some 28, op := Op.load 70 (Operand.tmp 27), type := 70, pos := "journal.go:99", after := #[{ on := 2, ground := Ground.data }], guard := none }) (v := ?_) rfl (by kernel_rfl) (by kernel_rfl) (by kernel_rfl) (fun _ _ _ h => h) (Or.inl ⟨by rfl, ?_⟩) (by assumption) ?_
        rotate_left
        · intro w hSw
          try dsimp only at hSw
          go_simp
          try with_reducible rfl
        try simp only [Act.put, List.setIfInBounds_toArray, List.set_cons_zero, List.set_cons_succ]
        refine wpAnyH_take (i := 4) (oi := { dst := some 29, op := Op.move (Operand.tmp 0), type := 32, pos := "journal.go:99", after := #[], guard := none }) (v := ?_) rfl (by kernel_rfl) (by kernel_rfl) (by kernel_rfl) (fun _ _ _ h => h) (Or.inl ⟨by rfl, ?_⟩) (by assumption) ?_
        rotate_left
        · intro w hSw
          try dsimp only at hSw
          go_simp
          try with_reducible rfl
        try simp only [Act.put, List.setIfInBounds_toArray, List.set_cons_zero, List.set_cons_succ]
        refine wpAnyH_take (i := 5) (oi := { dst := some 30, op := Op.nilCheck (Operand.tmp 29), type := 0, pos := "journal.go:99", after := #[{ on := 4, ground := Ground.data }], guard := none }) (v := ?_) rfl (by kernel_rfl) (by kernel_rfl) (by kernel_rfl) (fun _ _ _ h => h) (Or.inl ⟨by rfl, ?_⟩) (by assumption) ?_
        rotate_left
        · intro w hSw
          try dsimp only at hSw
          go_simp
          try with_reducible rfl
        try simp only [Act.put, List.setIfInBounds_toArray, List.set_cons_zero, List.set_cons_succ]
        refine wpAnyH_take (i := 6) (oi := { dst := some 31, op := Op.fieldAddr 76 (Operand.tmp 30) 4, type := 0, pos := "journal.go:99", after := #[{ on := 5, ground := Ground.data }], guard := none }) (v := ?_) rfl (by kernel_rfl) (by kernel_rfl) (by kernel_rfl) (fun _ _ _ h => h) (Or.inl ⟨by rfl, ?_⟩) (by assumption) ?_
        rotate_left
        · intro w hSw
          try dsimp only at hSw
          go_simp
          try with_reducible rfl
        try simp only [Act.put, List.setIfInBounds_toArray, List.set_cons_zero, List.set_cons_succ]
        refine wpAnyH_take (i := 7) (oi := { dst := some 32, op := Op.load 70 (Operand.tmp 31), type := 70, pos := "journal.go:99", after := #[{ on := 6, ground := Ground.data }], guard := none }) (v := ?_) rfl (by kernel_rfl) (by kernel_rfl) (by kernel_rfl) (fun _ _ _ h => h) (Or.inl ⟨by rfl, ?_⟩) (by assumption) ?_
        rotate_left
        · intro w hSw
          try dsimp only at hSw
          go_simp
          try with_reducible rfl
        try simp only [Act.put, List.setIfInBounds_toArray, List.set_cons_zero, List.set_cons_succ]
        refine wpAnyH_take (i := 8) (oi := { dst := some 33, op := Op.move (Operand.tmp 7), type := 3, pos := "journal.go:99", after := #[], guard := none }) (v := ?_) rfl (by kernel_rfl) (by kernel_rfl) (by kernel_rfl) (fun _ _ _ h => h) (Or.inl ⟨by rfl, ?_⟩) (by assumption) ?_
        rotate_left
        · intro w hSw
          try dsimp only at hSw
          go_simp
          try with_reducible rfl
        try simp only [Act.put, List.setIfInBounds_toArray, List.set_cons_zero, List.set_cons_succ]
        refine wpAnyH_take (i := 9) (oi := { dst := some 34, op := Op.move (Operand.tmp 2), type := 3, pos := "journal.go:99", after := #[], guard := none }) (v := ?_) rfl (by kernel_rfl) (by kernel_rfl) (by kernel_rfl) (fun _ _ _ h => h) (Or.inl ⟨by rfl, ?_⟩) (by assumption) ?_
        rotate_left
        · intro w hSw
          try dsimp only at hSw
          go_simp
          try with_reducible rfl
        try simp only [Act.put, List.setIfInBounds_toArray, List.set_cons_zero, List.set_cons_succ]
        refine wpAnyH_take (i := 10) (oi := { dst := some 35, op := Op.move (Operand.tmp 8), type := 45, pos := "journal.go:99", after := #[], guard := none }) (v := ?_) rfl (by kernel_rfl) (by kernel_rfl) (by kernel_rfl) (fun _ _ _ h => h) (Or.inl ⟨by rfl, ?_⟩) (by assumption) ?_
        rotate_left
        · intro w hSw
          try dsimp only at hSw
          go_simp
          try with_reducible rfl
        try simp only [Act.put, List.setIfInBounds_toArray, List.set_cons_zero, List.set_cons_succ]
        refine wpAnyH_ready (rs := [11]) (by kernel_rfl) (by simp) ?_
        refine AllReadyH.cons (o := { dst := some 36, op := Op.call { callee := Callee.value (Operand.func 57), args := #[Operand.tmp 28, Operand.tmp 32, Operand.tmp 33, Operand.tmp 34, Operand.tmp 35], argTypes := #[70, 70, 3, 3, 45] }, type := 74, pos := "journal.go:99", after := #[{ on := 3, ground := Ground.data }, { on := 7, ground := Ground.data }, { on := 8, ground := Ground.data }, { on := 9, ground := Ground.data }, { on := 10, ground := Ground.data }], guard := none }) rfl (fun K hK => ?_) AllReadyH.nil
        go_simp
        with_reducible refine HNP.out.mono ?_
        clear HNP
        rintro e w5 ⟨G, rfl, hG, hrow, hb5⟩
        have hL5 := HLd.out.below hb5
        have HL5 := Lib.hid hL5
        have hD5 := HDd.out.below hb5
        have HD5 := Lib.hid hD5
        have HF5 := Lib.hid (HFd.out.trans (DkF.new hb5 HDd.out.base))
        have HRow := Lib.hid hrow
        have hT5 : (fun W : World => W.cell? ⟨A, 5, none⟩ = some (.int .u32 g.ses) ∧ W.cell? ⟨A, 4, none⟩ = some (.int .u32 g.num)) w5 := ⟨hL5.cell 5, hL5.cell 4⟩
        clear hL5 hD5 hrow hb5 HLd HDd HFd
        try go_wp2_with fail
        refine hK.out _ _ hT5 (fun _ => ?_)
        clear hK K
        try simp only [Act.put, List.setIfInBounds_toArray, List.set_cons_zero, List.set_cons_succ]
        clear hT
        refine wpAnyH_take (i := 12) (oi := { dst := some 9, op := Op.assign (Operand.tmp 36), type := 74, pos := "journal.go:99", after := #[{ on := 11, ground := Ground.data }, { on := 11, ground := Ground.chain }, { on := 0, ground := Ground.phase }, { on := 1, ground := Ground.phase }, { on := 2, ground := Ground.phase }, { on := 3, ground := Ground.phase }, { on := 4, ground := Ground.phase }, { on := 5, ground := Ground.phase }, { on := 6, ground := Ground.phase }, { on := 7, ground := Ground.phase }, { on := 8, ground := Ground.phase }, { on := 9, ground := Ground.phase }, { on := 10, ground := Ground.phase }, { on := 11, ground := Ground.phase }], guard := none }) (v := ?_) rfl (by kernel_rfl) (by kernel_rfl) (by kernel_rfl) (fun _ _ _ h => h) (Or.inl ⟨by rfl, ?_⟩) (by assumption) ?_
        rotate_left
        · intro w hSw
          try dsimp only at hSw
          go_simp
          try with_reducible rfl
        try simp only [Act.put, List.setIfInBounds_toArray, List.set_cons_zero, List.set_cons_succ]
        refine wpAnyH_done (by kernel_rfl) ?_ _
        clear hT5
        go_wp2_with fail
        have hbd : Below w5.heap.size w5 w5.drew := (Below.refl _ _).drew
        have hL6 := HL5.out.below hbd
        have HD6 := Lib.hid (HD5.out.below hbd)
        have HF6 := Lib.hid (HF5.out.trans (DkF.new hbd HD5.out.base))
        have HL6 := Lib.hid hL6
        have hlen : (mk g.ses g.num i count ((b.drop (i * 48)).take 48)).length = 64 := mk_length _ _ _ _ _ (by rw [List.length_take]; omega)
        have hW6 := Write_any HD6.out (some ⟨G, 0, none⟩) 64 64 _ ((g.frm : Int) + g.place + i) ((HRow.out.below hbd).rd hlen) (by omega) (by omega)
        rw [← HGd.out] at hW6
        have HW6 := Lib.hid hW6
        have ws1 : IntKind.i64.wrap ((g.frm : Int) + g.place) = (g.frm : Int) + g.place := by rw [IntKind.wrap_i64]; omega
        have ws2 : IntKind.i64.wrap ((g.frm : Int) + g.place + i) = (g.frm : Int) + g.place + i := by rw [IntKind.wrap_i64]; omega
        have hT : (fun W : World => W.cell? ⟨A, 0, none⟩ = some (.pointer (some ⟨g.d, 0, none⟩)) ∧ W.cell? ⟨A, 1, none⟩ = some (.int .i64 (g.frm : Int)) ∧ W.cell? ⟨A, 3, none⟩ = some (.int .i64 (g.place : Int))) w5.drew := ⟨hL6.cell 0, hL6.cell 1, hL6.cell 3⟩
        clear hbd hL6 hW6 hlen HD5 HF5 HL5 HRow
        refine wp_region_held_drew (S := (fun W : World => W.cell? ⟨A, 0, none⟩ = some (.pointer (some ⟨g.d, 0, none⟩)) ∧ W.cell? ⟨A, 1, none⟩ = some (.int .i64 (g.frm : Int)) ∧ W.cell? ⟨A, 3, none⟩ = some (.int .i64 (g.place : Int)))) (by kernel_rfl) hT (fun hHeld => ?_)
        clear hHeld
        refine wpAnyH_take (i := 0) (oi := { dst := some 37, op := Op.move (Operand.tmp 0), type := 32, pos := "journal.go:100", after := #[], guard := none }) (v := ?_) rfl (by kernel_rfl) (by kernel_rfl) (by kernel_rfl) (fun _ _ _ h => h) (Or.inl ⟨by rfl, ?_⟩) (by assumption) ?_
        rotate_left
        · intro w hSw
          try dsimp only at hSw
          go_simp
          try with_reducible rfl
        try simp only [Act.put, List.setIfInBounds_toArray, List.set_cons_zero, List.set_cons_succ]
        refine wpAnyH_take (i := 1) (oi := { dst := some 38, op := Op.nilCheck (Operand.tmp 37), type := 0, pos := "journal.go:100", after := #[{ on := 0, ground := Ground.data }], guard := none }) (v := ?_) rfl (by kernel_rfl) (by kernel_rfl) (by kernel_rfl) (fun _ _ _ h => h) (Or.inl ⟨by rfl, ?_⟩) (by assumption) ?_
        rotate_left
        · intro w hSw
          try dsimp only at hSw
          go_simp
          try with_reducible rfl
        try simp only [Act.put, List.setIfInBounds_toArray, List.set_cons_zero, List.set_cons_succ]
        refine wpAnyH_take (i := 2) (oi := { dst := some 39, op := Op.fieldAddr 76 (Operand.tmp 38) 0, type := 0, pos := "journal.go:100", after := #[{ on := 1, ground := Ground.data }], guard := none }) (v := ?_) rfl (by kernel_rfl) (by kernel_rfl) (by kernel_rfl) (fun _ _ _ h => h) (Or.inl ⟨by rfl, ?_⟩) (by assumption) ?_
        rotate_left
        · intro w hSw
          try dsimp only at hSw
          go_simp
          try with_reducible rfl
        try simp only [Act.put, List.setIfInBounds_toArray, List.set_cons_zero, List.set_cons_succ]
        refine wpAnyH_take (i := 3) (oi := { dst := some 40, op := Op.load 25 (Operand.tmp 39), type := 25, pos := "journal.go:100", after := #[{ on := 2, ground := Ground.data }], guard := none }) (v := ?_) rfl (by kernel_rfl) (by kernel_rfl) (by kernel_rfl) (fun _ _ _ h => h) (Or.inl ⟨by rfl, ?_⟩) (by assumption) ?_
        rotate_left
        · intro w hSw
          try dsimp only at hSw
          go_simp
          try with_reducible rfl
        try simp only [Act.put, List.setIfInBounds_toArray, List.set_cons_zero, List.set_cons_succ]
        refine wpAnyH_take (i := 4) (oi := { dst := some 41, op := Op.move (Operand.tmp 0), type := 32, pos := "journal.go:100", after := #[], guard := none }) (v := ?_) rfl (by kernel_rfl) (by kernel_rfl) (by kernel_rfl) (fun _ _ _ h => h) (Or.inl ⟨by rfl, ?_⟩) (by assumption) ?_
        rotate_left
        · intro w hSw
          try dsimp only at hSw
          go_simp
          try with_reducible rfl
        try simp only [Act.put, List.setIfInBounds_toArray, List.set_cons_zero, List.set_cons_succ]
        refine wpAnyH_take (i := 5) (oi := { dst := some 42, op := Op.nilCheck (Operand.tmp 41), type := 0, pos := "journal.go:100", after := #[{ on := 4, ground := Ground.data }], guard := none }) (v := ?_) rfl (by kernel_rfl) (by kernel_rfl) (by kernel_rfl) (fun _ _ _ h => h) (Or.inl ⟨by rfl, ?_⟩) (by assumption) ?_
        rotate_left
        · intro w hSw
          try dsimp only at hSw
          go_simp
          try with_reducible rfl
        try simp only [Act.put, List.setIfInBounds_toArray, List.set_cons_zero, List.set_cons_succ]
        refine wpAnyH_take (i := 6) (oi := { dst := some 43, op := Op.fieldAddr 76 (Operand.tmp 42) 1, type := 0, pos := "journal.go:100", after := #[{ on := 5, ground := Ground.data }], guard := none }) (v := ?_) rfl (by kernel_rfl) (by kernel_rfl) (by kernel_rfl) (fun _ _ _ h => h) (Or.inl ⟨by rfl, ?_⟩) (by assumption) ?_
        rotate_left
        · intro w hSw
          try dsimp only at hSw
          go_simp
          try with_reducible rfl
        try simp only [Act.put, List.setIfInBounds_toArray, List.set_cons_zero, List.set_cons_succ]
        refine wpAnyH_take (i := 7) (oi := { dst := some 44, op := Op.load 3 (Operand.tmp 43), type := 3, pos := "journal.go:100", after := #[{ on := 6, ground := Ground.data }], guard := none }) (v := ?_) rfl (by kernel_rfl) (by kernel_rfl) (by kernel_rfl) (fun _ _ _ h => h) (Or.inl ⟨by rfl, ?_⟩) (by assumption) ?_
        rotate_left
        · intro w hSw
          try dsimp only at hSw
          go_simp
          try with_reducible rfl
        try simp only [Act.put, List.setIfInBounds_toArray, List.set_cons_zero, List.set_cons_succ]
        refine wpAnyH_take (i := 8) (oi := { dst := some 45, op := Op.move (Operand.tmp 0), type := 32, pos := "journal.go:100", after := #[], guard := none }) (v := ?_) rfl (by kernel_rfl) (by kernel_rfl) (by kernel_rfl) (fun _ _ _ h => h) (Or.inl ⟨by rfl, ?_⟩) (by assumption) ?_
        rotate_left
        · intro w hSw
          try dsimp only at hSw
          go_simp
          try with_reducible rfl
        try simp only [Act.put, List.setIfInBounds_toArray, List.set_cons_zero, List.set_cons_succ]
        refine wpAnyH_take (i := 9) (oi := { dst := some 46, op := Op.nilCheck (Operand.tmp 45), type := 0, pos := "journal.go:100", after := #[{ on := 8, ground := Ground.data }], guard := none }) (v := ?_) rfl (by kernel_rfl) (by kernel_rfl) (by kernel_rfl) (fun _ _ _ h => h) (Or.inl ⟨by rfl, ?_⟩) (by assumption) ?_
        rotate_left
        · intro w hSw
          try dsimp only at hSw
          go_simp
          try with_reducible rfl
        try simp only [Act.put, List.setIfInBounds_toArray, List.set_cons_zero, List.set_cons_succ]
        refine wpAnyH_take (i := 10) (oi := { dst := some 47, op := Op.fieldAddr 76 (Operand.tmp 46) 3, type := 0, pos := "journal.go:100", after := #[{ on := 9, ground := Ground.data }], guard := none }) (v := ?_) rfl (by kernel_rfl) (by kernel_rfl) (by kernel_rfl) (fun _ _ _ h => h) (Or.inl ⟨by rfl, ?_⟩) (by assumption) ?_
        rotate_left
        · intro w hSw
          try dsimp only at hSw
          go_simp
          try with_reducible rfl
        try simp only [Act.put, List.setIfInBounds_toArray, List.set_cons_zero, List.set_cons_succ]
        refine wpAnyH_take (i := 11) (oi := { dst := some 48, op := Op.load 3 (Operand.tmp 47), type := 3, pos := "journal.go:100", after := #[{ on := 10, ground := Ground.data }], guard := none }) (v := ?_) rfl (by kernel_rfl) (by kernel_rfl) (by kernel_rfl) (fun _ _ _ h => h) (Or.inl ⟨by rfl, ?_⟩) (by assumption) ?_
        rotate_left
        · intro w hSw
          try dsimp only at hSw
          go_simp
          try with_reducible rfl
        try simp only [Act.put, List.setIfInBounds_toArray, List.set_cons_zero, List.set_cons_succ]
        refine wpAnyH_take (i := 12) (oi := { dst := some 49, op := Op.binOp BinOp.add 3 (Operand.tmp 44) (Operand.tmp 48) 3, type := 3, pos := "journal.go:100", after := #[{ on := 7, ground := Ground.data }, { on := 11, ground := Ground.data }], guard := none }) (v := ?_) rfl (by kernel_rfl) (by kernel_rfl) (by kernel_rfl) (fun _ _ _ h => h) (Or.inl ⟨by rfl, ?_⟩) (by assumption) ?_
        rotate_left
        · intro w hSw
          try dsimp only at hSw
          go_simp
          try with_reducible rfl
        try simp only [Act.put, List.setIfInBounds_toArray, List.set_cons_zero, List.set_cons_succ]
        refine wpAnyH_take (i := 13) (oi := { dst := some 50, op := Op.move (Operand.tmp 7), type := 3, pos := "journal.go:100", after := #[], guard := none }) (v := ?_) rfl (by kernel_rfl) (by kernel_rfl) (by kernel_rfl) (fun _ _ _ h => h) (Or.inl ⟨by rfl, ?_⟩) (by assumption) ?_
        rotate_left
        · intro w hSw
          try dsimp only at hSw
          go_simp
          try with_reducible rfl
        try simp only [Act.put, List.setIfInBounds_toArray, List.set_cons_zero, List.set_cons_succ]
        refine wpAnyH_take (i := 14) (oi := { dst := some 51, op := Op.binOp BinOp.add 3 (Operand.tmp 49) (Operand.tmp 50) 3, type := 3, pos := "journal.go:100", after := #[{ on := 12, ground := Ground.data }, { on := 13, ground := Ground.data }], guard := none }) (v := ?_) rfl (by kernel_rfl) (by kernel_rfl) (by kernel_rfl) (fun _ _ _ h => h) (Or.inl ⟨by rfl, ?_⟩) (by assumption) ?_
        rotate_left
        · intro w hSw
          try dsimp only at hSw
          go_simp
          try with_reducible rfl
        try simp only [Act.put, List.setIfInBounds_toArray, List.set_cons_zero, List.set_cons_succ]
        refine wpAnyH_take (i := 15) (oi := { dst := some 52, op := Op.move (Operand.tmp 9), type := 74, pos := "journal.go:100", after := #[], guard := none }) (v := ?_) rfl (by kernel_rfl) (by kernel_rfl) (by kernel_rfl) (fun _ _ _ h => h) (Or.inl ⟨by rfl, ?_⟩) (by assumption) ?_
        rotate_left
        · intro w hSw
          try dsimp only at hSw
          go_simp
          try with_reducible rfl
        try simp only [Act.put, List.setIfInBounds_toArray, List.set_cons_zero, List.set_cons_succ]
        refine wpAnyH_ready (rs := [16]) (by kernel_rfl) (by simp) ?_
        refine AllReadyH.cons (o := { dst := some 53, op := Op.call { callee := Callee.value (Operand.func 19), args := #[Operand.tmp 40, Operand.tmp 51, Operand.tmp 52], argTypes := #[25, 3, 45] }, type := 26, pos := "journal.go:100", after := #[{ on := 3, ground := Ground.data }, { on := 14, ground := Ground.data }, { on := 15, ground := Ground.data }], guard := none }) rfl (fun K hK => ?_) AllReadyH.nil
        go_simp
        with_reducible refine HW6.out.mono ?_
        clear HW6
        rintro e w7 ⟨P7, rfl, hd7, hf7⟩
        rw [HGd.out] at hd7 hf7
        have hL7 := HL6.out.d HD6.out hf7.bf
        have HD7 := Lib.hid hd7
        have HF7 := Lib.hid (HF6.out.trans hf7)
        have hT7 : (fun W : World => W.cell? ⟨A, 0, none⟩ = some (.pointer (some ⟨g.d, 0, none⟩)) ∧ W.cell? ⟨A, 1, none⟩ = some (.int .i64 (g.frm : Int)) ∧ W.cell? ⟨A, 3, none⟩ = some (.int .i64 (g.place : Int))) w7 := ⟨hL7.cell 0, hL7.cell 1, hL7.cell 3⟩
        have hwb := dWrite_bd m' ((g.frm : Int) + g.place + i) (mk g.ses g.num i count ((b.drop (i * 48)).take 48))
        clear hL7 hd7 hf7 HL6 HD6 HF6
        try go_wp2_with fail
        refine hK.out _ _ hT7 (fun _ => ?_)
        clear hK K
        try simp only [Act.put, List.setIfInBounds_toArray, List.set_cons_zero, List.set_cons_succ]
        clear hT
        refine wpAnyH_take (i := 17) (oi := { dst := some 10, op := Op.assign (Operand.tmp 53), type := 26, pos := "journal.go:100", after := #[{ on := 16, ground := Ground.data }, { on := 16, ground := Ground.chain }, { on := 0, ground := Ground.phase }, { on := 1, ground := Ground.phase }, { on := 2, ground := Ground.phase }, { on := 3, ground := Ground.phase }, { on := 4, ground := Ground.phase }, { on := 5, ground := Ground.phase }, { on := 6, ground := Ground.phase }, { on := 7, ground := Ground.phase }, { on := 8, ground := Ground.phase }, { on := 9, ground := Ground.phase }, { on := 10, ground := Ground.phase }, { on := 11, ground := Ground.phase }, { on := 12, ground := Ground.phase }, { on := 13, ground := Ground.phase }, { on := 14, ground := Ground.phase }, { on := 15, ground := Ground.phase }, { on := 16, ground := Ground.phase }], guard := none }) (v := ?_) rfl (by kernel_rfl) (by kernel_rfl) (by kernel_rfl) (fun _ _ _ h => h) (Or.inl ⟨by rfl, ?_⟩) (by assumption) ?_
        rotate_left
        · intro w hSw
          try dsimp only at hSw
          go_simp
          try with_reducible rfl
        try simp only [Act.put, List.setIfInBounds_toArray, List.set_cons_zero, List.set_cons_succ]
        refine wpAnyH_done (by kernel_rfl) ?_ _
        clear hT7
        have HEq : Hid (layGo g b count (f + 1) i m' = _) := layGo.eq_2 g b count i m' f
        have e8 := HE.out.trans HEq.out
        have HE8 := Lib.hid e8
        clear e8 HEq HE ws1 ws2
        generalize dWrite m' ((g.frm : Int) + g.place + i) (mk g.ses g.num i count ((b.drop (i * 48)).take 48)) = r at HD7 hwb HE8 ⊢
        obtain ⟨m8, ec⟩ := r
        dsimp only at hwb HE8 HD7 ⊢
        by_cases hec : ec = 0
        · subst hec
          have HE9 := Lib.hid (HE8.out.trans (if_pos rfl))
          go_wp2_with fail
          constructor
          · exact ⟨f, i + 1, m8, P7, by go_num, by omega, by omega, by omega, HE9.out, HD7.out, HF7.out⟩
          · show count - ((i : Int) + 1).toNat < count - (i : Int).toNat
            omega
        · have HE9 := Lib.hid (HE8.out.trans (if_neg hec))
          have de : (ec != 0) = true := by simpa using hec
          clear HE8
          go_wp2_with fail
          go_ret
          rw [HE9.out]
          exact ⟨P7, rfl, HD7.out, HF7.out⟩
    · have di : decide ((i : Int) < (count : Int)) = false := decide_eq_false (by omega)
      obtain rfl : f = 0 := by omega
      have hL := HG.out.d H.out HF.out.bf
      have c0 := hL.cell 0
      simp only [lgcells] at c0
      simp at c0
      have hS := Sync_any HD.out (by omega) (by omega)
      rw [← HGd.out] at hS
      have HSy := Lib.hid hS
      have e8 : Hid (layGo g b count count 0 m = dSync m') := HE.out
      clear hL hS HE
      go_wp2_with fail
      with_reducible refine HSy.out.mono ?_
      rintro e w7 ⟨P7, rfl, hd7, hf7⟩
      rw [HGd.out] at hd7 hf7
      have HD7 := Lib.hid hd7
      have HF7 := Lib.hid (HF.out.trans hf7)
      clear hd7 hf7
      go_wp2_with fail
      go_ret
      rw [e8.out]
      exact ⟨P7, rfl, HD7.out, HF7.out⟩
set_option maxHeartbeats 4000000 in
set_option maxRecDepth 100000 in
theorem lay_zero {B D L N A : Nat} {P : Value} {m : Dk} {g : Lg} {w : World} (h : DiskAt B D L N P m w) (hg : LogAt A g w) (hgd : g.d = D) (p : Option Addr) (c count : Nat) (b : List Int) (hb : b = []) (hcount : count = 1) (hpc : p = none → c = 0)
    (hpo : ∀ a, p = some a → a.spot = none) (hfp : g.frm + g.place ≤ 1000000) (hw : m.writes + count < 999990) (hp : m.pend.length + count ≤ 999990) (hnum : 0 ≤ g.num ∧ g.num ≤ 4294967295) (hses : 0 ≤ g.ses ∧ g.ses ≤ 4294967295) :
    Calls Try.prog 48 #[.pointer (some ⟨A, 0, none⟩), .slice p 0 c, .int .i64 (count : Int)] w (LayPost B D L N P (layGo g b count count 0 m) w) := by
  have H := Lib.hid h
  have HG := Lib.hid hg
  have HGd := Lib.hid hgd
  have HBn := Lib.hid hb
  have hc3 : count ≤ 65535 := by omega
  have HCt := Lib.hid hcount
  clear h hg hgd hb hcount
  go_enter Try.func48, Try.ntmps48
  go_wp2_with fail
  go_loopw [12] (fun v wr => ∃ (f i : Nat) (m' : Dk) (P' : Value), v = .int .i64 (i : Int) ∧ f + i = count ∧ m'.writes ≤ m.writes + i ∧ m'.pend.length ≤ m.pend.length + i ∧ Hid (layGo g b count count 0 m = layGo g b count f i m') ∧ Hid (DiskAt B D L N P' m' wr) ∧ Hid (DkF B D L N P w P' wr)) (fun v _ => count - (intOf v).toNat)
  case atStart => exact ⟨count, 0, m, P, rfl, rfl, by omega, by omega, rfl, H.out, DkF.refl⟩
  case round =>
    obtain ⟨f, i, m', P', rfl, hfi, hmw, hmp, HE, HD, HF⟩ := hrel
    by_cases hi : i < count
    · have di : decide ((i : Int) < (count : Int)) = true := decide_eq_true (by omega)
      obtain ⟨f, rfl⟩ : ∃ f', f = f' + 1 := ⟨f - 1, by omega⟩
      have hcc := HCt.out
      have e1 : (i : Int) * 48 = 0 := by omega
      have e2 : ((i : Int) + 1) * 48 = 48 := by omega
      have hicount : i ≤ 65535 := by omega
      have HPart : Hid (∀ q, Rd wr q 0 ((b.drop (i * 48)).take 48)) := fun q => by rw [HBn.out, List.drop_nil]; exact ⟨rfl, fun h => absurd h (by omega)⟩
      have hSr : True := trivial
      clear hcc
      cases p with
      | none =>
        obtain rfl : c = 0 := hpc rfl
        go_upto_region 5 with fail
        have hLr := HG.out.d H.out HF.out.bf
        have hbd : Below wr.heap.size wr wr.drew := (Below.refl _ _).drew
        have hLd := hLr.below hbd
        have HNP := Lib.hid (newPiece_any wr.drew g.ses g.num i count none 0 0 _ ((HPart.out none).below hbd) (Nat.zero_le _) hses hnum (by omega) (by omega))
        have hBw := HD.out.base
        have HLd := Lib.hid hLd
        have HDd := Lib.hid (HD.out.below hbd)
        have HFd := Lib.hid (HF.out.trans (DkF.new hbd hBw))
        have hT : (fun W : World => W.cell? ⟨A, 5, none⟩ = some (.int .u32 g.ses) ∧ W.cell? ⟨A, 4, none⟩ = some (.int .u32 g.num)) wr.drew := ⟨hLd.cell 5, hLd.cell 4⟩
        clear hLr hbd hLd hBw HPart hSr HD HF
        refine wp_region_held_drew (S := (fun W : World => W.cell? ⟨A, 5, none⟩ = some (.int .u32 g.ses) ∧ W.cell? ⟨A, 4, none⟩ = some (.int .u32 g.num))) (by kernel_rfl) hT (fun hHeld => ?_)
        clear hHeld
        refine wpAnyH_take (i := 0) (oi := { dst := some 25, op := Op.move (Operand.tmp 0), type := 32, pos := "journal.go:99", after := #[], guard := none }) (v := ?_) rfl (by kernel_rfl) (by kernel_rfl) (by kernel_rfl) (fun _ _ _ h => h) (Or.inl ⟨by rfl, ?_⟩) (by assumption) ?_
        rotate_left
        · intro w hSw
          try dsimp only at hSw
          go_simp
          try with_reducible rfl
        try simp only [Act.put, List.setIfInBounds_toArray, List.set_cons_zero, List.set_cons_succ]
        refine wpAnyH_take (i := 1) (oi := { dst := some 26, op := Op.nilCheck (Operand.tmp 25), type := 0, pos := "journal.go:99", after := #[{ on := 0, ground := Ground.data }], guard := none }) (v := ?_) rfl (by kernel_rfl) (by kernel_rfl) (by kernel_rfl) (fun _ _ _ h => h) (Or.inl ⟨by rfl, ?_⟩) (by assumption) ?_
        rotate_left
        · intro w hSw
          try dsimp only at hSw
          go_simp
          try with_reducible rfl
        try simp only [Act.put, List.setIfInBounds_toArray, List.set_cons_zero, List.set_cons_succ]
        refine wpAnyH_take (i := 2) (oi := { dst := some 27, op := Op.fieldAddr 76 (Operand.tmp 26) 5, type := 0, pos := "journal.go:99", after := #[{ on := 1, ground := Ground.data }], guard := none }) (v := ?_) rfl (by kernel_rfl) (by kernel_rfl) (by kernel_rfl) (fun _ _ _ h => h) (Or.inl ⟨by rfl, ?_⟩) (by assumption) ?_
        rotate_left
        · intro w hSw
          try dsimp only at hSw
          go_simp
          try with_reducible rfl
        try simp only [Act.put, List.setIfInBounds_toArray, List.set_cons_zero, List.set_cons_succ]
        refine wpAnyH_take (i := 3) (oi := { dst := some 28, op := Op.load 70 (Operand.tmp 27), type := 70, pos := "journal.go:99", after := #[{ on := 2, ground := Ground.data }], guard := none }) (v := ?_) rfl (by kernel_rfl) (by kernel_rfl) (by kernel_rfl) (fun _ _ _ h => h) (Or.inl ⟨by rfl, ?_⟩) (by assumption) ?_
        rotate_left
        · intro w hSw
          try dsimp only at hSw
          go_simp
          try with_reducible rfl
        try simp only [Act.put, List.setIfInBounds_toArray, List.set_cons_zero, List.set_cons_succ]
        refine wpAnyH_take (i := 4) (oi := { dst := some 29, op := Op.move (Operand.tmp 0), type := 32, pos := "journal.go:99", after := #[], guard := none }) (v := ?_) rfl (by kernel_rfl) (by kernel_rfl) (by kernel_rfl) (fun _ _ _ h => h) (Or.inl ⟨by rfl, ?_⟩) (by assumption) ?_
        rotate_left
        · intro w hSw
          try dsimp only at hSw
          go_simp
          try with_reducible rfl
        try simp only [Act.put, List.setIfInBounds_toArray, List.set_cons_zero, List.set_cons_succ]
        refine wpAnyH_take (i := 5) (oi := { dst := some 30, op := Op.nilCheck (Operand.tmp 29), type := 0, pos := "journal.go:99", after := #[{ on := 4, ground := Ground.data }], guard := none }) (v := ?_) rfl (by kernel_rfl) (by kernel_rfl) (by kernel_rfl) (fun _ _ _ h => h) (Or.inl ⟨by rfl, ?_⟩) (by assumption) ?_
        rotate_left
        · intro w hSw
          try dsimp only at hSw
          go_simp
          try with_reducible rfl
        try simp only [Act.put, List.setIfInBounds_toArray, List.set_cons_zero, List.set_cons_succ]
        refine wpAnyH_take (i := 6) (oi := { dst := some 31, op := Op.fieldAddr 76 (Operand.tmp 30) 4, type := 0, pos := "journal.go:99", after := #[{ on := 5, ground := Ground.data }], guard := none }) (v := ?_) rfl (by kernel_rfl) (by kernel_rfl) (by kernel_rfl) (fun _ _ _ h => h) (Or.inl ⟨by rfl, ?_⟩) (by assumption) ?_
        rotate_left
        · intro w hSw
          try dsimp only at hSw
          go_simp
          try with_reducible rfl
        try simp only [Act.put, List.setIfInBounds_toArray, List.set_cons_zero, List.set_cons_succ]
        refine wpAnyH_take (i := 7) (oi := { dst := some 32, op := Op.load 70 (Operand.tmp 31), type := 70, pos := "journal.go:99", after := #[{ on := 6, ground := Ground.data }], guard := none }) (v := ?_) rfl (by kernel_rfl) (by kernel_rfl) (by kernel_rfl) (fun _ _ _ h => h) (Or.inl ⟨by rfl, ?_⟩) (by assumption) ?_
        rotate_left
        · intro w hSw
          try dsimp only at hSw
          go_simp
          try with_reducible rfl
        try simp only [Act.put, List.setIfInBounds_toArray, List.set_cons_zero, List.set_cons_succ]
        refine wpAnyH_take (i := 8) (oi := { dst := some 33, op := Op.move (Operand.tmp 7), type := 3, pos := "journal.go:99", after := #[], guard := none }) (v := ?_) rfl (by kernel_rfl) (by kernel_rfl) (by kernel_rfl) (fun _ _ _ h => h) (Or.inl ⟨by rfl, ?_⟩) (by assumption) ?_
        rotate_left
        · intro w hSw
          try dsimp only at hSw
          go_simp
          try with_reducible rfl
        try simp only [Act.put, List.setIfInBounds_toArray, List.set_cons_zero, List.set_cons_succ]
        refine wpAnyH_take (i := 9) (oi := { dst := some 34, op := Op.move (Operand.tmp 2), type := 3, pos := "journal.go:99", after := #[], guard := none }) (v := ?_) rfl (by kernel_rfl) (by kernel_rfl) (by kernel_rfl) (fun _ _ _ h => h) (Or.inl ⟨by rfl, ?_⟩) (by assumption) ?_
        rotate_left
        · intro w hSw
          try dsimp only at hSw
          go_simp
          try with_reducible rfl
        try simp only [Act.put, List.setIfInBounds_toArray, List.set_cons_zero, List.set_cons_succ]
        refine wpAnyH_take (i := 10) (oi := { dst := some 35, op := Op.move (Operand.tmp 8), type := 45, pos := "journal.go:99", after := #[], guard := none }) (v := ?_) rfl (by kernel_rfl) (by kernel_rfl) (by kernel_rfl) (fun _ _ _ h => h) (Or.inl ⟨by rfl, ?_⟩) (by assumption) ?_
        rotate_left
        · intro w hSw
          try dsimp only at hSw
          go_simp
          try with_reducible rfl
        try simp only [Act.put, List.setIfInBounds_toArray, List.set_cons_zero, List.set_cons_succ]
        refine wpAnyH_ready (rs := [11]) (by kernel_rfl) (by simp) ?_
        refine AllReadyH.cons (o := { dst := some 36, op := Op.call { callee := Callee.value (Operand.func 57), args := #[Operand.tmp 28, Operand.tmp 32, Operand.tmp 33, Operand.tmp 34, Operand.tmp 35], argTypes := #[70, 70, 3, 3, 45] }, type := 74, pos := "journal.go:99", after := #[{ on := 3, ground := Ground.data }, { on := 7, ground := Ground.data }, { on := 8, ground := Ground.data }, { on := 9, ground := Ground.data }, { on := 10, ground := Ground.data }], guard := none }) rfl (fun K hK => ?_) AllReadyH.nil
        go_simp
        with_reducible refine HNP.out.mono ?_
        clear HNP
        rintro e w5 ⟨G, rfl, hG, hrow, hb5⟩
        have hL5 := HLd.out.below hb5
        have HL5 := Lib.hid hL5
        have hD5 := HDd.out.below hb5
        have HD5 := Lib.hid hD5
        have HF5 := Lib.hid (HFd.out.trans (DkF.new hb5 HDd.out.base))
        have HRow := Lib.hid hrow
        have hT5 : (fun W : World => W.cell? ⟨A, 5, none⟩ = some (.int .u32 g.ses) ∧ W.cell? ⟨A, 4, none⟩ = some (.int .u32 g.num)) w5 := ⟨hL5.cell 5, hL5.cell 4⟩
        clear hL5 hD5 hrow hb5 HLd HDd HFd
        try go_wp2_with fail
        refine hK.out _ _ hT5 (fun _ => ?_)
        clear hK K
        try simp only [Act.put, List.setIfInBounds_toArray, List.set_cons_zero, List.set_cons_succ]
        clear hT
        refine wpAnyH_take (i := 12) (oi := { dst := some 9, op := Op.assign (Operand.tmp 36), type := 74, pos := "journal.go:99", after := #[{ on := 11, ground := Ground.data }, { on := 11, ground := Ground.chain }, { on := 0, ground := Ground.phase }, { on := 1, ground := Ground.phase }, { on := 2, ground := Ground.phase }, { on := 3, ground := Ground.phase }, { on := 4, ground := Ground.phase }, { on := 5, ground := Ground.phase }, { on := 6, ground := Ground.phase }, { on := 7, ground := Ground.phase }, { on := 8, ground := Ground.phase }, { on := 9, ground := Ground.phase }, { on := 10, ground := Ground.phase }, { on := 11, ground := Ground.phase }], guard := none }) (v := ?_) rfl (by kernel_rfl) (by kernel_rfl) (by kernel_rfl) (fun _ _ _ h => h) (Or.inl ⟨by rfl, ?_⟩) (by assumption) ?_
        rotate_left
        · intro w hSw
          try dsimp only at hSw
          go_simp
          try with_reducible rfl
        try simp only [Act.put, List.setIfInBounds_toArray, List.set_cons_zero, List.set_cons_succ]
        refine wpAnyH_done (by kernel_rfl) ?_ _
        clear hT5
        go_wp2_with fail
        have hbd : Below w5.heap.size w5 w5.drew := (Below.refl _ _).drew
        have hL6 := HL5.out.below hbd
        have HD6 := Lib.hid (HD5.out.below hbd)
        have HF6 := Lib.hid (HF5.out.trans (DkF.new hbd HD5.out.base))
        have HL6 := Lib.hid hL6
        have hlen : (mk g.ses g.num i count ((b.drop (i * 48)).take 48)).length = 64 := mk_length _ _ _ _ _ (by rw [List.length_take]; omega)
        have hW6 := Write_any HD6.out (some ⟨G, 0, none⟩) 64 64 _ ((g.frm : Int) + g.place + i) ((HRow.out.below hbd).rd hlen) (by omega) (by omega)
        rw [← HGd.out] at hW6
        have HW6 := Lib.hid hW6
        have ws1 : IntKind.i64.wrap ((g.frm : Int) + g.place) = (g.frm : Int) + g.place := by rw [IntKind.wrap_i64]; omega
        have ws2 : IntKind.i64.wrap ((g.frm : Int) + g.place + i) = (g.frm : Int) + g.place + i := by rw [IntKind.wrap_i64]; omega
        have hT : (fun W : World => W.cell? ⟨A, 0, none⟩ = some (.pointer (some ⟨g.d, 0, none⟩)) ∧ W.cell? ⟨A, 1, none⟩ = some (.int .i64 (g.frm : Int)) ∧ W.cell? ⟨A, 3, none⟩ = some (.int .i64 (g.place : Int))) w5.drew := ⟨hL6.cell 0, hL6.cell 1, hL6.cell 3⟩
        clear hbd hL6 hW6 hlen HD5 HF5 HL5 HRow
        refine wp_region_held_drew (S := (fun W : World => W.cell? ⟨A, 0, none⟩ = some (.pointer (some ⟨g.d, 0, none⟩)) ∧ W.cell? ⟨A, 1, none⟩ = some (.int .i64 (g.frm : Int)) ∧ W.cell? ⟨A, 3, none⟩ = some (.int .i64 (g.place : Int)))) (by kernel_rfl) hT (fun hHeld => ?_)
        clear hHeld
        refine wpAnyH_take (i := 0) (oi := { dst := some 37, op := Op.move (Operand.tmp 0), type := 32, pos := "journal.go:100", after := #[], guard := none }) (v := ?_) rfl (by kernel_rfl) (by kernel_rfl) (by kernel_rfl) (fun _ _ _ h => h) (Or.inl ⟨by rfl, ?_⟩) (by assumption) ?_
        rotate_left
        · intro w hSw
          try dsimp only at hSw
          go_simp
          try with_reducible rfl
        try simp only [Act.put, List.setIfInBounds_toArray, List.set_cons_zero, List.set_cons_succ]
        refine wpAnyH_take (i := 1) (oi := { dst := some 38, op := Op.nilCheck (Operand.tmp 37), type := 0, pos := "journal.go:100", after := #[{ on := 0, ground := Ground.data }], guard := none }) (v := ?_) rfl (by kernel_rfl) (by kernel_rfl) (by kernel_rfl) (fun _ _ _ h => h) (Or.inl ⟨by rfl, ?_⟩) (by assumption) ?_
        rotate_left
        · intro w hSw
          try dsimp only at hSw
          go_simp
          try with_reducible rfl
        try simp only [Act.put, List.setIfInBounds_toArray, List.set_cons_zero, List.set_cons_succ]
        refine wpAnyH_take (i := 2) (oi := { dst := some 39, op := Op.fieldAddr 76 (Operand.tmp 38) 0, type := 0, pos := "journal.go:100", after := #[{ on := 1, ground := Ground.data }], guard := none }) (v := ?_) rfl (by kernel_rfl) (by kernel_rfl) (by kernel_rfl) (fun _ _ _ h => h) (Or.inl ⟨by rfl, ?_⟩) (by assumption) ?_
        rotate_left
        · intro w hSw
          try dsimp only at hSw
          go_simp
          try with_reducible rfl
        try simp only [Act.put, List.setIfInBounds_toArray, List.set_cons_zero, List.set_cons_succ]
        refine wpAnyH_take (i := 3) (oi := { dst := some 40, op := Op.load 25 (Operand.tmp 39), type := 25, pos := "journal.go:100", after := #[{ on := 2, ground := Ground.data }], guard := none }) (v := ?_) rfl (by kernel_rfl) (by kernel_rfl) (by kernel_rfl) (fun _ _ _ h => h) (Or.inl ⟨by rfl, ?_⟩) (by assumption) ?_
        rotate_left
        · intro w hSw
          try dsimp only at hSw
          go_simp
          try with_reducible rfl
        try simp only [Act.put, List.setIfInBounds_toArray, List.set_cons_zero, List.set_cons_succ]
        refine wpAnyH_take (i := 4) (oi := { dst := some 41, op := Op.move (Operand.tmp 0), type := 32, pos := "journal.go:100", after := #[], guard := none }) (v := ?_) rfl (by kernel_rfl) (by kernel_rfl) (by kernel_rfl) (fun _ _ _ h => h) (Or.inl ⟨by rfl, ?_⟩) (by assumption) ?_
        rotate_left
        · intro w hSw
          try dsimp only at hSw
          go_simp
          try with_reducible rfl
        try simp only [Act.put, List.setIfInBounds_toArray, List.set_cons_zero, List.set_cons_succ]
        refine wpAnyH_take (i := 5) (oi := { dst := some 42, op := Op.nilCheck (Operand.tmp 41), type := 0, pos := "journal.go:100", after := #[{ on := 4, ground := Ground.data }], guard := none }) (v := ?_) rfl (by kernel_rfl) (by kernel_rfl) (by kernel_rfl) (fun _ _ _ h => h) (Or.inl ⟨by rfl, ?_⟩) (by assumption) ?_
        rotate_left
        · intro w hSw
          try dsimp only at hSw
          go_simp
          try with_reducible rfl
        try simp only [Act.put, List.setIfInBounds_toArray, List.set_cons_zero, List.set_cons_succ]
        refine wpAnyH_take (i := 6) (oi := { dst := some 43, op := Op.fieldAddr 76 (Operand.tmp 42) 1, type := 0, pos := "journal.go:100", after := #[{ on := 5, ground := Ground.data }], guard := none }) (v := ?_) rfl (by kernel_rfl) (by kernel_rfl) (by kernel_rfl) (fun _ _ _ h => h) (Or.inl ⟨by rfl, ?_⟩) (by assumption) ?_
        rotate_left
        · intro w hSw
          try dsimp only at hSw
          go_simp
          try with_reducible rfl
        try simp only [Act.put, List.setIfInBounds_toArray, List.set_cons_zero, List.set_cons_succ]
        refine wpAnyH_take (i := 7) (oi := { dst := some 44, op := Op.load 3 (Operand.tmp 43), type := 3, pos := "journal.go:100", after := #[{ on := 6, ground := Ground.data }], guard := none }) (v := ?_) rfl (by kernel_rfl) (by kernel_rfl) (by kernel_rfl) (fun _ _ _ h => h) (Or.inl ⟨by rfl, ?_⟩) (by assumption) ?_
        rotate_left
        · intro w hSw
          try dsimp only at hSw
          go_simp
          try with_reducible rfl
        try simp only [Act.put, List.setIfInBounds_toArray, List.set_cons_zero, List.set_cons_succ]
        refine wpAnyH_take (i := 8) (oi := { dst := some 45, op := Op.move (Operand.tmp 0), type := 32, pos := "journal.go:100", after := #[], guard := none }) (v := ?_) rfl (by kernel_rfl) (by kernel_rfl) (by kernel_rfl) (fun _ _ _ h => h) (Or.inl ⟨by rfl, ?_⟩) (by assumption) ?_
        rotate_left
        · intro w hSw
          try dsimp only at hSw
          go_simp
          try with_reducible rfl
        try simp only [Act.put, List.setIfInBounds_toArray, List.set_cons_zero, List.set_cons_succ]
        refine wpAnyH_take (i := 9) (oi := { dst := some 46, op := Op.nilCheck (Operand.tmp 45), type := 0, pos := "journal.go:100", after := #[{ on := 8, ground := Ground.data }], guard := none }) (v := ?_) rfl (by kernel_rfl) (by kernel_rfl) (by kernel_rfl) (fun _ _ _ h => h) (Or.inl ⟨by rfl, ?_⟩) (by assumption) ?_
        rotate_left
        · intro w hSw
          try dsimp only at hSw
          go_simp
          try with_reducible rfl
        try simp only [Act.put, List.setIfInBounds_toArray, List.set_cons_zero, List.set_cons_succ]
        refine wpAnyH_take (i := 10) (oi := { dst := some 47, op := Op.fieldAddr 76 (Operand.tmp 46) 3, type := 0, pos := "journal.go:100", after := #[{ on := 9, ground := Ground.data }], guard := none }) (v := ?_) rfl (by kernel_rfl) (by kernel_rfl) (by kernel_rfl) (fun _ _ _ h => h) (Or.inl ⟨by rfl, ?_⟩) (by assumption) ?_
        rotate_left
        · intro w hSw
          try dsimp only at hSw
          go_simp
          try with_reducible rfl
        try simp only [Act.put, List.setIfInBounds_toArray, List.set_cons_zero, List.set_cons_succ]
        refine wpAnyH_take (i := 11) (oi := { dst := some 48, op := Op.load 3 (Operand.tmp 47), type := 3, pos := "journal.go:100", after := #[{ on := 10, ground := Ground.data }], guard := none }) (v := ?_) rfl (by kernel_rfl) (by kernel_rfl) (by kernel_rfl) (fun _ _ _ h => h) (Or.inl ⟨by rfl, ?_⟩) (by assumption) ?_
        rotate_left
        · intro w hSw
          try dsimp only at hSw
          go_simp
          try with_reducible rfl
        try simp only [Act.put, List.setIfInBounds_toArray, List.set_cons_zero, List.set_cons_succ]
        refine wpAnyH_take (i := 12) (oi := { dst := some 49, op := Op.binOp BinOp.add 3 (Operand.tmp 44) (Operand.tmp 48) 3, type := 3, pos := "journal.go:100", after := #[{ on := 7, ground := Ground.data }, { on := 11, ground := Ground.data }], guard := none }) (v := ?_) rfl (by kernel_rfl) (by kernel_rfl) (by kernel_rfl) (fun _ _ _ h => h) (Or.inl ⟨by rfl, ?_⟩) (by assumption) ?_
        rotate_left
        · intro w hSw
          try dsimp only at hSw
          go_simp
          try with_reducible rfl
        try simp only [Act.put, List.setIfInBounds_toArray, List.set_cons_zero, List.set_cons_succ]
        refine wpAnyH_take (i := 13) (oi := { dst := some 50, op := Op.move (Operand.tmp 7), type := 3, pos := "journal.go:100", after := #[], guard := none }) (v := ?_) rfl (by kernel_rfl) (by kernel_rfl) (by kernel_rfl) (fun _ _ _ h => h) (Or.inl ⟨by rfl, ?_⟩) (by assumption) ?_
        rotate_left
        · intro w hSw
          try dsimp only at hSw
          go_simp
          try with_reducible rfl
        try simp only [Act.put, List.setIfInBounds_toArray, List.set_cons_zero, List.set_cons_succ]
        refine wpAnyH_take (i := 14) (oi := { dst := some 51, op := Op.binOp BinOp.add 3 (Operand.tmp 49) (Operand.tmp 50) 3, type := 3, pos := "journal.go:100", after := #[{ on := 12, ground := Ground.data }, { on := 13, ground := Ground.data }], guard := none }) (v := ?_) rfl (by kernel_rfl) (by kernel_rfl) (by kernel_rfl) (fun _ _ _ h => h) (Or.inl ⟨by rfl, ?_⟩) (by assumption) ?_
        rotate_left
        · intro w hSw
          try dsimp only at hSw
          go_simp
          try with_reducible rfl
        try simp only [Act.put, List.setIfInBounds_toArray, List.set_cons_zero, List.set_cons_succ]
        refine wpAnyH_take (i := 15) (oi := { dst := some 52, op := Op.move (Operand.tmp 9), type := 74, pos := "journal.go:100", after := #[], guard := none }) (v := ?_) rfl (by kernel_rfl) (by kernel_rfl) (by kernel_rfl) (fun _ _ _ h => h) (Or.inl ⟨by rfl, ?_⟩) (by assumption) ?_
        rotate_left
        · intro w hSw
          try dsimp only at hSw
          go_simp
          try with_reducible rfl
        try simp only [Act.put, List.setIfInBounds_toArray, List.set_cons_zero, List.set_cons_succ]
        refine wpAnyH_ready (rs := [16]) (by kernel_rfl) (by simp) ?_
        refine AllReadyH.cons (o := { dst := some 53, op := Op.call { callee := Callee.value (Operand.func 19), args := #[Operand.tmp 40, Operand.tmp 51, Operand.tmp 52], argTypes := #[25, 3, 45] }, type := 26, pos := "journal.go:100", after := #[{ on := 3, ground := Ground.data }, { on := 14, ground := Ground.data }, { on := 15, ground := Ground.data }], guard := none }) rfl (fun K hK => ?_) AllReadyH.nil
        go_simp
        with_reducible refine HW6.out.mono ?_
        clear HW6
        rintro e w7 ⟨P7, rfl, hd7, hf7⟩
        rw [HGd.out] at hd7 hf7
        have hL7 := HL6.out.d HD6.out hf7.bf
        have HD7 := Lib.hid hd7
        have HF7 := Lib.hid (HF6.out.trans hf7)
        have hT7 : (fun W : World => W.cell? ⟨A, 0, none⟩ = some (.pointer (some ⟨g.d, 0, none⟩)) ∧ W.cell? ⟨A, 1, none⟩ = some (.int .i64 (g.frm : Int)) ∧ W.cell? ⟨A, 3, none⟩ = some (.int .i64 (g.place : Int))) w7 := ⟨hL7.cell 0, hL7.cell 1, hL7.cell 3⟩
        have hwb := dWrite_bd m' ((g.frm : Int) + g.place + i) (mk g.ses g.num i count ((b.drop (i * 48)).take 48))
        clear hL7 hd7 hf7 HL6 HD6 HF6
        try go_wp2_with fail
        refine hK.out _ _ hT7 (fun _ => ?_)
        clear hK K
        try simp only [Act.put, List.setIfInBounds_toArray, List.set_cons_zero, List.set_cons_succ]
        clear hT
        refine wpAnyH_take (i := 17) (oi := { dst := some 10, op := Op.assign (Operand.tmp 53), type := 26, pos := "journal.go:100", after := #[{ on := 16, ground := Ground.data }, { on := 16, ground := Ground.chain }, { on := 0, ground := Ground.phase }, { on := 1, ground := Ground.phase }, { on := 2, ground := Ground.phase }, { on := 3, ground := Ground.phase }, { on := 4, ground := Ground.phase }, { on := 5, ground := Ground.phase }, { on := 6, ground := Ground.phase }, { on := 7, ground := Ground.phase }, { on := 8, ground := Ground.phase }, { on := 9, ground := Ground.phase }, { on := 10, ground := Ground.phase }, { on := 11, ground := Ground.phase }, { on := 12, ground := Ground.phase }, { on := 13, ground := Ground.phase }, { on := 14, ground := Ground.phase }, { on := 15, ground := Ground.phase }, { on := 16, ground := Ground.phase }], guard := none }) (v := ?_) rfl (by kernel_rfl) (by kernel_rfl) (by kernel_rfl) (fun _ _ _ h => h) (Or.inl ⟨by rfl, ?_⟩) (by assumption) ?_
        rotate_left
        · intro w hSw
          try dsimp only at hSw
          go_simp
          try with_reducible rfl
        try simp only [Act.put, List.setIfInBounds_toArray, List.set_cons_zero, List.set_cons_succ]
        refine wpAnyH_done (by kernel_rfl) ?_ _
        clear hT7
        have HEq : Hid (layGo g b count (f + 1) i m' = _) := layGo.eq_2 g b count i m' f
        have e8 := HE.out.trans HEq.out
        have HE8 := Lib.hid e8
        clear e8 HEq HE ws1 ws2
        generalize dWrite m' ((g.frm : Int) + g.place + i) (mk g.ses g.num i count ((b.drop (i * 48)).take 48)) = r at HD7 hwb HE8 ⊢
        obtain ⟨m8, ec⟩ := r
        dsimp only at hwb HE8 HD7 ⊢
        by_cases hec : ec = 0
        · subst hec
          have HE9 := Lib.hid (HE8.out.trans (if_pos rfl))
          go_wp2_with fail
          constructor
          · exact ⟨f, i + 1, m8, P7, by go_num, by omega, by omega, by omega, HE9.out, HD7.out, HF7.out⟩
          · show count - ((i : Int) + 1).toNat < count - (i : Int).toNat
            omega
        · have HE9 := Lib.hid (HE8.out.trans (if_neg hec))
          have de : (ec != 0) = true := by simpa using hec
          clear HE8
          go_wp2_with fail
          go_ret
          rw [HE9.out]
          exact ⟨P7, rfl, HD7.out, HF7.out⟩
      | some a =>
        obtain ⟨gb, off, spot⟩ := a
        obtain rfl : spot = none := hpo _ rfl
        by_cases hc0 : c = 0
        · subst hc0
          go_upto_region 5 with fail
          have hLr := HG.out.d H.out HF.out.bf
          have hbd : Below wr.heap.size wr wr.drew := (Below.refl _ _).drew
          have hLd := hLr.below hbd
          have HNP := Lib.hid (newPiece_any wr.drew g.ses g.num i count (some ⟨gb, off, none⟩) 0 0 _ ((HPart.out (some ⟨gb, off, none⟩)).below hbd) (Nat.zero_le _) hses hnum (by omega) (by omega))
          have hBw := HD.out.base
          have HLd := Lib.hid hLd
          have HDd := Lib.hid (HD.out.below hbd)
          have HFd := Lib.hid (HF.out.trans (DkF.new hbd hBw))
          have hT : (fun W : World => W.cell? ⟨A, 5, none⟩ = some (.int .u32 g.ses) ∧ W.cell? ⟨A, 4, none⟩ = some (.int .u32 g.num)) wr.drew := ⟨hLd.cell 5, hLd.cell 4⟩
          clear hLr hbd hLd hBw HPart hSr HD HF
          refine wp_region_held_drew (S := (fun W : World => W.cell? ⟨A, 5, none⟩ = some (.int .u32 g.ses) ∧ W.cell? ⟨A, 4, none⟩ = some (.int .u32 g.num))) (by kernel_rfl) hT (fun hHeld => ?_)
          clear hHeld
          refine wpAnyH_take (i := 0) (oi := { dst := some 25, op := Op.move (Operand.tmp 0), type := 32, pos := "journal.go:99", after := #[], guard := none }) (v := ?_) rfl (by kernel_rfl) (by kernel_rfl) (by kernel_rfl) (fun _ _ _ h => h) (Or.inl ⟨by rfl, ?_⟩) (by assumption) ?_
          rotate_left
          · intro w hSw
            try dsimp only at hSw
            go_simp
            try with_reducible rfl
          try simp only [Act.put, List.setIfInBounds_toArray, List.set_cons_zero, List.set_cons_succ]
          refine wpAnyH_take (i := 1) (oi := { dst := some 26, op := Op.nilCheck (Operand.tmp 25), type := 0, pos := "journal.go:99", after := #[{ on := 0, ground := Ground.data }], guard := none }) (v := ?_) rfl (by kernel_rfl) (by kernel_rfl) (by kernel_rfl) (fun _ _ _ h => h) (Or.inl ⟨by rfl, ?_⟩) (by assumption) ?_
          rotate_left
          · intro w hSw
            try dsimp only at hSw
            go_simp
            try with_reducible rfl
          try simp only [Act.put, List.setIfInBounds_toArray, List.set_cons_zero, List.set_cons_succ]
          refine wpAnyH_take (i := 2) (oi := { dst := some 27, op := Op.fieldAddr 76 (Operand.tmp 26) 5, type := 0, pos := "journal.go:99", after := #[{ on := 1, ground := Ground.data }], guard := none }) (v := ?_) rfl (by kernel_rfl) (by kernel_rfl) (by kernel_rfl) (fun _ _ _ h => h) (Or.inl ⟨by rfl, ?_⟩) (by assumption) ?_
          rotate_left
          · intro w hSw
            try dsimp only at hSw
            go_simp
            try with_reducible rfl
          try simp only [Act.put, List.setIfInBounds_toArray, List.set_cons_zero, List.set_cons_succ]
          refine wpAnyH_take (i := 3) (oi := { dst := some 28, op := Op.load 70 (Operand.tmp 27), type := 70, pos := "journal.go:99", after := #[{ on := 2, ground := Ground.data }], guard := none }) (v := ?_) rfl (by kernel_rfl) (by kernel_rfl) (by kernel_rfl) (fun _ _ _ h => h) (Or.inl ⟨by rfl, ?_⟩) (by assumption) ?_
          rotate_left
          · intro w hSw
            try dsimp only at hSw
            go_simp
            try with_reducible rfl
          try simp only [Act.put, List.setIfInBounds_toArray, List.set_cons_zero, List.set_cons_succ]
          refine wpAnyH_take (i := 4) (oi := { dst := some 29, op := Op.move (Operand.tmp 0), type := 32, pos := "journal.go:99", after := #[], guard := none }) (v := ?_) rfl (by kernel_rfl) (by kernel_rfl) (by kernel_rfl) (fun _ _ _ h => h) (Or.inl ⟨by rfl, ?_⟩) (by assumption) ?_
          rotate_left
          · intro w hSw
            try dsimp only at hSw
            go_simp
            try with_reducible rfl
          try simp only [Act.put, List.setIfInBounds_toArray, List.set_cons_zero, List.set_cons_succ]
          refine wpAnyH_take (i := 5) (oi := { dst := some 30, op := Op.nilCheck (Operand.tmp 29), type := 0, pos := "journal.go:99", after := #[{ on := 4, ground := Ground.data }], guard := none }) (v := ?_) rfl (by kernel_rfl) (by kernel_rfl) (by kernel_rfl) (fun _ _ _ h => h) (Or.inl ⟨by rfl, ?_⟩) (by assumption) ?_
          rotate_left
          · intro w hSw
            try dsimp only at hSw
            go_simp
            try with_reducible rfl
          try simp only [Act.put, List.setIfInBounds_toArray, List.set_cons_zero, List.set_cons_succ]
          refine wpAnyH_take (i := 6) (oi := { dst := some 31, op := Op.fieldAddr 76 (Operand.tmp 30) 4, type := 0, pos := "journal.go:99", after := #[{ on := 5, ground := Ground.data }], guard := none }) (v := ?_) rfl (by kernel_rfl) (by kernel_rfl) (by kernel_rfl) (fun _ _ _ h => h) (Or.inl ⟨by rfl, ?_⟩) (by assumption) ?_
          rotate_left
          · intro w hSw
            try dsimp only at hSw
            go_simp
            try with_reducible rfl
          try simp only [Act.put, List.setIfInBounds_toArray, List.set_cons_zero, List.set_cons_succ]
          refine wpAnyH_take (i := 7) (oi := { dst := some 32, op := Op.load 70 (Operand.tmp 31), type := 70, pos := "journal.go:99", after := #[{ on := 6, ground := Ground.data }], guard := none }) (v := ?_) rfl (by kernel_rfl) (by kernel_rfl) (by kernel_rfl) (fun _ _ _ h => h) (Or.inl ⟨by rfl, ?_⟩) (by assumption) ?_
          rotate_left
          · intro w hSw
            try dsimp only at hSw
            go_simp
            try with_reducible rfl
          try simp only [Act.put, List.setIfInBounds_toArray, List.set_cons_zero, List.set_cons_succ]
          refine wpAnyH_take (i := 8) (oi := { dst := some 33, op := Op.move (Operand.tmp 7), type := 3, pos := "journal.go:99", after := #[], guard := none }) (v := ?_) rfl (by kernel_rfl) (by kernel_rfl) (by kernel_rfl) (fun _ _ _ h => h) (Or.inl ⟨by rfl, ?_⟩) (by assumption) ?_
          rotate_left
          · intro w hSw
            try dsimp only at hSw
            go_simp
            try with_reducible rfl
          try simp only [Act.put, List.setIfInBounds_toArray, List.set_cons_zero, List.set_cons_succ]
          refine wpAnyH_take (i := 9) (oi := { dst := some 34, op := Op.move (Operand.tmp 2), type := 3, pos := "journal.go:99", after := #[], guard := none }) (v := ?_) rfl (by kernel_rfl) (by kernel_rfl) (by kernel_rfl) (fun _ _ _ h => h) (Or.inl ⟨by rfl, ?_⟩) (by assumption) ?_
          rotate_left
          · intro w hSw
            try dsimp only at hSw
            go_simp
            try with_reducible rfl
          try simp only [Act.put, List.setIfInBounds_toArray, List.set_cons_zero, List.set_cons_succ]
          refine wpAnyH_take (i := 10) (oi := { dst := some 35, op := Op.move (Operand.tmp 8), type := 45, pos := "journal.go:99", after := #[], guard := none }) (v := ?_) rfl (by kernel_rfl) (by kernel_rfl) (by kernel_rfl) (fun _ _ _ h => h) (Or.inl ⟨by rfl, ?_⟩) (by assumption) ?_
          rotate_left
          · intro w hSw
            try dsimp only at hSw
            go_simp
            try with_reducible rfl
          try simp only [Act.put, List.setIfInBounds_toArray, List.set_cons_zero, List.set_cons_succ]
          refine wpAnyH_ready (rs := [11]) (by kernel_rfl) (by simp) ?_
          refine AllReadyH.cons (o := { dst := some 36, op := Op.call { callee := Callee.value (Operand.func 57), args := #[Operand.tmp 28, Operand.tmp 32, Operand.tmp 33, Operand.tmp 34, Operand.tmp 35], argTypes := #[70, 70, 3, 3, 45] }, type := 74, pos := "journal.go:99", after := #[{ on := 3, ground := Ground.data }, { on := 7, ground := Ground.data }, { on := 8, ground := Ground.data }, { on := 9, ground := Ground.data }, { on := 10, ground := Ground.data }], guard := none }) rfl (fun K hK => ?_) AllReadyH.nil
          go_simp
          with_reducible refine HNP.out.mono ?_
          clear HNP
          rintro e w5 ⟨G, rfl, hG, hrow, hb5⟩
          have hL5 := HLd.out.below hb5
          have HL5 := Lib.hid hL5
          have hD5 := HDd.out.below hb5
          have HD5 := Lib.hid hD5
          have HF5 := Lib.hid (HFd.out.trans (DkF.new hb5 HDd.out.base))
          have HRow := Lib.hid hrow
          have hT5 : (fun W : World => W.cell? ⟨A, 5, none⟩ = some (.int .u32 g.ses) ∧ W.cell? ⟨A, 4, none⟩ = some (.int .u32 g.num)) w5 := ⟨hL5.cell 5, hL5.cell 4⟩
          clear hL5 hD5 hrow hb5 HLd HDd HFd
          try go_wp2_with fail
          refine hK.out _ _ hT5 (fun _ => ?_)
          clear hK K
          try simp only [Act.put, List.setIfInBounds_toArray, List.set_cons_zero, List.set_cons_succ]
          clear hT
          refine wpAnyH_take (i := 12) (oi := { dst := some 9, op := Op.assign (Operand.tmp 36), type := 74, pos := "journal.go:99", after := #[{ on := 11, ground := Ground.data }, { on := 11, ground := Ground.chain }, { on := 0, ground := Ground.phase }, { on := 1, ground := Ground.phase }, { on := 2, ground := Ground.phase }, { on := 3, ground := Ground.phase }, { on := 4, ground := Ground.phase }, { on := 5, ground := Ground.phase }, { on := 6, ground := Ground.phase }, { on := 7, ground := Ground.phase }, { on := 8, ground := Ground.phase }, { on := 9, ground := Ground.phase }, { on := 10, ground := Ground.phase }, { on := 11, ground := Ground.phase }], guard := none }) (v := ?_) rfl (by kernel_rfl) (by kernel_rfl) (by kernel_rfl) (fun _ _ _ h => h) (Or.inl ⟨by rfl, ?_⟩) (by assumption) ?_
          rotate_left
          · intro w hSw
            try dsimp only at hSw
            go_simp
            try with_reducible rfl
          try simp only [Act.put, List.setIfInBounds_toArray, List.set_cons_zero, List.set_cons_succ]
          refine wpAnyH_done (by kernel_rfl) ?_ _
          clear hT5
          go_wp2_with fail
          have hbd : Below w5.heap.size w5 w5.drew := (Below.refl _ _).drew
          have hL6 := HL5.out.below hbd
          have HD6 := Lib.hid (HD5.out.below hbd)
          have HF6 := Lib.hid (HF5.out.trans (DkF.new hbd HD5.out.base))
          have HL6 := Lib.hid hL6
          have hlen : (mk g.ses g.num i count ((b.drop (i * 48)).take 48)).length = 64 := mk_length _ _ _ _ _ (by rw [List.length_take]; omega)
          have hW6 := Write_any HD6.out (some ⟨G, 0, none⟩) 64 64 _ ((g.frm : Int) + g.place + i) ((HRow.out.below hbd).rd hlen) (by omega) (by omega)
          rw [← HGd.out] at hW6
          have HW6 := Lib.hid hW6
          have ws1 : IntKind.i64.wrap ((g.frm : Int) + g.place) = (g.frm : Int) + g.place := by rw [IntKind.wrap_i64]; omega
          have ws2 : IntKind.i64.wrap ((g.frm : Int) + g.place + i) = (g.frm : Int) + g.place + i := by rw [IntKind.wrap_i64]; omega
          have hT : (fun W : World => W.cell? ⟨A, 0, none⟩ = some (.pointer (some ⟨g.d, 0, none⟩)) ∧ W.cell? ⟨A, 1, none⟩ = some (.int .i64 (g.frm : Int)) ∧ W.cell? ⟨A, 3, none⟩ = some (.int .i64 (g.place : Int))) w5.drew := ⟨hL6.cell 0, hL6.cell 1, hL6.cell 3⟩
          clear hbd hL6 hW6 hlen HD5 HF5 HL5 HRow
          refine wp_region_held_drew (S := (fun W : World => W.cell? ⟨A, 0, none⟩ = some (.pointer (some ⟨g.d, 0, none⟩)) ∧ W.cell? ⟨A, 1, none⟩ = some (.int .i64 (g.frm : Int)) ∧ W.cell? ⟨A, 3, none⟩ = some (.int .i64 (g.place : Int)))) (by kernel_rfl) hT (fun hHeld => ?_)
          clear hHeld
          refine wpAnyH_take (i := 0) (oi := { dst := some 37, op := Op.move (Operand.tmp 0), type := 32, pos := "journal.go:100", after := #[], guard := none }) (v := ?_) rfl (by kernel_rfl) (by kernel_rfl) (by kernel_rfl) (fun _ _ _ h => h) (Or.inl ⟨by rfl, ?_⟩) (by assumption) ?_
          rotate_left
          · intro w hSw
            try dsimp only at hSw
            go_simp
            try with_reducible rfl
          try simp only [Act.put, List.setIfInBounds_toArray, List.set_cons_zero, List.set_cons_succ]
          refine wpAnyH_take (i := 1) (oi := { dst := some 38, op := Op.nilCheck (Operand.tmp 37), type := 0, pos := "journal.go:100", after := #[{ on := 0, ground := Ground.data }], guard := none }) (v := ?_) rfl (by kernel_rfl) (by kernel_rfl) (by kernel_rfl) (fun _ _ _ h => h) (Or.inl ⟨by rfl, ?_⟩) (by assumption) ?_
          rotate_left
          · intro w hSw
            try dsimp only at hSw
            go_simp
            try with_reducible rfl
          try simp only [Act.put, List.setIfInBounds_toArray, List.set_cons_zero, List.set_cons_succ]
          refine wpAnyH_take (i := 2) (oi := { dst := some 39, op := Op.fieldAddr 76 (Operand.tmp 38) 0, type := 0, pos := "journal.go:100", after := #[{ on := 1, ground := Ground.data }], guard := none }) (v := ?_) rfl (by kernel_rfl) (by kernel_rfl) (by kernel_rfl) (fun _ _ _ h => h) (Or.inl ⟨by rfl, ?_⟩) (by assumption) ?_
          rotate_left
          · intro w hSw
            try dsimp only at hSw
            go_simp
            try with_reducible rfl
          try simp only [Act.put, List.setIfInBounds_toArray, List.set_cons_zero, List.set_cons_succ]
          refine wpAnyH_take (i := 3) (oi := { dst := some 40, op := Op.load 25 (Operand.tmp 39), type := 25, pos := "journal.go:100", after := #[{ on := 2, ground := Ground.data }], guard := none }) (v := ?_) rfl (by kernel_rfl) (by kernel_rfl) (by kernel_rfl) (fun _ _ _ h => h) (Or.inl ⟨by rfl, ?_⟩) (by assumption) ?_
          rotate_left
          · intro w hSw
            try dsimp only at hSw
            go_simp
            try with_reducible rfl
          try simp only [Act.put, List.setIfInBounds_toArray, List.set_cons_zero, List.set_cons_succ]
          refine wpAnyH_take (i := 4) (oi := { dst := some 41, op := Op.move (Operand.tmp 0), type := 32, pos := "journal.go:100", after := #[], guard := none }) (v := ?_) rfl (by kernel_rfl) (by kernel_rfl) (by kernel_rfl) (fun _ _ _ h => h) (Or.inl ⟨by rfl, ?_⟩) (by assumption) ?_
          rotate_left
          · intro w hSw
            try dsimp only at hSw
            go_simp
            try with_reducible rfl
          try simp only [Act.put, List.setIfInBounds_toArray, List.set_cons_zero, List.set_cons_succ]
          refine wpAnyH_take (i := 5) (oi := { dst := some 42, op := Op.nilCheck (Operand.tmp 41), type := 0, pos := "journal.go:100", after := #[{ on := 4, ground := Ground.data }], guard := none }) (v := ?_) rfl (by kernel_rfl) (by kernel_rfl) (by kernel_rfl) (fun _ _ _ h => h) (Or.inl ⟨by rfl, ?_⟩) (by assumption) ?_
          rotate_left
          · intro w hSw
            try dsimp only at hSw
            go_simp
            try with_reducible rfl
          try simp only [Act.put, List.setIfInBounds_toArray, List.set_cons_zero, List.set_cons_succ]
          refine wpAnyH_take (i := 6) (oi := { dst := some 43, op := Op.fieldAddr 76 (Operand.tmp 42) 1, type := 0, pos := "journal.go:100", after := #[{ on := 5, ground := Ground.data }], guard := none }) (v := ?_) rfl (by kernel_rfl) (by kernel_rfl) (by kernel_rfl) (fun _ _ _ h => h) (Or.inl ⟨by rfl, ?_⟩) (by assumption) ?_
          rotate_left
          · intro w hSw
            try dsimp only at hSw
            go_simp
            try with_reducible rfl
          try simp only [Act.put, List.setIfInBounds_toArray, List.set_cons_zero, List.set_cons_succ]
          refine wpAnyH_take (i := 7) (oi := { dst := some 44, op := Op.load 3 (Operand.tmp 43), type := 3, pos := "journal.go:100", after := #[{ on := 6, ground := Ground.data }], guard := none }) (v := ?_) rfl (by kernel_rfl) (by kernel_rfl) (by kernel_rfl) (fun _ _ _ h => h) (Or.inl ⟨by rfl, ?_⟩) (by assumption) ?_
          rotate_left
          · intro w hSw
            try dsimp only at hSw
            go_simp
            try with_reducible rfl
          try simp only [Act.put, List.setIfInBounds_toArray, List.set_cons_zero, List.set_cons_succ]
          refine wpAnyH_take (i := 8) (oi := { dst := some 45, op := Op.move (Operand.tmp 0), type := 32, pos := "journal.go:100", after := #[], guard := none }) (v := ?_) rfl (by kernel_rfl) (by kernel_rfl) (by kernel_rfl) (fun _ _ _ h => h) (Or.inl ⟨by rfl, ?_⟩) (by assumption) ?_
          rotate_left
          · intro w hSw
            try dsimp only at hSw
            go_simp
            try with_reducible rfl
          try simp only [Act.put, List.setIfInBounds_toArray, List.set_cons_zero, List.set_cons_succ]
          refine wpAnyH_take (i := 9) (oi := { dst := some 46, op := Op.nilCheck (Operand.tmp 45), type := 0, pos := "journal.go:100", after := #[{ on := 8, ground := Ground.data }], guard := none }) (v := ?_) rfl (by kernel_rfl) (by kernel_rfl) (by kernel_rfl) (fun _ _ _ h => h) (Or.inl ⟨by rfl, ?_⟩) (by assumption) ?_
          rotate_left
          · intro w hSw
            try dsimp only at hSw
            go_simp
            try with_reducible rfl
          try simp only [Act.put, List.setIfInBounds_toArray, List.set_cons_zero, List.set_cons_succ]
          refine wpAnyH_take (i := 10) (oi := { dst := some 47, op := Op.fieldAddr 76 (Operand.tmp 46) 3, type := 0, pos := "journal.go:100", after := #[{ on := 9, ground := Ground.data }], guard := none }) (v := ?_) rfl (by kernel_rfl) (by kernel_rfl) (by kernel_rfl) (fun _ _ _ h => h) (Or.inl ⟨by rfl, ?_⟩) (by assumption) ?_
          rotate_left
          · intro w hSw
            try dsimp only at hSw
            go_simp
            try with_reducible rfl
          try simp only [Act.put, List.setIfInBounds_toArray, List.set_cons_zero, List.set_cons_succ]
          refine wpAnyH_take (i := 11) (oi := { dst := some 48, op := Op.load 3 (Operand.tmp 47), type := 3, pos := "journal.go:100", after := #[{ on := 10, ground := Ground.data }], guard := none }) (v := ?_) rfl (by kernel_rfl) (by kernel_rfl) (by kernel_rfl) (fun _ _ _ h => h) (Or.inl ⟨by rfl, ?_⟩) (by assumption) ?_
          rotate_left
          · intro w hSw
            try dsimp only at hSw
            go_simp
            try with_reducible rfl
          try simp only [Act.put, List.setIfInBounds_toArray, List.set_cons_zero, List.set_cons_succ]
          refine wpAnyH_take (i := 12) (oi := { dst := some 49, op := Op.binOp BinOp.add 3 (Operand.tmp 44) (Operand.tmp 48) 3, type := 3, pos := "journal.go:100", after := #[{ on := 7, ground := Ground.data }, { on := 11, ground := Ground.data }], guard := none }) (v := ?_) rfl (by kernel_rfl) (by kernel_rfl) (by kernel_rfl) (fun _ _ _ h => h) (Or.inl ⟨by rfl, ?_⟩) (by assumption) ?_
          rotate_left
          · intro w hSw
            try dsimp only at hSw
            go_simp
            try with_reducible rfl
          try simp only [Act.put, List.setIfInBounds_toArray, List.set_cons_zero, List.set_cons_succ]
          refine wpAnyH_take (i := 13) (oi := { dst := some 50, op := Op.move (Operand.tmp 7), type := 3, pos := "journal.go:100", after := #[], guard := none }) (v := ?_) rfl (by kernel_rfl) (by kernel_rfl) (by kernel_rfl) (fun _ _ _ h => h) (Or.inl ⟨by rfl, ?_⟩) (by assumption) ?_
          rotate_left
          · intro w hSw
            try dsimp only at hSw
            go_simp
            try with_reducible rfl
          try simp only [Act.put, List.setIfInBounds_toArray, List.set_cons_zero, List.set_cons_succ]
          refine wpAnyH_take (i := 14) (oi := { dst := some 51, op := Op.binOp BinOp.add 3 (Operand.tmp 49) (Operand.tmp 50) 3, type := 3, pos := "journal.go:100", after := #[{ on := 12, ground := Ground.data }, { on := 13, ground := Ground.data }], guard := none }) (v := ?_) rfl (by kernel_rfl) (by kernel_rfl) (by kernel_rfl) (fun _ _ _ h => h) (Or.inl ⟨by rfl, ?_⟩) (by assumption) ?_
          rotate_left
          · intro w hSw
            try dsimp only at hSw
            go_simp
            try with_reducible rfl
          try simp only [Act.put, List.setIfInBounds_toArray, List.set_cons_zero, List.set_cons_succ]
          refine wpAnyH_take (i := 15) (oi := { dst := some 52, op := Op.move (Operand.tmp 9), type := 74, pos := "journal.go:100", after := #[], guard := none }) (v := ?_) rfl (by kernel_rfl) (by kernel_rfl) (by kernel_rfl) (fun _ _ _ h => h) (Or.inl ⟨by rfl, ?_⟩) (by assumption) ?_
          rotate_left
          · intro w hSw
            try dsimp only at hSw
            go_simp
            try with_reducible rfl
          try simp only [Act.put, List.setIfInBounds_toArray, List.set_cons_zero, List.set_cons_succ]
          refine wpAnyH_ready (rs := [16]) (by kernel_rfl) (by simp) ?_
          refine AllReadyH.cons (o := { dst := some 53, op := Op.call { callee := Callee.value (Operand.func 19), args := #[Operand.tmp 40, Operand.tmp 51, Operand.tmp 52], argTypes := #[25, 3, 45] }, type := 26, pos := "journal.go:100", after := #[{ on := 3, ground := Ground.data }, { on := 14, ground := Ground.data }, { on := 15, ground := Ground.data }], guard := none }) rfl (fun K hK => ?_) AllReadyH.nil
          go_simp
          with_reducible refine HW6.out.mono ?_
          clear HW6
          rintro e w7 ⟨P7, rfl, hd7, hf7⟩
          rw [HGd.out] at hd7 hf7
          have hL7 := HL6.out.d HD6.out hf7.bf
          have HD7 := Lib.hid hd7
          have HF7 := Lib.hid (HF6.out.trans hf7)
          have hT7 : (fun W : World => W.cell? ⟨A, 0, none⟩ = some (.pointer (some ⟨g.d, 0, none⟩)) ∧ W.cell? ⟨A, 1, none⟩ = some (.int .i64 (g.frm : Int)) ∧ W.cell? ⟨A, 3, none⟩ = some (.int .i64 (g.place : Int))) w7 := ⟨hL7.cell 0, hL7.cell 1, hL7.cell 3⟩
          have hwb := dWrite_bd m' ((g.frm : Int) + g.place + i) (mk g.ses g.num i count ((b.drop (i * 48)).take 48))
          clear hL7 hd7 hf7 HL6 HD6 HF6
          try go_wp2_with fail
          refine hK.out _ _ hT7 (fun _ => ?_)
          clear hK K
          try simp only [Act.put, List.setIfInBounds_toArray, List.set_cons_zero, List.set_cons_succ]
          clear hT
          refine wpAnyH_take (i := 17) (oi := { dst := some 10, op := Op.assign (Operand.tmp 53), type := 26, pos := "journal.go:100", after := #[{ on := 16, ground := Ground.data }, { on := 16, ground := Ground.chain }, { on := 0, ground := Ground.phase }, { on := 1, ground := Ground.phase }, { on := 2, ground := Ground.phase }, { on := 3, ground := Ground.phase }, { on := 4, ground := Ground.phase }, { on := 5, ground := Ground.phase }, { on := 6, ground := Ground.phase }, { on := 7, ground := Ground.phase }, { on := 8, ground := Ground.phase }, { on := 9, ground := Ground.phase }, { on := 10, ground := Ground.phase }, { on := 11, ground := Ground.phase }, { on := 12, ground := Ground.phase }, { on := 13, ground := Ground.phase }, { on := 14, ground := Ground.phase }, { on := 15, ground := Ground.phase }, { on := 16, ground := Ground.phase }], guard := none }) (v := ?_) rfl (by kernel_rfl) (by kernel_rfl) (by kernel_rfl) (fun _ _ _ h => h) (Or.inl ⟨by rfl, ?_⟩) (by assumption) ?_
          rotate_left
          · intro w hSw
            try dsimp only at hSw
            go_simp
            try with_reducible rfl
          try simp only [Act.put, List.setIfInBounds_toArray, List.set_cons_zero, List.set_cons_succ]
          refine wpAnyH_done (by kernel_rfl) ?_ _
          clear hT7
          have HEq : Hid (layGo g b count (f + 1) i m' = _) := layGo.eq_2 g b count i m' f
          have e8 := HE.out.trans HEq.out
          have HE8 := Lib.hid e8
          clear e8 HEq HE ws1 ws2
          generalize dWrite m' ((g.frm : Int) + g.place + i) (mk g.ses g.num i count ((b.drop (i * 48)).take 48)) = r at HD7 hwb HE8 ⊢
          obtain ⟨m8, ec⟩ := r
          dsimp only at hwb HE8 HD7 ⊢
          by_cases hec : ec = 0
          · subst hec
            have HE9 := Lib.hid (HE8.out.trans (if_pos rfl))
            go_wp2_with fail
            constructor
            · exact ⟨f, i + 1, m8, P7, by go_num, by omega, by omega, by omega, HE9.out, HD7.out, HF7.out⟩
            · show count - ((i : Int) + 1).toNat < count - (i : Int).toNat
              omega
          · have HE9 := Lib.hid (HE8.out.trans (if_neg hec))
            have de : (ec != 0) = true := by simpa using hec
            clear HE8
            go_wp2_with fail
            go_ret
            rw [HE9.out]
            exact ⟨P7, rfl, HD7.out, HF7.out⟩
        · go_upto_region 5 with fail
          have hLr := HG.out.d H.out HF.out.bf
          have hbd : Below wr.heap.size wr wr.drew := (Below.refl _ _).drew
          have hLd := hLr.below hbd
          have HNP := Lib.hid (newPiece_any wr.drew g.ses g.num i count (some ⟨gb, off, none⟩) 0 c _ ((HPart.out (some ⟨gb, off, none⟩)).below hbd) (Nat.zero_le _) hses hnum (by omega) (by omega))
          have hBw := HD.out.base
          have HLd := Lib.hid hLd
          have HDd := Lib.hid (HD.out.below hbd)
          have HFd := Lib.hid (HF.out.trans (DkF.new hbd hBw))
          have hT : (fun W : World => W.cell? ⟨A, 5, none⟩ = some (.int .u32 g.ses) ∧ W.cell? ⟨A, 4, none⟩ = some (.int .u32 g.num)) wr.drew := ⟨hLd.cell 5, hLd.cell 4⟩
          clear hLr hbd hLd hBw HPart hSr HD HF
          refine wp_region_held_drew (S := (fun W : World => W.cell? ⟨A, 5, none⟩ = some (.int .u32 g.ses) ∧ W.cell? ⟨A, 4, none⟩ = some (.int .u32 g.num))) (by kernel_rfl) hT (fun hHeld => ?_)
          clear hHeld
          refine wpAnyH_take (i := 0) (oi := { dst := some 25, op := Op.move (Operand.tmp 0), type := 32, pos := "journal.go:99", after := #[], guard := none }) (v := ?_) rfl (by kernel_rfl) (by kernel_rfl) (by kernel_rfl) (fun _ _ _ h => h) (Or.inl ⟨by rfl, ?_⟩) (by assumption) ?_
          rotate_left
          · intro w hSw
            try dsimp only at hSw
            go_simp
            try with_reducible rfl
          try simp only [Act.put, List.setIfInBounds_toArray, List.set_cons_zero, List.set_cons_succ]
          refine wpAnyH_take (i := 1) (oi := { dst := some 26, op := Op.nilCheck (Operand.tmp 25), type := 0, pos := "journal.go:99", after := #[{ on := 0, ground := Ground.data }], guard := none }) (v := ?_) rfl (by kernel_rfl) (by kernel_rfl) (by kernel_rfl) (fun _ _ _ h => h) (Or.inl ⟨by rfl, ?_⟩) (by assumption) ?_
          rotate_left
          · intro w hSw
            try dsimp only at hSw
            go_simp
            try with_reducible rfl
          try simp only [Act.put, List.setIfInBounds_toArray, List.set_cons_zero, List.set_cons_succ]
          refine wpAnyH_take (i := 2) (oi := { dst := some 27, op := Op.fieldAddr 76 (Operand.tmp 26) 5, type := 0, pos := "journal.go:99", after := #[{ on := 1, ground := Ground.data }], guard := none }) (v := ?_) rfl (by kernel_rfl) (by kernel_rfl) (by kernel_rfl) (fun _ _ _ h => h) (Or.inl ⟨by rfl, ?_⟩) (by assumption) ?_
          rotate_left
          · intro w hSw
            try dsimp only at hSw
            go_simp
            try with_reducible rfl
          try simp only [Act.put, List.setIfInBounds_toArray, List.set_cons_zero, List.set_cons_succ]
          refine wpAnyH_take (i := 3) (oi := { dst := some 28, op := Op.load 70 (Operand.tmp 27), type := 70, pos := "journal.go:99", after := #[{ on := 2, ground := Ground.data }], guard := none }) (v := ?_) rfl (by kernel_rfl) (by kernel_rfl) (by kernel_rfl) (fun _ _ _ h => h) (Or.inl ⟨by rfl, ?_⟩) (by assumption) ?_
          rotate_left
          · intro w hSw
            try dsimp only at hSw
            go_simp
            try with_reducible rfl
          try simp only [Act.put, List.setIfInBounds_toArray, List.set_cons_zero, List.set_cons_succ]
          refine wpAnyH_take (i := 4) (oi := { dst := some 29, op := Op.move (Operand.tmp 0), type := 32, pos := "journal.go:99", after := #[], guard := none }) (v := ?_) rfl (by kernel_rfl) (by kernel_rfl) (by kernel_rfl) (fun _ _ _ h => h) (Or.inl ⟨by rfl, ?_⟩) (by assumption) ?_
          rotate_left
          · intro w hSw
            try dsimp only at hSw
            go_simp
            try with_reducible rfl
          try simp only [Act.put, List.setIfInBounds_toArray, List.set_cons_zero, List.set_cons_succ]
          refine wpAnyH_take (i := 5) (oi := { dst := some 30, op := Op.nilCheck (Operand.tmp 29), type := 0, pos := "journal.go:99", after := #[{ on := 4, ground := Ground.data }], guard := none }) (v := ?_) rfl (by kernel_rfl) (by kernel_rfl) (by kernel_rfl) (fun _ _ _ h => h) (Or.inl ⟨by rfl, ?_⟩) (by assumption) ?_
          rotate_left
          · intro w hSw
            try dsimp only at hSw
            go_simp
            try with_reducible rfl
          try simp only [Act.put, List.setIfInBounds_toArray, List.set_cons_zero, List.set_cons_succ]
          refine wpAnyH_take (i := 6) (oi := { dst := some 31, op := Op.fieldAddr 76 (Operand.tmp 30) 4, type := 0, pos := "journal.go:99", after := #[{ on := 5, ground := Ground.data }], guard := none }) (v := ?_) rfl (by kernel_rfl) (by kernel_rfl) (by kernel_rfl) (fun _ _ _ h => h) (Or.inl ⟨by rfl, ?_⟩) (by assumption) ?_
          rotate_left
          · intro w hSw
            try dsimp only at hSw
            go_simp
            try with_reducible rfl
          try simp only [Act.put, List.setIfInBounds_toArray, List.set_cons_zero, List.set_cons_succ]
          refine wpAnyH_take (i := 7) (oi := { dst := some 32, op := Op.load 70 (Operand.tmp 31), type := 70, pos := "journal.go:99", after := #[{ on := 6, ground := Ground.data }], guard := none }) (v := ?_) rfl (by kernel_rfl) (by kernel_rfl) (by kernel_rfl) (fun _ _ _ h => h) (Or.inl ⟨by rfl, ?_⟩) (by assumption) ?_
          rotate_left
          · intro w hSw
            try dsimp only at hSw
            go_simp
            try with_reducible rfl
          try simp only [Act.put, List.setIfInBounds_toArray, List.set_cons_zero, List.set_cons_succ]
          refine wpAnyH_take (i := 8) (oi := { dst := some 33, op := Op.move (Operand.tmp 7), type := 3, pos := "journal.go:99", after := #[], guard := none }) (v := ?_) rfl (by kernel_rfl) (by kernel_rfl) (by kernel_rfl) (fun _ _ _ h => h) (Or.inl ⟨by rfl, ?_⟩) (by assumption) ?_
          rotate_left
          · intro w hSw
            try dsimp only at hSw
            go_simp
            try with_reducible rfl
          try simp only [Act.put, List.setIfInBounds_toArray, List.set_cons_zero, List.set_cons_succ]
          refine wpAnyH_take (i := 9) (oi := { dst := some 34, op := Op.move (Operand.tmp 2), type := 3, pos := "journal.go:99", after := #[], guard := none }) (v := ?_) rfl (by kernel_rfl) (by kernel_rfl) (by kernel_rfl) (fun _ _ _ h => h) (Or.inl ⟨by rfl, ?_⟩) (by assumption) ?_
          rotate_left
          · intro w hSw
            try dsimp only at hSw
            go_simp
            try with_reducible rfl
          try simp only [Act.put, List.setIfInBounds_toArray, List.set_cons_zero, List.set_cons_succ]
          refine wpAnyH_take (i := 10) (oi := { dst := some 35, op := Op.move (Operand.tmp 8), type := 45, pos := "journal.go:99", after := #[], guard := none }) (v := ?_) rfl (by kernel_rfl) (by kernel_rfl) (by kernel_rfl) (fun _ _ _ h => h) (Or.inl ⟨by rfl, ?_⟩) (by assumption) ?_
          rotate_left
          · intro w hSw
            try dsimp only at hSw
            go_simp
            try with_reducible rfl
          try simp only [Act.put, List.setIfInBounds_toArray, List.set_cons_zero, List.set_cons_succ]
          refine wpAnyH_ready (rs := [11]) (by kernel_rfl) (by simp) ?_
          refine AllReadyH.cons (o := { dst := some 36, op := Op.call { callee := Callee.value (Operand.func 57), args := #[Operand.tmp 28, Operand.tmp 32, Operand.tmp 33, Operand.tmp 34, Operand.tmp 35], argTypes := #[70, 70, 3, 3, 45] }, type := 74, pos := "journal.go:99", after := #[{ on := 3, ground := Ground.data }, { on := 7, ground := Ground.data }, { on := 8, ground := Ground.data }, { on := 9, ground := Ground.data }, { on := 10, ground := Ground.data }], guard := none }) rfl (fun K hK => ?_) AllReadyH.nil
          go_simp
          with_reducible refine HNP.out.mono ?_
          clear HNP
          rintro e w5 ⟨G, rfl, hG, hrow, hb5⟩
          have hL5 := HLd.out.below hb5
          have HL5 := Lib.hid hL5
          have hD5 := HDd.out.below hb5
          have HD5 := Lib.hid hD5
          have HF5 := Lib.hid (HFd.out.trans (DkF.new hb5 HDd.out.base))
          have HRow := Lib.hid hrow
          have hT5 : (fun W : World => W.cell? ⟨A, 5, none⟩ = some (.int .u32 g.ses) ∧ W.cell? ⟨A, 4, none⟩ = some (.int .u32 g.num)) w5 := ⟨hL5.cell 5, hL5.cell 4⟩
          clear hL5 hD5 hrow hb5 HLd HDd HFd
          try go_wp2_with fail
          refine hK.out _ _ hT5 (fun _ => ?_)
          clear hK K
          try simp only [Act.put, List.setIfInBounds_toArray, List.set_cons_zero, List.set_cons_succ]
          clear hT
          refine wpAnyH_take (i := 12) (oi := { dst := some 9, op := Op.assign (Operand.tmp 36), type := 74, pos := "journal.go:99", after := #[{ on := 11, ground := Ground.data }, { on := 11, ground := Ground.chain }, { on := 0, ground := Ground.phase }, { on := 1, ground := Ground.phase }, { on := 2, ground := Ground.phase }, { on := 3, ground := Ground.phase }, { on := 4, ground := Ground.phase }, { on := 5, ground := Ground.phase }, { on := 6, ground := Ground.phase }, { on := 7, ground := Ground.phase }, { on := 8, ground := Ground.phase }, { on := 9, ground := Ground.phase }, { on := 10, ground := Ground.phase }, { on := 11, ground := Ground.phase }], guard := none }) (v := ?_) rfl (by kernel_rfl) (by kernel_rfl) (by kernel_rfl) (fun _ _ _ h => h) (Or.inl ⟨by rfl, ?_⟩) (by assumption) ?_
          rotate_left
          · intro w hSw
            try dsimp only at hSw
            go_simp
            try with_reducible rfl
          try simp only [Act.put, List.setIfInBounds_toArray, List.set_cons_zero, List.set_cons_succ]
          refine wpAnyH_done (by kernel_rfl) ?_ _
          clear hT5
          go_wp2_with fail
          have hbd : Below w5.heap.size w5 w5.drew := (Below.refl _ _).drew
          have hL6 := HL5.out.below hbd
          have HD6 := Lib.hid (HD5.out.below hbd)
          have HF6 := Lib.hid (HF5.out.trans (DkF.new hbd HD5.out.base))
          have HL6 := Lib.hid hL6
          have hlen : (mk g.ses g.num i count ((b.drop (i * 48)).take 48)).length = 64 := mk_length _ _ _ _ _ (by rw [List.length_take]; omega)
          have hW6 := Write_any HD6.out (some ⟨G, 0, none⟩) 64 64 _ ((g.frm : Int) + g.place + i) ((HRow.out.below hbd).rd hlen) (by omega) (by omega)
          rw [← HGd.out] at hW6
          have HW6 := Lib.hid hW6
          have ws1 : IntKind.i64.wrap ((g.frm : Int) + g.place) = (g.frm : Int) + g.place := by rw [IntKind.wrap_i64]; omega
          have ws2 : IntKind.i64.wrap ((g.frm : Int) + g.place + i) = (g.frm : Int) + g.place + i := by rw [IntKind.wrap_i64]; omega
          have hT : (fun W : World => W.cell? ⟨A, 0, none⟩ = some (.pointer (some ⟨g.d, 0, none⟩)) ∧ W.cell? ⟨A, 1, none⟩ = some (.int .i64 (g.frm : Int)) ∧ W.cell? ⟨A, 3, none⟩ = some (.int .i64 (g.place : Int))) w5.drew := ⟨hL6.cell 0, hL6.cell 1, hL6.cell 3⟩
          clear hbd hL6 hW6 hlen HD5 HF5 HL5 HRow
          refine wp_region_held_drew (S := (fun W : World => W.cell? ⟨A, 0, none⟩ = some (.pointer (some ⟨g.d, 0, none⟩)) ∧ W.cell? ⟨A, 1, none⟩ = some (.int .i64 (g.frm : Int)) ∧ W.cell? ⟨A, 3, none⟩ = some (.int .i64 (g.place : Int)))) (by kernel_rfl) hT (fun hHeld => ?_)
          clear hHeld
          refine wpAnyH_take (i := 0) (oi := { dst := some 37, op := Op.move (Operand.tmp 0), type := 32, pos := "journal.go:100", after := #[], guard := none }) (v := ?_) rfl (by kernel_rfl) (by kernel_rfl) (by kernel_rfl) (fun _ _ _ h => h) (Or.inl ⟨by rfl, ?_⟩) (by assumption) ?_
          rotate_left
          · intro w hSw
            try dsimp only at hSw
            go_simp
            try with_reducible rfl
          try simp only [Act.put, List.setIfInBounds_toArray, List.set_cons_zero, List.set_cons_succ]
          refine wpAnyH_take (i := 1) (oi := { dst := some 38, op := Op.nilCheck (Operand.tmp 37), type := 0, pos := "journal.go:100", after := #[{ on := 0, ground := Ground.data }], guard := none }) (v := ?_) rfl (by kernel_rfl) (by kernel_rfl) (by kernel_rfl) (fun _ _ _ h => h) (Or.inl ⟨by rfl, ?_⟩) (by assumption) ?_
          rotate_left
          · intro w hSw
            try dsimp only at hSw
            go_simp
            try with_reducible rfl
          try simp only [Act.put, List.setIfInBounds_toArray, List.set_cons_zero, List.set_cons_succ]
          refine wpAnyH_take (i := 2) (oi := { dst := some 39, op := Op.fieldAddr 76 (Operand.tmp 38) 0, type := 0, pos := "journal.go:100", after := #[{ on := 1, ground := Ground.data }], guard := none }) (v := ?_) rfl (by kernel_rfl) (by kernel_rfl) (by kernel_rfl) (fun _ _ _ h => h) (Or.inl ⟨by rfl, ?_⟩) (by assumption) ?_
          rotate_left
          · intro w hSw
            try dsimp only at hSw
            go_simp
            try with_reducible rfl
          try simp only [Act.put, List.setIfInBounds_toArray, List.set_cons_zero, List.set_cons_succ]
          refine wpAnyH_take (i := 3) (oi := { dst := some 40, op := Op.load 25 (Operand.tmp 39), type := 25, pos := "journal.go:100", after := #[{ on := 2, ground := Ground.data }], guard := none }) (v := ?_) rfl (by kernel_rfl) (by kernel_rfl) (by kernel_rfl) (fun _ _ _ h => h) (Or.inl ⟨by rfl, ?_⟩) (by assumption) ?_
          rotate_left
          · intro w hSw
            try dsimp only at hSw
            go_simp
            try with_reducible rfl
          try simp only [Act.put, List.setIfInBounds_toArray, List.set_cons_zero, List.set_cons_succ]
          refine wpAnyH_take (i := 4) (oi := { dst := some 41, op := Op.move (Operand.tmp 0), type := 32, pos := "journal.go:100", after := #[], guard := none }) (v := ?_) rfl (by kernel_rfl) (by kernel_rfl) (by kernel_rfl) (fun _ _ _ h => h) (Or.inl ⟨by rfl, ?_⟩) (by assumption) ?_
          rotate_left
          · intro w hSw
            try dsimp only at hSw
            go_simp
            try with_reducible rfl
          try simp only [Act.put, List.setIfInBounds_toArray, List.set_cons_zero, List.set_cons_succ]
          refine wpAnyH_take (i := 5) (oi := { dst := some 42, op := Op.nilCheck (Operand.tmp 41), type := 0, pos := "journal.go:100", after := #[{ on := 4, ground := Ground.data }], guard := none }) (v := ?_) rfl (by kernel_rfl) (by kernel_rfl) (by kernel_rfl) (fun _ _ _ h => h) (Or.inl ⟨by rfl, ?_⟩) (by assumption) ?_
          rotate_left
          · intro w hSw
            try dsimp only at hSw
            go_simp
            try with_reducible rfl
          try simp only [Act.put, List.setIfInBounds_toArray, List.set_cons_zero, List.set_cons_succ]
          refine wpAnyH_take (i := 6) (oi := { dst := some 43, op := Op.fieldAddr 76 (Operand.tmp 42) 1, type := 0, pos := "journal.go:100", after := #[{ on := 5, ground := Ground.data }], guard := none }) (v := ?_) rfl (by kernel_rfl) (by kernel_rfl) (by kernel_rfl) (fun _ _ _ h => h) (Or.inl ⟨by rfl, ?_⟩) (by assumption) ?_
          rotate_left
          · intro w hSw
            try dsimp only at hSw
            go_simp
            try with_reducible rfl
          try simp only [Act.put, List.setIfInBounds_toArray, List.set_cons_zero, List.set_cons_succ]
          refine wpAnyH_take (i := 7) (oi := { dst := some 44, op := Op.load 3 (Operand.tmp 43), type := 3, pos := "journal.go:100", after := #[{ on := 6, ground := Ground.data }], guard := none }) (v := ?_) rfl (by kernel_rfl) (by kernel_rfl) (by kernel_rfl) (fun _ _ _ h => h) (Or.inl ⟨by rfl, ?_⟩) (by assumption) ?_
          rotate_left
          · intro w hSw
            try dsimp only at hSw
            go_simp
            try with_reducible rfl
          try simp only [Act.put, List.setIfInBounds_toArray, List.set_cons_zero, List.set_cons_succ]
          refine wpAnyH_take (i := 8) (oi := { dst := some 45, op := Op.move (Operand.tmp 0), type := 32, pos := "journal.go:100", after := #[], guard := none }) (v := ?_) rfl (by kernel_rfl) (by kernel_rfl) (by kernel_rfl) (fun _ _ _ h => h) (Or.inl ⟨by rfl, ?_⟩) (by assumption) ?_
          rotate_left
          · intro w hSw
            try dsimp only at hSw
            go_simp
            try with_reducible rfl
          try simp only [Act.put, List.setIfInBounds_toArray, List.set_cons_zero, List.set_cons_succ]
          refine wpAnyH_take (i := 9) (oi := { dst := some 46, op := Op.nilCheck (Operand.tmp 45), type := 0, pos := "journal.go:100", after := #[{ on := 8, ground := Ground.data }], guard := none }) (v := ?_) rfl (by kernel_rfl) (by kernel_rfl) (by kernel_rfl) (fun _ _ _ h => h) (Or.inl ⟨by rfl, ?_⟩) (by assumption) ?_
          rotate_left
          · intro w hSw
            try dsimp only at hSw
            go_simp
            try with_reducible rfl
          try simp only [Act.put, List.setIfInBounds_toArray, List.set_cons_zero, List.set_cons_succ]
          refine wpAnyH_take (i := 10) (oi := { dst := some 47, op := Op.fieldAddr 76 (Operand.tmp 46) 3, type := 0, pos := "journal.go:100", after := #[{ on := 9, ground := Ground.data }], guard := none }) (v := ?_) rfl (by kernel_rfl) (by kernel_rfl) (by kernel_rfl) (fun _ _ _ h => h) (Or.inl ⟨by rfl, ?_⟩) (by assumption) ?_
          rotate_left
          · intro w hSw
            try dsimp only at hSw
            go_simp
            try with_reducible rfl
          try simp only [Act.put, List.setIfInBounds_toArray, List.set_cons_zero, List.set_cons_succ]
          refine wpAnyH_take (i := 11) (oi := { dst := some 48, op := Op.load 3 (Operand.tmp 47), type := 3, pos := "journal.go:100", after := #[{ on := 10, ground := Ground.data }], guard := none }) (v := ?_) rfl (by kernel_rfl) (by kernel_rfl) (by kernel_rfl) (fun _ _ _ h => h) (Or.inl ⟨by rfl, ?_⟩) (by assumption) ?_
          rotate_left
          · intro w hSw
            try dsimp only at hSw
            go_simp
            try with_reducible rfl
          try simp only [Act.put, List.setIfInBounds_toArray, List.set_cons_zero, List.set_cons_succ]
          refine wpAnyH_take (i := 12) (oi := { dst := some 49, op := Op.binOp BinOp.add 3 (Operand.tmp 44) (Operand.tmp 48) 3, type := 3, pos := "journal.go:100", after := #[{ on := 7, ground := Ground.data }, { on := 11, ground := Ground.data }], guard := none }) (v := ?_) rfl (by kernel_rfl) (by kernel_rfl) (by kernel_rfl) (fun _ _ _ h => h) (Or.inl ⟨by rfl, ?_⟩) (by assumption) ?_
          rotate_left
          · intro w hSw
            try dsimp only at hSw
            go_simp
            try with_reducible rfl
          try simp only [Act.put, List.setIfInBounds_toArray, List.set_cons_zero, List.set_cons_succ]
          refine wpAnyH_take (i := 13) (oi := { dst := some 50, op := Op.move (Operand.tmp 7), type := 3, pos := "journal.go:100", after := #[], guard := none }) (v := ?_) rfl (by kernel_rfl) (by kernel_rfl) (by kernel_rfl) (fun _ _ _ h => h) (Or.inl ⟨by rfl, ?_⟩) (by assumption) ?_
          rotate_left
          · intro w hSw
            try dsimp only at hSw
            go_simp
            try with_reducible rfl
          try simp only [Act.put, List.setIfInBounds_toArray, List.set_cons_zero, List.set_cons_succ]
          refine wpAnyH_take (i := 14) (oi := { dst := some 51, op := Op.binOp BinOp.add 3 (Operand.tmp 49) (Operand.tmp 50) 3, type := 3, pos := "journal.go:100", after := #[{ on := 12, ground := Ground.data }, { on := 13, ground := Ground.data }], guard := none }) (v := ?_) rfl (by kernel_rfl) (by kernel_rfl) (by kernel_rfl) (fun _ _ _ h => h) (Or.inl ⟨by rfl, ?_⟩) (by assumption) ?_
          rotate_left
          · intro w hSw
            try dsimp only at hSw
            go_simp
            try with_reducible rfl
          try simp only [Act.put, List.setIfInBounds_toArray, List.set_cons_zero, List.set_cons_succ]
          refine wpAnyH_take (i := 15) (oi := { dst := some 52, op := Op.move (Operand.tmp 9), type := 74, pos := "journal.go:100", after := #[], guard := none }) (v := ?_) rfl (by kernel_rfl) (by kernel_rfl) (by kernel_rfl) (fun _ _ _ h => h) (Or.inl ⟨by rfl, ?_⟩) (by assumption) ?_
          rotate_left
          · intro w hSw
            try dsimp only at hSw
            go_simp
            try with_reducible rfl
          try simp only [Act.put, List.setIfInBounds_toArray, List.set_cons_zero, List.set_cons_succ]
          refine wpAnyH_ready (rs := [16]) (by kernel_rfl) (by simp) ?_
          refine AllReadyH.cons (o := { dst := some 53, op := Op.call { callee := Callee.value (Operand.func 19), args := #[Operand.tmp 40, Operand.tmp 51, Operand.tmp 52], argTypes := #[25, 3, 45] }, type := 26, pos := "journal.go:100", after := #[{ on := 3, ground := Ground.data }, { on := 14, ground := Ground.data }, { on := 15, ground := Ground.data }], guard := none }) rfl (fun K hK => ?_) AllReadyH.nil
          go_simp
          with_reducible refine HW6.out.mono ?_
          clear HW6
          rintro e w7 ⟨P7, rfl, hd7, hf7⟩
          rw [HGd.out] at hd7 hf7
          have hL7 := HL6.out.d HD6.out hf7.bf
          have HD7 := Lib.hid hd7
          have HF7 := Lib.hid (HF6.out.trans hf7)
          have hT7 : (fun W : World => W.cell? ⟨A, 0, none⟩ = some (.pointer (some ⟨g.d, 0, none⟩)) ∧ W.cell? ⟨A, 1, none⟩ = some (.int .i64 (g.frm : Int)) ∧ W.cell? ⟨A, 3, none⟩ = some (.int .i64 (g.place : Int))) w7 := ⟨hL7.cell 0, hL7.cell 1, hL7.cell 3⟩
          have hwb := dWrite_bd m' ((g.frm : Int) + g.place + i) (mk g.ses g.num i count ((b.drop (i * 48)).take 48))
          clear hL7 hd7 hf7 HL6 HD6 HF6
          try go_wp2_with fail
          refine hK.out _ _ hT7 (fun _ => ?_)
          clear hK K
          try simp only [Act.put, List.setIfInBounds_toArray, List.set_cons_zero, List.set_cons_succ]
          clear hT
          refine wpAnyH_take (i := 17) (oi := { dst := some 10, op := Op.assign (Operand.tmp 53), type := 26, pos := "journal.go:100", after := #[{ on := 16, ground := Ground.data }, { on := 16, ground := Ground.chain }, { on := 0, ground := Ground.phase }, { on := 1, ground := Ground.phase }, { on := 2, ground := Ground.phase }, { on := 3, ground := Ground.phase }, { on := 4, ground := Ground.phase }, { on := 5, ground := Ground.phase }, { on := 6, ground := Ground.phase }, { on := 7, ground := Ground.phase }, { on := 8, ground := Ground.phase }, { on := 9, ground := Ground.phase }, { on := 10, ground := Ground.phase }, { on := 11, ground := Ground.phase }, { on := 12, ground := Ground.phase }, { on := 13, ground := Ground.phase }, { on := 14, ground := Ground.phase }, { on := 15, ground := Ground.phase }, { on := 16, ground := Ground.phase }], guard := none }) (v := ?_) rfl (by kernel_rfl) (by kernel_rfl) (by kernel_rfl) (fun _ _ _ h => h) (Or.inl ⟨by rfl, ?_⟩) (by assumption) ?_
          rotate_left
          · intro w hSw
            try dsimp only at hSw
            go_simp
            try with_reducible rfl
          try simp only [Act.put, List.setIfInBounds_toArray, List.set_cons_zero, List.set_cons_succ]
          refine wpAnyH_done (by kernel_rfl) ?_ _
          clear hT7
          have HEq : Hid (layGo g b count (f + 1) i m' = _) := layGo.eq_2 g b count i m' f
          have e8 := HE.out.trans HEq.out
          have HE8 := Lib.hid e8
          clear e8 HEq HE ws1 ws2
          generalize dWrite m' ((g.frm : Int) + g.place + i) (mk g.ses g.num i count ((b.drop (i * 48)).take 48)) = r at HD7 hwb HE8 ⊢
          obtain ⟨m8, ec⟩ := r
          dsimp only at hwb HE8 HD7 ⊢
          by_cases hec : ec = 0
          · subst hec
            have HE9 := Lib.hid (HE8.out.trans (if_pos rfl))
            go_wp2_with fail
            constructor
            · exact ⟨f, i + 1, m8, P7, by go_num, by omega, by omega, by omega, HE9.out, HD7.out, HF7.out⟩
            · show count - ((i : Int) + 1).toNat < count - (i : Int).toNat
              omega
          · have HE9 := Lib.hid (HE8.out.trans (if_neg hec))
            have de : (ec != 0) = true := by simpa using hec
            clear HE8
            go_wp2_with fail
            go_ret
            rw [HE9.out]
            exact ⟨P7, rfl, HD7.out, HF7.out⟩
    · have di : decide ((i : Int) < (count : Int)) = false := decide_eq_false (by omega)
      obtain rfl : f = 0 := by omega
      have hL := HG.out.d H.out HF.out.bf
      have c0 := hL.cell 0
      simp only [lgcells] at c0
      simp at c0
      have hS := Sync_any HD.out (by omega) (by omega)
      rw [← HGd.out] at hS
      have HSy := Lib.hid hS
      have e8 : Hid (layGo g b count count 0 m = dSync m') := HE.out
      clear hL hS HE
      go_wp2_with fail
      with_reducible refine HSy.out.mono ?_
      rintro e w7 ⟨P7, rfl, hd7, hf7⟩
      rw [HGd.out] at hd7 hf7
      have HD7 := Lib.hid hd7
      have HF7 := Lib.hid (HF.out.trans hf7)
      clear hd7 hf7
      go_wp2_with fail
      go_ret
      rw [e8.out]
      exact ⟨P7, rfl, HD7.out, HF7.out⟩
end Go.Proofs.Yticiaiiedagalaa.dk
