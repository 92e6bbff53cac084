/- For all inputs DiskKeeps answers true: the walk. -/
import Derived.Test.YtmnfaoihmcofiaaDR
namespace Go.Proofs.Ytmnfaoihmcofiaa.dk
open Go.PlainAid Go.ChangeShapes Go.WideShapes Go.ChangeAt Go.RowKit

set_option maxHeartbeats 4000000 in
set_option maxRecDepth 20000 in
theorem keeps_small (p : Option Addr) (n c : Nat) (l : List Int) (at_ : Int) (o : Option Addr) (on oc : Nat) (os : Nat → Opc) (q : Option Addr) (kn kc : Nat) (kb : List Bool) (w : World)
    (hl : Rd w p n l) (ho : OpsAt w.heap.size w o on os) (hk : Kb w.heap.size w q kn kb) (hn : n ≤ 64) (hs : Small on os) (hkn : kn ≤ 200) :
    Calls Try.prog 4 #[.slice p n c, .int .i64 at_, .slice o on oc, .slice q kn kc] w fun e w' => e = .returned (.bool true) ∧ Below w.heap.size w w' := by
  have HA := Lib.hid (awake_any w)
  have HL := Lib.hid hl
  have HK := Lib.hid hk
  have HO := Lib.hid ho
  have HSm := Lib.hid hs
  obtain ⟨k, hkk⟩ := Int.eq_ofNat_of_zero_le (show 0 ≤ at_ % 8 by omega)
  have hk8 : k < 8 := by omega
  have hk' : bits .and .i64 at_ 7 = (k : Int) := by rw [and7, hkk]
  have d1 : decide ((64 : Int) < n) = false := decide_eq_false (by omega)
  have d2 : decide ((200 : Int) < kn) = false := decide_eq_false (by omega)
  have HS : ∀ w0, Below w.heap.size w w0 → Calls Try.prog 8 #[.slice o on oc] w0 fun e w' => e = .returned (.bool true) ∧ w0 = w' := fun w0 hb => small_any w.heap.size w0 o on oc os (HO.out.below hb) true ⟨fun _ => HSm.out, fun _ => rfl⟩
  clear hkk hl hk ho hs
  go_enter Try.func4, Try.ntmps4
  go_wp2_with (first | (go_at_call 7; with_reducible refine HA.out.mono ?_; rintro e w0 ⟨rfl, hb0⟩) | (go_at_call 8; with_reducible refine (HS _ hb0).mono ?_; rintro e w1 ⟨rfl, rfl⟩))
  have hN := New_any 8 w0 (by omega) (by omega)
  rw [show ((8 : Nat) : Int) = 8 from rfl] at hN
  with_reducible refine hN.mono ?_
  clear hN HS HA
  rintro e w1 ⟨D, L, N, rfl, h1, hb1⟩
  have HB1 := Lib.hid (hb0.trans (hb1.mono hb0.size))
  have hBw : w.heap.size ≤ w0.heap.size := hb0.size
  have HW1 := Lib.hid (Write_ok (m1 := { fresh 8 with writes := (fresh 8).writes + 1 }) h1 p n c l k hn hk8 rfl (HL.out.below HB1.out) rfl (show (0 : Nat) ≤ 1000000 by omega) (spend_free h1 (show (-1 : Int) < 0 by omega) (show (0 : Int) < 1000000 by omega)))
  clear h1 hb1 hb0
  go_wp2_with fail
  with_reducible refine HW1.out.mono ?_
  clear HW1
  rintro e w2 ⟨P2, rfl, h2, bf2, _⟩
  have HB2 := Lib.hid (HB1.out.trans (bf2.below.mono hBw))
  have HY := Lib.hid (Sync_ok h2 _ rfl (by show 1 ≤ 1000000; omega) (spend_free h2 (show (-1 : Int) < 0 by omega) (show (1 : Int) < 1000000 by omega)))
  clear h2 bf2 HB1
  go_wp2_with fail
  with_reducible refine HY.out.mono ?_
  clear HY
  rintro e w3 ⟨rfl, h3, bf3⟩
  have HB3 := Lib.hid (HB2.out.trans (bf3.below.mono hBw))
  have H3 := Lib.hid h3
  clear h3 bf3 HB2
  go_wp2_with fail
  go_loopw [15, 16, 17] (fun h c i wr => ∃ (j cn : Nat) (hv : Bool) (P : Value) (m : Dk), h = .bool hv ∧ c = .int .i64 (cn : Int) ∧ i = .int .i64 (j : Int) ∧ j ≤ on ∧ Hid (cn = m.pend.length) ∧ Hid (hv = hitOf kb k m.pend) ∧ Hid (Kp k l m j) ∧ Hid (DiskAt w0.heap.size D L N P m wr) ∧ Hid (Below w.heap.size w wr)) (fun _ _ i _ => on - (intOf i).toNat)
  case atStart => exact ⟨0, 0, false, _, { n := 8, laid := lay (List.replicate 512 0) (k * 64) (pad l), now := lay (List.replicate 512 0) (k * 64) (pad l), pend := [], limit := -1, dead := false, writes := 2 }, rfl, rfl, rfl, Nat.zero_le _, (show 0 = 0 from rfl), (show false = hitOf kb k [] from rfl), Kp.start k l hk8 (by rw [HL.out.1]; exact hn), H3.out, HB3.out⟩
  case round =>
    clear H3 HB3
    obtain ⟨j, cn, hv, P, m, rfl, rfl, rfl, hj, hcn, hhv, HM, HD, HBr⟩ := hrel
    have hb := HBr.out
    have hM := HM.out
    have hnow : m.now.length = 512 := by rw [HD.out.nl, hM.n8]
    clear HBr
    by_cases hjn : j < on
    · have dj : decide ((j : Int) < (on : Int)) = true := decide_eq_true (by omega)
      have hsm := HSm.out
      have hon := hsm.1
      obtain ⟨ob, off, rfl, hop⟩ := HO.out (by omega)
      have HOp := Lib.hid (hop j hjn)
      clear hop hsm
      by_cases hgood : (0 ≤ (os j).at_ ∧ (os j).at_ < 8) ∧ (os j).bn ≤ 64
      · obtain ⟨⟨hg0, hg1⟩, hbn⟩ := hgood
        obtain ⟨i, hat⟩ := Int.eq_ofNat_of_zero_le hg0
        have hi8 : i < 8 := by omega
        clear hg0 hg1
        cases hv with
        | true =>
          have hbd : Below wr.heap.size wr wr.drew := (Below.refl _ _).drew
          have hda := HD.out.below hbd
          have hb2 := hb.trans (hbd.mono hb.size)
          have c1 := (HOp.out.below hb2).c1
          have c2 := (HOp.out.below hb2).c2
          rw [hat] at c1
          have HW := Lib.hid (Write_ok (m1 := { m with writes := m.writes + 1 }) hda (os j).ba (os j).bn (os j).bc (os j).b i hbn (by rw [hM.n8]; exact hi8) hM.dead ((HOp.out.rb.below hb2).rd hb2.size) rfl (show m.pend.length ≤ 1000000 by have := hM.pl; omega) (spend_free hda (by rw [hM.lim]; omega) (by rw [hM.wr]; have := hM.pl; omega)))
          have HMn := Lib.hid (hM.snoc hnow i hi8 (os j).b (by rw [HOp.out.rb.1]; exact hbn))
          have HB0 := Lib.hid hb2
          have hcl : cn ≤ 100 := by have := hM.pl; have := hcn.out; omega
          clear HM HD hb hM hnow hbd hda hb2
          go_wp2_with fail
          have hT : (fun W : World => W.cell? ⟨ob, off + j * 4 + 1, none⟩ = some (.int .i64 (i : Int)) ∧ W.cell? ⟨ob, off + j * 4 + 2, none⟩ = some (.slice (os j).ba (os j).bn (os j).bc)) wr.drew := ⟨c1, c2⟩
          refine wp_region_held_drew (S := fun W => W.cell? ⟨ob, off + j * 4 + 1, none⟩ = some (.int .i64 (i : Int)) ∧ W.cell? ⟨ob, off + j * 4 + 2, none⟩ = some (.slice (os j).ba (os j).bn (os j).bc)) (by kernel_rfl) hT (fun hHeld => ?_)
          clear hHeld c1 c2
          refine wpAnyH_take (i := 0) (oi := { dst := some 66, op := Op.move (Operand.tmp 10), type := 25, pos := "law.go:99", after := #[], guard := none }) (v := ?_) rfl (by kernel_rfl) (by kernel_rfl) (by kernel_rfl) (fun _ _ _ h => h) (Or.inl ⟨by rfl, ?_⟩) (by assumption) ?_
          rotate_left
          · intro w hSw
            try dsimp only at hSw
            go_simp
            try with_reducible rfl
          try simp only [Act.put, List.setIfInBounds_toArray, List.set_cons_zero, List.set_cons_succ]
          refine wpAnyH_take (i := 1) (oi := { dst := some 67, op := Op.move (Operand.tmp 2), type := 22, pos := "law.go:99", after := #[], guard := none }) (v := ?_) rfl (by kernel_rfl) (by kernel_rfl) (by kernel_rfl) (fun _ _ _ h => h) (Or.inl ⟨by rfl, ?_⟩) (by assumption) ?_
          rotate_left
          · intro w hSw
            try dsimp only at hSw
            go_simp
            try with_reducible rfl
          try simp only [Act.put, List.setIfInBounds_toArray, List.set_cons_zero, List.set_cons_succ]
          refine wpAnyH_take (i := 2) (oi := { dst := some 68, op := Op.move (Operand.tmp 17), type := 3, pos := "law.go:99", after := #[], guard := none }) (v := ?_) rfl (by kernel_rfl) (by kernel_rfl) (by kernel_rfl) (fun _ _ _ h => h) (Or.inl ⟨by rfl, ?_⟩) (by assumption) ?_
          rotate_left
          · intro w hSw
            try dsimp only at hSw
            go_simp
            try with_reducible rfl
          try simp only [Act.put, List.setIfInBounds_toArray, List.set_cons_zero, List.set_cons_succ]
          refine wpAnyH_take (i := 3) (oi := { dst := some 69, op := Op.indexAddr 22 (Operand.tmp 67) (Operand.tmp 68), type := 0, pos := "law.go:99", after := #[{ on := 1, ground := Ground.data }, { on := 2, ground := Ground.data }], guard := none }) (v := ?_) rfl (by kernel_rfl) (by kernel_rfl) (by kernel_rfl) (fun _ _ _ h => h) (Or.inl ⟨by rfl, ?_⟩) (by assumption) ?_
          rotate_left
          · intro w hSw
            try dsimp only at hSw
            go_simp
            try with_reducible rfl
          try simp only [Act.put, List.setIfInBounds_toArray, List.set_cons_zero, List.set_cons_succ]
          refine wpAnyH_take (i := 4) (oi := { dst := some 70, op := Op.fieldAddr 35 (Operand.tmp 69) 1, type := 0, pos := "law.go:99", after := #[{ on := 3, ground := Ground.data }], guard := none }) (v := ?_) rfl (by kernel_rfl) (by kernel_rfl) (by kernel_rfl) (fun _ _ _ h => h) (Or.inl ⟨by rfl, ?_⟩) (by assumption) ?_
          rotate_left
          · intro w hSw
            try dsimp only at hSw
            go_simp
            try with_reducible rfl
          try simp only [Act.put, List.setIfInBounds_toArray, List.set_cons_zero, List.set_cons_succ]
          refine wpAnyH_take (i := 5) (oi := { dst := some 71, op := Op.load 3 (Operand.tmp 70), type := 3, pos := "law.go:99", after := #[{ on := 4, ground := Ground.data }], guard := none }) (v := ?_) rfl (by kernel_rfl) (by kernel_rfl) (by kernel_rfl) (fun _ _ _ h => h) (Or.inl ⟨by rfl, ?_⟩) (by assumption) ?_
          rotate_left
          · intro w hSw
            try dsimp only at hSw
            go_simp
            try with_reducible rfl
          try simp only [Act.put, List.setIfInBounds_toArray, List.set_cons_zero, List.set_cons_succ]
          refine wpAnyH_take (i := 6) (oi := { dst := some 72, op := Op.move (Operand.tmp 2), type := 22, pos := "law.go:99", after := #[], guard := none }) (v := ?_) rfl (by kernel_rfl) (by kernel_rfl) (by kernel_rfl) (fun _ _ _ h => h) (Or.inl ⟨by rfl, ?_⟩) (by assumption) ?_
          rotate_left
          · intro w hSw
            try dsimp only at hSw
            go_simp
            try with_reducible rfl
          try simp only [Act.put, List.setIfInBounds_toArray, List.set_cons_zero, List.set_cons_succ]
          refine wpAnyH_take (i := 7) (oi := { dst := some 73, op := Op.move (Operand.tmp 17), type := 3, pos := "law.go:99", after := #[], guard := none }) (v := ?_) rfl (by kernel_rfl) (by kernel_rfl) (by kernel_rfl) (fun _ _ _ h => h) (Or.inl ⟨by rfl, ?_⟩) (by assumption) ?_
          rotate_left
          · intro w hSw
            try dsimp only at hSw
            go_simp
            try with_reducible rfl
          try simp only [Act.put, List.setIfInBounds_toArray, List.set_cons_zero, List.set_cons_succ]
          refine wpAnyH_take (i := 8) (oi := { dst := some 74, op := Op.indexAddr 22 (Operand.tmp 72) (Operand.tmp 73), type := 0, pos := "law.go:99", after := #[{ on := 6, ground := Ground.data }, { on := 7, ground := Ground.data }], guard := none }) (v := ?_) rfl (by kernel_rfl) (by kernel_rfl) (by kernel_rfl) (fun _ _ _ h => h) (Or.inl ⟨by rfl, ?_⟩) (by assumption) ?_
          rotate_left
          · intro w hSw
            try dsimp only at hSw
            go_simp
            try with_reducible rfl
          try simp only [Act.put, List.setIfInBounds_toArray, List.set_cons_zero, List.set_cons_succ]
          refine wpAnyH_take (i := 9) (oi := { dst := some 75, op := Op.fieldAddr 35 (Operand.tmp 74) 2, type := 0, pos := "law.go:99", after := #[{ on := 8, ground := Ground.data }], guard := none }) (v := ?_) rfl (by kernel_rfl) (by kernel_rfl) (by kernel_rfl) (fun _ _ _ h => h) (Or.inl ⟨by rfl, ?_⟩) (by assumption) ?_
          rotate_left
          · intro w hSw
            try dsimp only at hSw
            go_simp
            try with_reducible rfl
          try simp only [Act.put, List.setIfInBounds_toArray, List.set_cons_zero, List.set_cons_succ]
          refine wpAnyH_take (i := 10) (oi := { dst := some 76, op := Op.load 32 (Operand.tmp 75), type := 32, pos := "law.go:99", after := #[{ on := 9, ground := Ground.data }], guard := none }) (v := ?_) rfl (by kernel_rfl) (by kernel_rfl) (by kernel_rfl) (fun _ _ _ h => h) (Or.inl ⟨by rfl, ?_⟩) (by assumption) ?_
          rotate_left
          · intro w hSw
            try dsimp only at hSw
            go_simp
            try with_reducible rfl
          try simp only [Act.put, List.setIfInBounds_toArray, List.set_cons_zero, List.set_cons_succ]
          refine wpAnyH_ready (rs := [11]) (by kernel_rfl) (by simp) ?_
          refine AllReadyH.cons (o := { dst := some 77, op := Op.call { callee := Callee.value (Operand.func 11), args := #[Operand.tmp 66, Operand.tmp 71, Operand.tmp 76], argTypes := #[25, 3, 32] }, type := 26, pos := "law.go:99", after := #[{ on := 0, ground := Ground.data }, { on := 5, ground := Ground.data }, { on := 10, ground := Ground.data }], guard := none }) rfl (fun K hK => ?_) AllReadyH.nil
          go_simp
          with_reducible refine HW.out.mono ?_
          clear HW
          rintro e w6 ⟨P6, rfl, h6, bf6, _⟩
          have HE := Lib.hid h6
          have BE := Lib.hid (HB0.out.trans (bf6.below.mono hBw))
          have c1 := (HOp.out.below BE.out).c1
          rw [hat] at c1
          have c2 := (HOp.out.below BE.out).c2
          clear h6 bf6 HB0
          have hT6 : (fun W : World => W.cell? ⟨ob, off + j * 4 + 1, none⟩ = some (.int .i64 (i : Int)) ∧ W.cell? ⟨ob, off + j * 4 + 2, none⟩ = some (.slice (os j).ba (os j).bn (os j).bc)) w6 := ⟨c1, c2⟩
          try go_wp2_with fail
          refine hK.out _ _ hT6 (fun _ => ?_)
          clear hK K
          try simp only [Act.put, List.setIfInBounds_toArray, List.set_cons_zero, List.set_cons_succ]
          clear hT
          refine wpAnyH_take (i := 12) (oi := { dst := some 78, op := Op.binOp BinOp.eql 26 (Operand.tmp 77) (Operand.const (Value.int IntKind.i64 0)) 26, type := 4, pos := "law.go:99", after := #[{ on := 11, ground := Ground.data }], guard := none }) (v := ?_) rfl (by kernel_rfl) (by kernel_rfl) (by kernel_rfl) (fun _ _ _ h => h) (Or.inl ⟨by rfl, ?_⟩) (by assumption) ?_
          rotate_left
          · intro w hSw
            try dsimp only at hSw
            go_simp
            try with_reducible rfl
          try simp only [Act.put, List.setIfInBounds_toArray, List.set_cons_zero, List.set_cons_succ]
          refine wpAnyH_done (by kernel_rfl) ?_ _
          clear hT6
          clear c2
          go_wp2
          constructor
          · exact ⟨j + 1, cn + 1, true, P6, _, rfl, by go_num, by go_num, by omega, (by show cn + 1 = (m.pend ++ [(i, pad (os j).b)]).length; rw [List.length_append, List.length_singleton, hcn.out]), (by show true = hitOf kb _ (m.pend ++ [(i, pad (os j).b)]); rw [hitOf_snoc, ← hhv.out]; simp), HMn.out, (by first | exact HE.out | exact HE.out.below (below_drewN (Below.refl _ _) _)), (by first | exact BE.out | exact BE.out.trans (below_drewN (Below.refl _ _) _))⟩
          · show on - ((j : Int) + 1).toNat < on - (j : Int).toNat
            omega
        | false =>
          by_cases hik : i = k
          · obtain rfl := hik
            have ek : ((i : Int) == (i : Int)) = true := by simp
            by_cases hck : cn < kn
            · have dk : decide ((cn : Int) < kn) = true := decide_eq_true (by omega)
              cases hkc : kb.getD cn false with
              | true =>
                have hbd : Below wr.heap.size wr wr.drew := (Below.refl _ _).drew
                have hda := HD.out.below hbd
                have hb2 := hb.trans (hbd.mono hb.size)
                have c1 := (HOp.out.below hb2).c1
                have c2 := (HOp.out.below hb2).c2
                rw [hat] at c1
                have HW := Lib.hid (Write_ok (m1 := { m with writes := m.writes + 1 }) hda (os j).ba (os j).bn (os j).bc (os j).b i hbn (by rw [hM.n8]; exact hi8) hM.dead ((HOp.out.rb.below hb2).rd hb2.size) rfl (show m.pend.length ≤ 1000000 by have := hM.pl; omega) (spend_free hda (by rw [hM.lim]; omega) (by rw [hM.wr]; have := hM.pl; omega)))
                have HMn := Lib.hid (hM.snoc hnow i hi8 (os j).b (by rw [HOp.out.rb.1]; exact hbn))
                have HB0 := Lib.hid hb2
                have hcl : cn ≤ 100 := by have := hM.pl; have := hcn.out; omega
                clear HM HD hb hM hnow hbd hda hb2
                go_wp2_with fail
                have hT : (fun W : World => W.cell? ⟨ob, off + j * 4 + 1, none⟩ = some (.int .i64 (i : Int)) ∧ W.cell? ⟨ob, off + j * 4 + 2, none⟩ = some (.slice (os j).ba (os j).bn (os j).bc)) wr.drew := ⟨c1, c2⟩
                refine wp_region_held_drew (S := fun W => W.cell? ⟨ob, off + j * 4 + 1, none⟩ = some (.int .i64 (i : Int)) ∧ W.cell? ⟨ob, off + j * 4 + 2, none⟩ = some (.slice (os j).ba (os j).bn (os j).bc)) (by kernel_rfl) hT (fun hHeld => ?_)
                clear hHeld c1 c2
                refine wpAnyH_take (i := 0) (oi := { dst := some 66, op := Op.move (Operand.tmp 10), type := 25, pos := "law.go:99", after := #[], guard := none }) (v := ?_) rfl (by kernel_rfl) (by kernel_rfl) (by kernel_rfl) (fun _ _ _ h => h) (Or.inl ⟨by rfl, ?_⟩) (by assumption) ?_
                rotate_left
                · intro w hSw
                  try dsimp only at hSw
                  go_simp
                  try with_reducible rfl
                try simp only [Act.put, List.setIfInBounds_toArray, List.set_cons_zero, List.set_cons_succ]
                refine wpAnyH_take (i := 1) (oi := { dst := some 67, op := Op.move (Operand.tmp 2), type := 22, pos := "law.go:99", after := #[], guard := none }) (v := ?_) rfl (by kernel_rfl) (by kernel_rfl) (by kernel_rfl) (fun _ _ _ h => h) (Or.inl ⟨by rfl, ?_⟩) (by assumption) ?_
                rotate_left
                · intro w hSw
                  try dsimp only at hSw
                  go_simp
                  try with_reducible rfl
                try simp only [Act.put, List.setIfInBounds_toArray, List.set_cons_zero, List.set_cons_succ]
                refine wpAnyH_take (i := 2) (oi := { dst := some 68, op := Op.move (Operand.tmp 17), type := 3, pos := "law.go:99", after := #[], guard := none }) (v := ?_) rfl (by kernel_rfl) (by kernel_rfl) (by kernel_rfl) (fun _ _ _ h => h) (Or.inl ⟨by rfl, ?_⟩) (by assumption) ?_
                rotate_left
                · intro w hSw
                  try dsimp only at hSw
                  go_simp
                  try with_reducible rfl
                try simp only [Act.put, List.setIfInBounds_toArray, List.set_cons_zero, List.set_cons_succ]
                refine wpAnyH_take (i := 3) (oi := { dst := some 69, op := Op.indexAddr 22 (Operand.tmp 67) (Operand.tmp 68), type := 0, pos := "law.go:99", after := #[{ on := 1, ground := Ground.data }, { on := 2, ground := Ground.data }], guard := none }) (v := ?_) rfl (by kernel_rfl) (by kernel_rfl) (by kernel_rfl) (fun _ _ _ h => h) (Or.inl ⟨by rfl, ?_⟩) (by assumption) ?_
                rotate_left
                · intro w hSw
                  try dsimp only at hSw
                  go_simp
                  try with_reducible rfl
                try simp only [Act.put, List.setIfInBounds_toArray, List.set_cons_zero, List.set_cons_succ]
                refine wpAnyH_take (i := 4) (oi := { dst := some 70, op := Op.fieldAddr 35 (Operand.tmp 69) 1, type := 0, pos := "law.go:99", after := #[{ on := 3, ground := Ground.data }], guard := none }) (v := ?_) rfl (by kernel_rfl) (by kernel_rfl) (by kernel_rfl) (fun _ _ _ h => h) (Or.inl ⟨by rfl, ?_⟩) (by assumption) ?_
                rotate_left
                · intro w hSw
                  try dsimp only at hSw
                  go_simp
                  try with_reducible rfl
                try simp only [Act.put, List.setIfInBounds_toArray, List.set_cons_zero, List.set_cons_succ]
                refine wpAnyH_take (i := 5) (oi := { dst := some 71, op := Op.load 3 (Operand.tmp 70), type := 3, pos := "law.go:99", after := #[{ on := 4, ground := Ground.data }], guard := none }) (v := ?_) rfl (by kernel_rfl) (by kernel_rfl) (by kernel_rfl) (fun _ _ _ h => h) (Or.inl ⟨by rfl, ?_⟩) (by assumption) ?_
                rotate_left
                · intro w hSw
                  try dsimp only at hSw
                  go_simp
                  try with_reducible rfl
                try simp only [Act.put, List.setIfInBounds_toArray, List.set_cons_zero, List.set_cons_succ]
                refine wpAnyH_take (i := 6) (oi := { dst := some 72, op := Op.move (Operand.tmp 2), type := 22, pos := "law.go:99", after := #[], guard := none }) (v := ?_) rfl (by kernel_rfl) (by kernel_rfl) (by kernel_rfl) (fun _ _ _ h => h) (Or.inl ⟨by rfl, ?_⟩) (by assumption) ?_
                rotate_left
                · intro w hSw
                  try dsimp only at hSw
                  go_simp
                  try with_reducible rfl
                try simp only [Act.put, List.setIfInBounds_toArray, List.set_cons_zero, List.set_cons_succ]
                refine wpAnyH_take (i := 7) (oi := { dst := some 73, op := Op.move (Operand.tmp 17), type := 3, pos := "law.go:99", after := #[], guard := none }) (v := ?_) rfl (by kernel_rfl) (by kernel_rfl) (by kernel_rfl) (fun _ _ _ h => h) (Or.inl ⟨by rfl, ?_⟩) (by assumption) ?_
                rotate_left
                · intro w hSw
                  try dsimp only at hSw
                  go_simp
                  try with_reducible rfl
                try simp only [Act.put, List.setIfInBounds_toArray, List.set_cons_zero, List.set_cons_succ]
                refine wpAnyH_take (i := 8) (oi := { dst := some 74, op := Op.indexAddr 22 (Operand.tmp 72) (Operand.tmp 73), type := 0, pos := "law.go:99", after := #[{ on := 6, ground := Ground.data }, { on := 7, ground := Ground.data }], guard := none }) (v := ?_) rfl (by kernel_rfl) (by kernel_rfl) (by kernel_rfl) (fun _ _ _ h => h) (Or.inl ⟨by rfl, ?_⟩) (by assumption) ?_
                rotate_left
                · intro w hSw
                  try dsimp only at hSw
                  go_simp
                  try with_reducible rfl
                try simp only [Act.put, List.setIfInBounds_toArray, List.set_cons_zero, List.set_cons_succ]
                refine wpAnyH_take (i := 9) (oi := { dst := some 75, op := Op.fieldAddr 35 (Operand.tmp 74) 2, type := 0, pos := "law.go:99", after := #[{ on := 8, ground := Ground.data }], guard := none }) (v := ?_) rfl (by kernel_rfl) (by kernel_rfl) (by kernel_rfl) (fun _ _ _ h => h) (Or.inl ⟨by rfl, ?_⟩) (by assumption) ?_
                rotate_left
                · intro w hSw
                  try dsimp only at hSw
                  go_simp
                  try with_reducible rfl
                try simp only [Act.put, List.setIfInBounds_toArray, List.set_cons_zero, List.set_cons_succ]
                refine wpAnyH_take (i := 10) (oi := { dst := some 76, op := Op.load 32 (Operand.tmp 75), type := 32, pos := "law.go:99", after := #[{ on := 9, ground := Ground.data }], guard := none }) (v := ?_) rfl (by kernel_rfl) (by kernel_rfl) (by kernel_rfl) (fun _ _ _ h => h) (Or.inl ⟨by rfl, ?_⟩) (by assumption) ?_
                rotate_left
                · intro w hSw
                  try dsimp only at hSw
                  go_simp
                  try with_reducible rfl
                try simp only [Act.put, List.setIfInBounds_toArray, List.set_cons_zero, List.set_cons_succ]
                refine wpAnyH_ready (rs := [11]) (by kernel_rfl) (by simp) ?_
                refine AllReadyH.cons (o := { dst := some 77, op := Op.call { callee := Callee.value (Operand.func 11), args := #[Operand.tmp 66, Operand.tmp 71, Operand.tmp 76], argTypes := #[25, 3, 32] }, type := 26, pos := "law.go:99", after := #[{ on := 0, ground := Ground.data }, { on := 5, ground := Ground.data }, { on := 10, ground := Ground.data }], guard := none }) rfl (fun K hK => ?_) AllReadyH.nil
                go_simp
                with_reducible refine HW.out.mono ?_
                clear HW
                rintro e w6 ⟨P6, rfl, h6, bf6, _⟩
                have HE := Lib.hid h6
                have BE := Lib.hid (HB0.out.trans (bf6.below.mono hBw))
                have c1 := (HOp.out.below BE.out).c1
                rw [hat] at c1
                have c2 := (HOp.out.below BE.out).c2
                clear h6 bf6 HB0
                have hT6 : (fun W : World => W.cell? ⟨ob, off + j * 4 + 1, none⟩ = some (.int .i64 (i : Int)) ∧ W.cell? ⟨ob, off + j * 4 + 2, none⟩ = some (.slice (os j).ba (os j).bn (os j).bc)) w6 := ⟨c1, c2⟩
                try go_wp2_with fail
                refine hK.out _ _ hT6 (fun _ => ?_)
                clear hK K
                try simp only [Act.put, List.setIfInBounds_toArray, List.set_cons_zero, List.set_cons_succ]
                clear hT
                refine wpAnyH_take (i := 12) (oi := { dst := some 78, op := Op.binOp BinOp.eql 26 (Operand.tmp 77) (Operand.const (Value.int IntKind.i64 0)) 26, type := 4, pos := "law.go:99", after := #[{ on := 11, ground := Ground.data }], guard := none }) (v := ?_) rfl (by kernel_rfl) (by kernel_rfl) (by kernel_rfl) (fun _ _ _ h => h) (Or.inl ⟨by rfl, ?_⟩) (by assumption) ?_
                rotate_left
                · intro w hSw
                  try dsimp only at hSw
                  go_simp
                  try with_reducible rfl
                try simp only [Act.put, List.setIfInBounds_toArray, List.set_cons_zero, List.set_cons_succ]
                refine wpAnyH_done (by kernel_rfl) ?_ _
                clear hT6
                obtain ⟨qb, qo, rfl, hqB, hqc⟩ := (HK.out.below BE.out).2 (by omega)
                have hqk : w6.cell? ⟨qb, qo + cn, none⟩ = some (.bool true) := by rw [hqc cn hck, hkc]
                clear hqc
                clear c2
                go_wp2
                constructor
                · exact ⟨j + 1, cn + 1, true, P6, _, rfl, by go_num, by go_num, by omega, (by show cn + 1 = (m.pend ++ [(i, pad (os j).b)]).length; rw [List.length_append, List.length_singleton, hcn.out]), (by show true = hitOf kb _ (m.pend ++ [(i, pad (os j).b)]); rw [hitOf_snoc, ← hhv.out, ← hcn.out, hkc]; simp), HMn.out, (by first | exact HE.out | exact HE.out.below (below_drewN (Below.refl _ _) _)), (by first | exact BE.out | exact BE.out.trans (below_drewN (Below.refl _ _) _))⟩
                · show on - ((j : Int) + 1).toNat < on - (j : Int).toNat
                  omega
              | false =>
                have hbd : Below wr.heap.size wr wr.drew := (Below.refl _ _).drew
                have hda := HD.out.below hbd
                have hb2 := hb.trans (hbd.mono hb.size)
                have c1 := (HOp.out.below hb2).c1
                have c2 := (HOp.out.below hb2).c2
                rw [hat] at c1
                have HW := Lib.hid (Write_ok (m1 := { m with writes := m.writes + 1 }) hda (os j).ba (os j).bn (os j).bc (os j).b i hbn (by rw [hM.n8]; exact hi8) hM.dead ((HOp.out.rb.below hb2).rd hb2.size) rfl (show m.pend.length ≤ 1000000 by have := hM.pl; omega) (spend_free hda (by rw [hM.lim]; omega) (by rw [hM.wr]; have := hM.pl; omega)))
                have HMn := Lib.hid (hM.snoc hnow i hi8 (os j).b (by rw [HOp.out.rb.1]; exact hbn))
                have HB0 := Lib.hid hb2
                have hcl : cn ≤ 100 := by have := hM.pl; have := hcn.out; omega
                clear HM HD hb hM hnow hbd hda hb2
                go_wp2_with fail
                have hT : (fun W : World => W.cell? ⟨ob, off + j * 4 + 1, none⟩ = some (.int .i64 (i : Int)) ∧ W.cell? ⟨ob, off + j * 4 + 2, none⟩ = some (.slice (os j).ba (os j).bn (os j).bc)) wr.drew := ⟨c1, c2⟩
                refine wp_region_held_drew (S := fun W => W.cell? ⟨ob, off + j * 4 + 1, none⟩ = some (.int .i64 (i : Int)) ∧ W.cell? ⟨ob, off + j * 4 + 2, none⟩ = some (.slice (os j).ba (os j).bn (os j).bc)) (by kernel_rfl) hT (fun hHeld => ?_)
                clear hHeld c1 c2
                refine wpAnyH_take (i := 0) (oi := { dst := some 66, op := Op.move (Operand.tmp 10), type := 25, pos := "law.go:99", after := #[], guard := none }) (v := ?_) rfl (by kernel_rfl) (by kernel_rfl) (by kernel_rfl) (fun _ _ _ h => h) (Or.inl ⟨by rfl, ?_⟩) (by assumption) ?_
                rotate_left
                · intro w hSw
                  try dsimp only at hSw
                  go_simp
                  try with_reducible rfl
                try simp only [Act.put, List.setIfInBounds_toArray, List.set_cons_zero, List.set_cons_succ]
                refine wpAnyH_take (i := 1) (oi := { dst := some 67, op := Op.move (Operand.tmp 2), type := 22, pos := "law.go:99", after := #[], guard := none }) (v := ?_) rfl (by kernel_rfl) (by kernel_rfl) (by kernel_rfl) (fun _ _ _ h => h) (Or.inl ⟨by rfl, ?_⟩) (by assumption) ?_
                rotate_left
                · intro w hSw
                  try dsimp only at hSw
                  go_simp
                  try with_reducible rfl
                try simp only [Act.put, List.setIfInBounds_toArray, List.set_cons_zero, List.set_cons_succ]
                refine wpAnyH_take (i := 2) (oi := { dst := some 68, op := Op.move (Operand.tmp 17), type := 3, pos := "law.go:99", after := #[], guard := none }) (v := ?_) rfl (by kernel_rfl) (by kernel_rfl) (by kernel_rfl) (fun _ _ _ h => h) (Or.inl ⟨by rfl, ?_⟩) (by assumption) ?_
                rotate_left
                · intro w hSw
                  try dsimp only at hSw
                  go_simp
                  try with_reducible rfl
                try simp only [Act.put, List.setIfInBounds_toArray, List.set_cons_zero, List.set_cons_succ]
                refine wpAnyH_take (i := 3) (oi := { dst := some 69, op := Op.indexAddr 22 (Operand.tmp 67) (Operand.tmp 68), type := 0, pos := "law.go:99", after := #[{ on := 1, ground := Ground.data }, { on := 2, ground := Ground.data }], guard := none }) (v := ?_) rfl (by kernel_rfl) (by kernel_rfl) (by kernel_rfl) (fun _ _ _ h => h) (Or.inl ⟨by rfl, ?_⟩) (by assumption) ?_
                rotate_left
                · intro w hSw
                  try dsimp only at hSw
                  go_simp
                  try with_reducible rfl
                try simp only [Act.put, List.setIfInBounds_toArray, List.set_cons_zero, List.set_cons_succ]
                refine wpAnyH_take (i := 4) (oi := { dst := some 70, op := Op.fieldAddr 35 (Operand.tmp 69) 1, type := 0, pos := "law.go:99", after := #[{ on := 3, ground := Ground.data }], guard := none }) (v := ?_) rfl (by kernel_rfl) (by kernel_rfl) (by kernel_rfl) (fun _ _ _ h => h) (Or.inl ⟨by rfl, ?_⟩) (by assumption) ?_
                rotate_left
                · intro w hSw
                  try dsimp only at hSw
                  go_simp
                  try with_reducible rfl
                try simp only [Act.put, List.setIfInBounds_toArray, List.set_cons_zero, List.set_cons_succ]
                refine wpAnyH_take (i := 5) (oi := { dst := some 71, op := Op.load 3 (Operand.tmp 70), type := 3, pos := "law.go:99", after := #[{ on := 4, ground := Ground.data }], guard := none }) (v := ?_) rfl (by kernel_rfl) (by kernel_rfl) (by kernel_rfl) (fun _ _ _ h => h) (Or.inl ⟨by rfl, ?_⟩) (by assumption) ?_
                rotate_left
                · intro w hSw
                  try dsimp only at hSw
                  go_simp
                  try with_reducible rfl
                try simp only [Act.put, List.setIfInBounds_toArray, List.set_cons_zero, List.set_cons_succ]
                refine wpAnyH_take (i := 6) (oi := { dst := some 72, op := Op.move (Operand.tmp 2), type := 22, pos := "law.go:99", after := #[], guard := none }) (v := ?_) rfl (by kernel_rfl) (by kernel_rfl) (by kernel_rfl) (fun _ _ _ h => h) (Or.inl ⟨by rfl, ?_⟩) (by assumption) ?_
                rotate_left
                · intro w hSw
                  try dsimp only at hSw
                  go_simp
                  try with_reducible rfl
                try simp only [Act.put, List.setIfInBounds_toArray, List.set_cons_zero, List.set_cons_succ]
                refine wpAnyH_take (i := 7) (oi := { dst := some 73, op := Op.move (Operand.tmp 17), type := 3, pos := "law.go:99", after := #[], guard := none }) (v := ?_) rfl (by kernel_rfl) (by kernel_rfl) (by kernel_rfl) (fun _ _ _ h => h) (Or.inl ⟨by rfl, ?_⟩) (by assumption) ?_
                rotate_left
                · intro w hSw
                  try dsimp only at hSw
                  go_simp
                  try with_reducible rfl
                try simp only [Act.put, List.setIfInBounds_toArray, List.set_cons_zero, List.set_cons_succ]
                refine wpAnyH_take (i := 8) (oi := { dst := some 74, op := Op.indexAddr 22 (Operand.tmp 72) (Operand.tmp 73), type := 0, pos := "law.go:99", after := #[{ on := 6, ground := Ground.data }, { on := 7, ground := Ground.data }], guard := none }) (v := ?_) rfl (by kernel_rfl) (by kernel_rfl) (by kernel_rfl) (fun _ _ _ h => h) (Or.inl ⟨by rfl, ?_⟩) (by assumption) ?_
                rotate_left
                · intro w hSw
                  try dsimp only at hSw
                  go_simp
                  try with_reducible rfl
                try simp only [Act.put, List.setIfInBounds_toArray, List.set_cons_zero, List.set_cons_succ]
                refine wpAnyH_take (i := 9) (oi := { dst := some 75, op := Op.fieldAddr 35 (Operand.tmp 74) 2, type := 0, pos := "law.go:99", after := #[{ on := 8, ground := Ground.data }], guard := none }) (v := ?_) rfl (by kernel_rfl) (by kernel_rfl) (by kernel_rfl) (fun _ _ _ h => h) (Or.inl ⟨by rfl, ?_⟩) (by assumption) ?_
                rotate_left
                · intro w hSw
                  try dsimp only at hSw
                  go_simp
                  try with_reducible rfl
                try simp only [Act.put, List.setIfInBounds_toArray, List.set_cons_zero, List.set_cons_succ]
                refine wpAnyH_take (i := 10) (oi := { dst := some 76, op := Op.load 32 (Operand.tmp 75), type := 32, pos := "law.go:99", after := #[{ on := 9, ground := Ground.data }], guard := none }) (v := ?_) rfl (by kernel_rfl) (by kernel_rfl) (by kernel_rfl) (fun _ _ _ h => h) (Or.inl ⟨by rfl, ?_⟩) (by assumption) ?_
                rotate_left
                · intro w hSw
                  try dsimp only at hSw
                  go_simp
                  try with_reducible rfl
                try simp only [Act.put, List.setIfInBounds_toArray, List.set_cons_zero, List.set_cons_succ]
                refine wpAnyH_ready (rs := [11]) (by kernel_rfl) (by simp) ?_
                refine AllReadyH.cons (o := { dst := some 77, op := Op.call { callee := Callee.value (Operand.func 11), args := #[Operand.tmp 66, Operand.tmp 71, Operand.tmp 76], argTypes := #[25, 3, 32] }, type := 26, pos := "law.go:99", after := #[{ on := 0, ground := Ground.data }, { on := 5, ground := Ground.data }, { on := 10, ground := Ground.data }], guard := none }) rfl (fun K hK => ?_) AllReadyH.nil
                go_simp
                with_reducible refine HW.out.mono ?_
                clear HW
                rintro e w6 ⟨P6, rfl, h6, bf6, _⟩
                have HE := Lib.hid h6
                have BE := Lib.hid (HB0.out.trans (bf6.below.mono hBw))
                have c1 := (HOp.out.below BE.out).c1
                rw [hat] at c1
                have c2 := (HOp.out.below BE.out).c2
                clear h6 bf6 HB0
                have hT6 : (fun W : World => W.cell? ⟨ob, off + j * 4 + 1, none⟩ = some (.int .i64 (i : Int)) ∧ W.cell? ⟨ob, off + j * 4 + 2, none⟩ = some (.slice (os j).ba (os j).bn (os j).bc)) w6 := ⟨c1, c2⟩
                try go_wp2_with fail
                refine hK.out _ _ hT6 (fun _ => ?_)
                clear hK K
                try simp only [Act.put, List.setIfInBounds_toArray, List.set_cons_zero, List.set_cons_succ]
                clear hT
                refine wpAnyH_take (i := 12) (oi := { dst := some 78, op := Op.binOp BinOp.eql 26 (Operand.tmp 77) (Operand.const (Value.int IntKind.i64 0)) 26, type := 4, pos := "law.go:99", after := #[{ on := 11, ground := Ground.data }], guard := none }) (v := ?_) rfl (by kernel_rfl) (by kernel_rfl) (by kernel_rfl) (fun _ _ _ h => h) (Or.inl ⟨by rfl, ?_⟩) (by assumption) ?_
                rotate_left
                · intro w hSw
                  try dsimp only at hSw
                  go_simp
                  try with_reducible rfl
                try simp only [Act.put, List.setIfInBounds_toArray, List.set_cons_zero, List.set_cons_succ]
                refine wpAnyH_done (by kernel_rfl) ?_ _
                clear hT6
                obtain ⟨qb, qo, rfl, hqB, hqc⟩ := (HK.out.below BE.out).2 (by omega)
                have hqk : w6.cell? ⟨qb, qo + cn, none⟩ = some (.bool false) := by rw [hqc cn hck, hkc]
                clear hqc
                clear c2
                go_wp2
                constructor
                · exact ⟨j + 1, cn + 1, false, P6, _, rfl, by go_num, by go_num, by omega, (by show cn + 1 = (m.pend ++ [(i, pad (os j).b)]).length; rw [List.length_append, List.length_singleton, hcn.out]), (by show false = hitOf kb _ (m.pend ++ [(i, pad (os j).b)]); rw [hitOf_snoc, ← hhv.out, ← hcn.out, hkc]; simp), HMn.out, (by first | exact HE.out | exact HE.out.below (below_drewN (Below.refl _ _) _)), (by first | exact BE.out | exact BE.out.trans (below_drewN (Below.refl _ _) _))⟩
                · show on - ((j : Int) + 1).toNat < on - (j : Int).toNat
                  omega
            · have dk : decide ((cn : Int) < kn) = false := decide_eq_false (by omega)
              have hkc : kb.getD cn false = false := by
                rw [List.getD_eq_getElem?_getD, List.getElem?_eq_none (by have := HK.out.1; omega)]
                rfl
              have hbd : Below wr.heap.size wr wr.drew := (Below.refl _ _).drew
              have hda := HD.out.below hbd
              have hb2 := hb.trans (hbd.mono hb.size)
              have c1 := (HOp.out.below hb2).c1
              have c2 := (HOp.out.below hb2).c2
              rw [hat] at c1
              have HW := Lib.hid (Write_ok (m1 := { m with writes := m.writes + 1 }) hda (os j).ba (os j).bn (os j).bc (os j).b i hbn (by rw [hM.n8]; exact hi8) hM.dead ((HOp.out.rb.below hb2).rd hb2.size) rfl (show m.pend.length ≤ 1000000 by have := hM.pl; omega) (spend_free hda (by rw [hM.lim]; omega) (by rw [hM.wr]; have := hM.pl; omega)))
              have HMn := Lib.hid (hM.snoc hnow i hi8 (os j).b (by rw [HOp.out.rb.1]; exact hbn))
              have HB0 := Lib.hid hb2
              have hcl : cn ≤ 100 := by have := hM.pl; have := hcn.out; omega
              clear HM HD hb hM hnow hbd hda hb2
              go_wp2_with fail
              have hT : (fun W : World => W.cell? ⟨ob, off + j * 4 + 1, none⟩ = some (.int .i64 (i : Int)) ∧ W.cell? ⟨ob, off + j * 4 + 2, none⟩ = some (.slice (os j).ba (os j).bn (os j).bc)) wr.drew := ⟨c1, c2⟩
              refine wp_region_held_drew (S := fun W => W.cell? ⟨ob, off + j * 4 + 1, none⟩ = some (.int .i64 (i : Int)) ∧ W.cell? ⟨ob, off + j * 4 + 2, none⟩ = some (.slice (os j).ba (os j).bn (os j).bc)) (by kernel_rfl) hT (fun hHeld => ?_)
              clear hHeld c1 c2
              refine wpAnyH_take (i := 0) (oi := { dst := some 66, op := Op.move (Operand.tmp 10), type := 25, pos := "law.go:99", after := #[], guard := none }) (v := ?_) rfl (by kernel_rfl) (by kernel_rfl) (by kernel_rfl) (fun _ _ _ h => h) (Or.inl ⟨by rfl, ?_⟩) (by assumption) ?_
              rotate_left
              · intro w hSw
                try dsimp only at hSw
                go_simp
                try with_reducible rfl
              try simp only [Act.put, List.setIfInBounds_toArray, List.set_cons_zero, List.set_cons_succ]
              refine wpAnyH_take (i := 1) (oi := { dst := some 67, op := Op.move (Operand.tmp 2), type := 22, pos := "law.go:99", after := #[], guard := none }) (v := ?_) rfl (by kernel_rfl) (by kernel_rfl) (by kernel_rfl) (fun _ _ _ h => h) (Or.inl ⟨by rfl, ?_⟩) (by assumption) ?_
              rotate_left
              · intro w hSw
                try dsimp only at hSw
                go_simp
                try with_reducible rfl
              try simp only [Act.put, List.setIfInBounds_toArray, List.set_cons_zero, List.set_cons_succ]
              refine wpAnyH_take (i := 2) (oi := { dst := some 68, op := Op.move (Operand.tmp 17), type := 3, pos := "law.go:99", after := #[], guard := none }) (v := ?_) rfl (by kernel_rfl) (by kernel_rfl) (by kernel_rfl) (fun _ _ _ h => h) (Or.inl ⟨by rfl, ?_⟩) (by assumption) ?_
              rotate_left
              · intro w hSw
                try dsimp only at hSw
                go_simp
                try with_reducible rfl
              try simp only [Act.put, List.setIfInBounds_toArray, List.set_cons_zero, List.set_cons_succ]
              refine wpAnyH_take (i := 3) (oi := { dst := some 69, op := Op.indexAddr 22 (Operand.tmp 67) (Operand.tmp 68), type := 0, pos := "law.go:99", after := #[{ on := 1, ground := Ground.data }, { on := 2, ground := Ground.data }], guard := none }) (v := ?_) rfl (by kernel_rfl) (by kernel_rfl) (by kernel_rfl) (fun _ _ _ h => h) (Or.inl ⟨by rfl, ?_⟩) (by assumption) ?_
              rotate_left
              · intro w hSw
                try dsimp only at hSw
                go_simp
                try with_reducible rfl
              try simp only [Act.put, List.setIfInBounds_toArray, List.set_cons_zero, List.set_cons_succ]
              refine wpAnyH_take (i := 4) (oi := { dst := some 70, op := Op.fieldAddr 35 (Operand.tmp 69) 1, type := 0, pos := "law.go:99", after := #[{ on := 3, ground := Ground.data }], guard := none }) (v := ?_) rfl (by kernel_rfl) (by kernel_rfl) (by kernel_rfl) (fun _ _ _ h => h) (Or.inl ⟨by rfl, ?_⟩) (by assumption) ?_
              rotate_left
              · intro w hSw
                try dsimp only at hSw
                go_simp
                try with_reducible rfl
              try simp only [Act.put, List.setIfInBounds_toArray, List.set_cons_zero, List.set_cons_succ]
              refine wpAnyH_take (i := 5) (oi := { dst := some 71, op := Op.load 3 (Operand.tmp 70), type := 3, pos := "law.go:99", after := #[{ on := 4, ground := Ground.data }], guard := none }) (v := ?_) rfl (by kernel_rfl) (by kernel_rfl) (by kernel_rfl) (fun _ _ _ h => h) (Or.inl ⟨by rfl, ?_⟩) (by assumption) ?_
              rotate_left
              · intro w hSw
                try dsimp only at hSw
                go_simp
                try with_reducible rfl
              try simp only [Act.put, List.setIfInBounds_toArray, List.set_cons_zero, List.set_cons_succ]
              refine wpAnyH_take (i := 6) (oi := { dst := some 72, op := Op.move (Operand.tmp 2), type := 22, pos := "law.go:99", after := #[], guard := none }) (v := ?_) rfl (by kernel_rfl) (by kernel_rfl) (by kernel_rfl) (fun _ _ _ h => h) (Or.inl ⟨by rfl, ?_⟩) (by assumption) ?_
              rotate_left
              · intro w hSw
                try dsimp only at hSw
                go_simp
                try with_reducible rfl
              try simp only [Act.put, List.setIfInBounds_toArray, List.set_cons_zero, List.set_cons_succ]
              refine wpAnyH_take (i := 7) (oi := { dst := some 73, op := Op.move (Operand.tmp 17), type := 3, pos := "law.go:99", after := #[], guard := none }) (v := ?_) rfl (by kernel_rfl) (by kernel_rfl) (by kernel_rfl) (fun _ _ _ h => h) (Or.inl ⟨by rfl, ?_⟩) (by assumption) ?_
              rotate_left
              · intro w hSw
                try dsimp only at hSw
                go_simp
                try with_reducible rfl
              try simp only [Act.put, List.setIfInBounds_toArray, List.set_cons_zero, List.set_cons_succ]
              refine wpAnyH_take (i := 8) (oi := { dst := some 74, op := Op.indexAddr 22 (Operand.tmp 72) (Operand.tmp 73), type := 0, pos := "law.go:99", after := #[{ on := 6, ground := Ground.data }, { on := 7, ground := Ground.data }], guard := none }) (v := ?_) rfl (by kernel_rfl) (by kernel_rfl) (by kernel_rfl) (fun _ _ _ h => h) (Or.inl ⟨by rfl, ?_⟩) (by assumption) ?_
              rotate_left
              · intro w hSw
                try dsimp only at hSw
                go_simp
                try with_reducible rfl
              try simp only [Act.put, List.setIfInBounds_toArray, List.set_cons_zero, List.set_cons_succ]
              refine wpAnyH_take (i := 9) (oi := { dst := some 75, op := Op.fieldAddr 35 (Operand.tmp 74) 2, type := 0, pos := "law.go:99", after := #[{ on := 8, ground := Ground.data }], guard := none }) (v := ?_) rfl (by kernel_rfl) (by kernel_rfl) (by kernel_rfl) (fun _ _ _ h => h) (Or.inl ⟨by rfl, ?_⟩) (by assumption) ?_
              rotate_left
              · intro w hSw
                try dsimp only at hSw
                go_simp
                try with_reducible rfl
              try simp only [Act.put, List.setIfInBounds_toArray, List.set_cons_zero, List.set_cons_succ]
              refine wpAnyH_take (i := 10) (oi := { dst := some 76, op := Op.load 32 (Operand.tmp 75), type := 32, pos := "law.go:99", after := #[{ on := 9, ground := Ground.data }], guard := none }) (v := ?_) rfl (by kernel_rfl) (by kernel_rfl) (by kernel_rfl) (fun _ _ _ h => h) (Or.inl ⟨by rfl, ?_⟩) (by assumption) ?_
              rotate_left
              · intro w hSw
                try dsimp only at hSw
                go_simp
                try with_reducible rfl
              try simp only [Act.put, List.setIfInBounds_toArray, List.set_cons_zero, List.set_cons_succ]
              refine wpAnyH_ready (rs := [11]) (by kernel_rfl) (by simp) ?_
              refine AllReadyH.cons (o := { dst := some 77, op := Op.call { callee := Callee.value (Operand.func 11), args := #[Operand.tmp 66, Operand.tmp 71, Operand.tmp 76], argTypes := #[25, 3, 32] }, type := 26, pos := "law.go:99", after := #[{ on := 0, ground := Ground.data }, { on := 5, ground := Ground.data }, { on := 10, ground := Ground.data }], guard := none }) rfl (fun K hK => ?_) AllReadyH.nil
              go_simp
              with_reducible refine HW.out.mono ?_
              clear HW
              rintro e w6 ⟨P6, rfl, h6, bf6, _⟩
              have HE := Lib.hid h6
              have BE := Lib.hid (HB0.out.trans (bf6.below.mono hBw))
              have c1 := (HOp.out.below BE.out).c1
              rw [hat] at c1
              have c2 := (HOp.out.below BE.out).c2
              clear h6 bf6 HB0
              have hT6 : (fun W : World => W.cell? ⟨ob, off + j * 4 + 1, none⟩ = some (.int .i64 (i : Int)) ∧ W.cell? ⟨ob, off + j * 4 + 2, none⟩ = some (.slice (os j).ba (os j).bn (os j).bc)) w6 := ⟨c1, c2⟩
              try go_wp2_with fail
              refine hK.out _ _ hT6 (fun _ => ?_)
              clear hK K
              try simp only [Act.put, List.setIfInBounds_toArray, List.set_cons_zero, List.set_cons_succ]
              clear hT
              refine wpAnyH_take (i := 12) (oi := { dst := some 78, op := Op.binOp BinOp.eql 26 (Operand.tmp 77) (Operand.const (Value.int IntKind.i64 0)) 26, type := 4, pos := "law.go:99", after := #[{ on := 11, ground := Ground.data }], guard := none }) (v := ?_) rfl (by kernel_rfl) (by kernel_rfl) (by kernel_rfl) (fun _ _ _ h => h) (Or.inl ⟨by rfl, ?_⟩) (by assumption) ?_
              rotate_left
              · intro w hSw
                try dsimp only at hSw
                go_simp
                try with_reducible rfl
              try simp only [Act.put, List.setIfInBounds_toArray, List.set_cons_zero, List.set_cons_succ]
              refine wpAnyH_done (by kernel_rfl) ?_ _
              clear hT6
              clear c2
              go_wp2
              constructor
              · exact ⟨j + 1, cn + 1, false, P6, _, rfl, by go_num, by go_num, by omega, (by show cn + 1 = (m.pend ++ [(i, pad (os j).b)]).length; rw [List.length_append, List.length_singleton, hcn.out]), (by show false = hitOf kb _ (m.pend ++ [(i, pad (os j).b)]); rw [hitOf_snoc, ← hhv.out, ← hcn.out, hkc]; simp), HMn.out, (by first | exact HE.out | exact HE.out.below (below_drewN (Below.refl _ _) _)), (by first | exact BE.out | exact BE.out.trans (below_drewN (Below.refl _ _) _))⟩
              · show on - ((j : Int) + 1).toNat < on - (j : Int).toNat
                omega
          · have ek : ((i : Int) == (k : Int)) = false := by simp; omega
            have ek' : decide (i = k) = false := decide_eq_false hik
            have hbd : Below wr.heap.size wr wr.drew := (Below.refl _ _).drew
            have hda := HD.out.below hbd
            have hb2 := hb.trans (hbd.mono hb.size)
            have c1 := (HOp.out.below hb2).c1
            have c2 := (HOp.out.below hb2).c2
            rw [hat] at c1
            have HW := Lib.hid (Write_ok (m1 := { m with writes := m.writes + 1 }) hda (os j).ba (os j).bn (os j).bc (os j).b i hbn (by rw [hM.n8]; exact hi8) hM.dead ((HOp.out.rb.below hb2).rd hb2.size) rfl (show m.pend.length ≤ 1000000 by have := hM.pl; omega) (spend_free hda (by rw [hM.lim]; omega) (by rw [hM.wr]; have := hM.pl; omega)))
            have HMn := Lib.hid (hM.snoc hnow i hi8 (os j).b (by rw [HOp.out.rb.1]; exact hbn))
            have HB0 := Lib.hid hb2
            have hcl : cn ≤ 100 := by have := hM.pl; have := hcn.out; omega
            clear HM HD hb hM hnow hbd hda hb2
            go_wp2_with fail
            have hT : (fun W : World => W.cell? ⟨ob, off + j * 4 + 1, none⟩ = some (.int .i64 (i : Int)) ∧ W.cell? ⟨ob, off + j * 4 + 2, none⟩ = some (.slice (os j).ba (os j).bn (os j).bc)) wr.drew := ⟨c1, c2⟩
            refine wp_region_held_drew (S := fun W => W.cell? ⟨ob, off + j * 4 + 1, none⟩ = some (.int .i64 (i : Int)) ∧ W.cell? ⟨ob, off + j * 4 + 2, none⟩ = some (.slice (os j).ba (os j).bn (os j).bc)) (by kernel_rfl) hT (fun hHeld => ?_)
            clear hHeld c1 c2
            refine wpAnyH_take (i := 0) (oi := { dst := some 66, op := Op.move (Operand.tmp 10), type := 25, pos := "law.go:99", after := #[], guard := none }) (v := ?_) rfl (by kernel_rfl) (by kernel_rfl) (by kernel_rfl) (fun _ _ _ h => h) (Or.inl ⟨by rfl, ?_⟩) (by assumption) ?_
            rotate_left
            · intro w hSw
              try dsimp only at hSw
              go_simp
              try with_reducible rfl
            try simp only [Act.put, List.setIfInBounds_toArray, List.set_cons_zero, List.set_cons_succ]
            refine wpAnyH_take (i := 1) (oi := { dst := some 67, op := Op.move (Operand.tmp 2), type := 22, pos := "law.go:99", after := #[], guard := none }) (v := ?_) rfl (by kernel_rfl) (by kernel_rfl) (by kernel_rfl) (fun _ _ _ h => h) (Or.inl ⟨by rfl, ?_⟩) (by assumption) ?_
            rotate_left
            · intro w hSw
              try dsimp only at hSw
              go_simp
              try with_reducible rfl
            try simp only [Act.put, List.setIfInBounds_toArray, List.set_cons_zero, List.set_cons_succ]
            refine wpAnyH_take (i := 2) (oi := { dst := some 68, op := Op.move (Operand.tmp 17), type := 3, pos := "law.go:99", after := #[], guard := none }) (v := ?_) rfl (by kernel_rfl) (by kernel_rfl) (by kernel_rfl) (fun _ _ _ h => h) (Or.inl ⟨by rfl, ?_⟩) (by assumption) ?_
            rotate_left
            · intro w hSw
              try dsimp only at hSw
              go_simp
              try with_reducible rfl
            try simp only [Act.put, List.setIfInBounds_toArray, List.set_cons_zero, List.set_cons_succ]
            refine wpAnyH_take (i := 3) (oi := { dst := some 69, op := Op.indexAddr 22 (Operand.tmp 67) (Operand.tmp 68), type := 0, pos := "law.go:99", after := #[{ on := 1, ground := Ground.data }, { on := 2, ground := Ground.data }], guard := none }) (v := ?_) rfl (by kernel_rfl) (by kernel_rfl) (by kernel_rfl) (fun _ _ _ h => h) (Or.inl ⟨by rfl, ?_⟩) (by assumption) ?_
            rotate_left
            · intro w hSw
              try dsimp only at hSw
              go_simp
              try with_reducible rfl
            try simp only [Act.put, List.setIfInBounds_toArray, List.set_cons_zero, List.set_cons_succ]
            refine wpAnyH_take (i := 4) (oi := { dst := some 70, op := Op.fieldAddr 35 (Operand.tmp 69) 1, type := 0, pos := "law.go:99", after := #[{ on := 3, ground := Ground.data }], guard := none }) (v := ?_) rfl (by kernel_rfl) (by kernel_rfl) (by kernel_rfl) (fun _ _ _ h => h) (Or.inl ⟨by rfl, ?_⟩) (by assumption) ?_
            rotate_left
            · intro w hSw
              try dsimp only at hSw
              go_simp
              try with_reducible rfl
            try simp only [Act.put, List.setIfInBounds_toArray, List.set_cons_zero, List.set_cons_succ]
            refine wpAnyH_take (i := 5) (oi := { dst := some 71, op := Op.load 3 (Operand.tmp 70), type := 3, pos := "law.go:99", after := #[{ on := 4, ground := Ground.data }], guard := none }) (v := ?_) rfl (by kernel_rfl) (by kernel_rfl) (by kernel_rfl) (fun _ _ _ h => h) (Or.inl ⟨by rfl, ?_⟩) (by assumption) ?_
            rotate_left
            · intro w hSw
              try dsimp only at hSw
              go_simp
              try with_reducible rfl
            try simp only [Act.put, List.setIfInBounds_toArray, List.set_cons_zero, List.set_cons_succ]
            refine wpAnyH_take (i := 6) (oi := { dst := some 72, op := Op.move (Operand.tmp 2), type := 22, pos := "law.go:99", after := #[], guard := none }) (v := ?_) rfl (by kernel_rfl) (by kernel_rfl) (by kernel_rfl) (fun _ _ _ h => h) (Or.inl ⟨by rfl, ?_⟩) (by assumption) ?_
            rotate_left
            · intro w hSw
              try dsimp only at hSw
              go_simp
              try with_reducible rfl
            try simp only [Act.put, List.setIfInBounds_toArray, List.set_cons_zero, List.set_cons_succ]
            refine wpAnyH_take (i := 7) (oi := { dst := some 73, op := Op.move (Operand.tmp 17), type := 3, pos := "law.go:99", after := #[], guard := none }) (v := ?_) rfl (by kernel_rfl) (by kernel_rfl) (by kernel_rfl) (fun _ _ _ h => h) (Or.inl ⟨by rfl, ?_⟩) (by assumption) ?_
            rotate_left
            · intro w hSw
              try dsimp only at hSw
              go_simp
              try with_reducible rfl
            try simp only [Act.put, List.setIfInBounds_toArray, List.set_cons_zero, List.set_cons_succ]
            refine wpAnyH_take (i := 8) (oi := { dst := some 74, op := Op.indexAddr 22 (Operand.tmp 72) (Operand.tmp 73), type := 0, pos := "law.go:99", after := #[{ on := 6, ground := Ground.data }, { on := 7, ground := Ground.data }], guard := none }) (v := ?_) rfl (by kernel_rfl) (by kernel_rfl) (by kernel_rfl) (fun _ _ _ h => h) (Or.inl ⟨by rfl, ?_⟩) (by assumption) ?_
            rotate_left
            · intro w hSw
              try dsimp only at hSw
              go_simp
              try with_reducible rfl
            try simp only [Act.put, List.setIfInBounds_toArray, List.set_cons_zero, List.set_cons_succ]
            refine wpAnyH_take (i := 9) (oi := { dst := some 75, op := Op.fieldAddr 35 (Operand.tmp 74) 2, type := 0, pos := "law.go:99", after := #[{ on := 8, ground := Ground.data }], guard := none }) (v := ?_) rfl (by kernel_rfl) (by kernel_rfl) (by kernel_rfl) (fun _ _ _ h => h) (Or.inl ⟨by rfl, ?_⟩) (by assumption) ?_
            rotate_left
            · intro w hSw
              try dsimp only at hSw
              go_simp
              try with_reducible rfl
            try simp only [Act.put, List.setIfInBounds_toArray, List.set_cons_zero, List.set_cons_succ]
            refine wpAnyH_take (i := 10) (oi := { dst := some 76, op := Op.load 32 (Operand.tmp 75), type := 32, pos := "law.go:99", after := #[{ on := 9, ground := Ground.data }], guard := none }) (v := ?_) rfl (by kernel_rfl) (by kernel_rfl) (by kernel_rfl) (fun _ _ _ h => h) (Or.inl ⟨by rfl, ?_⟩) (by assumption) ?_
            rotate_left
            · intro w hSw
              try dsimp only at hSw
              go_simp
              try with_reducible rfl
            try simp only [Act.put, List.setIfInBounds_toArray, List.set_cons_zero, List.set_cons_succ]
            refine wpAnyH_ready (rs := [11]) (by kernel_rfl) (by simp) ?_
            refine AllReadyH.cons (o := { dst := some 77, op := Op.call { callee := Callee.value (Operand.func 11), args := #[Operand.tmp 66, Operand.tmp 71, Operand.tmp 76], argTypes := #[25, 3, 32] }, type := 26, pos := "law.go:99", after := #[{ on := 0, ground := Ground.data }, { on := 5, ground := Ground.data }, { on := 10, ground := Ground.data }], guard := none }) rfl (fun K hK => ?_) AllReadyH.nil
            go_simp
            with_reducible refine HW.out.mono ?_
            clear HW
            rintro e w6 ⟨P6, rfl, h6, bf6, _⟩
            have HE := Lib.hid h6
            have BE := Lib.hid (HB0.out.trans (bf6.below.mono hBw))
            have c1 := (HOp.out.below BE.out).c1
            rw [hat] at c1
            have c2 := (HOp.out.below BE.out).c2
            clear h6 bf6 HB0
            have hT6 : (fun W : World => W.cell? ⟨ob, off + j * 4 + 1, none⟩ = some (.int .i64 (i : Int)) ∧ W.cell? ⟨ob, off + j * 4 + 2, none⟩ = some (.slice (os j).ba (os j).bn (os j).bc)) w6 := ⟨c1, c2⟩
            try go_wp2_with fail
            refine hK.out _ _ hT6 (fun _ => ?_)
            clear hK K
            try simp only [Act.put, List.setIfInBounds_toArray, List.set_cons_zero, List.set_cons_succ]
            clear hT
            refine wpAnyH_take (i := 12) (oi := { dst := some 78, op := Op.binOp BinOp.eql 26 (Operand.tmp 77) (Operand.const (Value.int IntKind.i64 0)) 26, type := 4, pos := "law.go:99", after := #[{ on := 11, ground := Ground.data }], guard := none }) (v := ?_) rfl (by kernel_rfl) (by kernel_rfl) (by kernel_rfl) (fun _ _ _ h => h) (Or.inl ⟨by rfl, ?_⟩) (by assumption) ?_
            rotate_left
            · intro w hSw
              try dsimp only at hSw
              go_simp
              try with_reducible rfl
            try simp only [Act.put, List.setIfInBounds_toArray, List.set_cons_zero, List.set_cons_succ]
            refine wpAnyH_done (by kernel_rfl) ?_ _
            clear hT6
            clear c2
            go_wp2
            constructor
            · exact ⟨j + 1, cn + 1, false, P6, _, rfl, by go_num, by go_num, by omega, (by show cn + 1 = (m.pend ++ [(i, pad (os j).b)]).length; rw [List.length_append, List.length_singleton, hcn.out]), (by show false = hitOf kb _ (m.pend ++ [(i, pad (os j).b)]); rw [hitOf_snoc, ← hhv.out, ek']; simp), HMn.out, (by first | exact HE.out | exact HE.out.below (below_drewN (Below.refl _ _) _)), (by first | exact BE.out | exact BE.out.trans (below_drewN (Below.refl _ _) _))⟩
            · show on - ((j : Int) + 1).toNat < on - (j : Int).toNat
              omega
      · have hbd : Below wr.heap.size wr wr.drew := (Below.refl _ _).drew
        have hda := HD.out.below hbd
        have hb2 := hb.trans (hbd.mono hb.size)
        have c1 := (HOp.out.below hb2).c1
        have c2 := (HOp.out.below hb2).c2
        have HW := Lib.hid (Write_arg hda hM.dead (os j).at_ (os j).ba (os j).bn (os j).bc (by rw [hM.n8]; omega))
        have HMn := Lib.hid hM.more
        have HB0 := Lib.hid hb2
        have HE := Lib.hid hda
        clear HM HD hb hM hnow hbd hb2 hda hgood
        go_wp2_with fail
        have hT : (fun W : World => W.cell? ⟨ob, off + j * 4 + 1, none⟩ = some (.int .i64 (os j).at_) ∧ W.cell? ⟨ob, off + j * 4 + 2, none⟩ = some (.slice (os j).ba (os j).bn (os j).bc)) wr.drew := ⟨c1, c2⟩
        refine wp_region_held_drew (S := fun W => W.cell? ⟨ob, off + j * 4 + 1, none⟩ = some (.int .i64 (os j).at_) ∧ W.cell? ⟨ob, off + j * 4 + 2, none⟩ = some (.slice (os j).ba (os j).bn (os j).bc)) (by kernel_rfl) hT (fun hHeld => ?_)
        clear hHeld c1 c2
        refine wpAnyH_take (i := 0) (oi := { dst := some 66, op := Op.move (Operand.tmp 10), type := 25, pos := "law.go:99", after := #[], guard := none }) (v := ?_) rfl (by kernel_rfl) (by kernel_rfl) (by kernel_rfl) (fun _ _ _ h => h) (Or.inl ⟨by rfl, ?_⟩) (by assumption) ?_
        rotate_left
        · intro w hSw
          try dsimp only at hSw
          go_simp
          try with_reducible rfl
        try simp only [Act.put, List.setIfInBounds_toArray, List.set_cons_zero, List.set_cons_succ]
        refine wpAnyH_take (i := 1) (oi := { dst := some 67, op := Op.move (Operand.tmp 2), type := 22, pos := "law.go:99", after := #[], guard := none }) (v := ?_) rfl (by kernel_rfl) (by kernel_rfl) (by kernel_rfl) (fun _ _ _ h => h) (Or.inl ⟨by rfl, ?_⟩) (by assumption) ?_
        rotate_left
        · intro w hSw
          try dsimp only at hSw
          go_simp
          try with_reducible rfl
        try simp only [Act.put, List.setIfInBounds_toArray, List.set_cons_zero, List.set_cons_succ]
        refine wpAnyH_take (i := 2) (oi := { dst := some 68, op := Op.move (Operand.tmp 17), type := 3, pos := "law.go:99", after := #[], guard := none }) (v := ?_) rfl (by kernel_rfl) (by kernel_rfl) (by kernel_rfl) (fun _ _ _ h => h) (Or.inl ⟨by rfl, ?_⟩) (by assumption) ?_
        rotate_left
        · intro w hSw
          try dsimp only at hSw
          go_simp
          try with_reducible rfl
        try simp only [Act.put, List.setIfInBounds_toArray, List.set_cons_zero, List.set_cons_succ]
        refine wpAnyH_take (i := 3) (oi := { dst := some 69, op := Op.indexAddr 22 (Operand.tmp 67) (Operand.tmp 68), type := 0, pos := "law.go:99", after := #[{ on := 1, ground := Ground.data }, { on := 2, ground := Ground.data }], guard := none }) (v := ?_) rfl (by kernel_rfl) (by kernel_rfl) (by kernel_rfl) (fun _ _ _ h => h) (Or.inl ⟨by rfl, ?_⟩) (by assumption) ?_
        rotate_left
        · intro w hSw
          try dsimp only at hSw
          go_simp
          try with_reducible rfl
        try simp only [Act.put, List.setIfInBounds_toArray, List.set_cons_zero, List.set_cons_succ]
        refine wpAnyH_take (i := 4) (oi := { dst := some 70, op := Op.fieldAddr 35 (Operand.tmp 69) 1, type := 0, pos := "law.go:99", after := #[{ on := 3, ground := Ground.data }], guard := none }) (v := ?_) rfl (by kernel_rfl) (by kernel_rfl) (by kernel_rfl) (fun _ _ _ h => h) (Or.inl ⟨by rfl, ?_⟩) (by assumption) ?_
        rotate_left
        · intro w hSw
          try dsimp only at hSw
          go_simp
          try with_reducible rfl
        try simp only [Act.put, List.setIfInBounds_toArray, List.set_cons_zero, List.set_cons_succ]
        refine wpAnyH_take (i := 5) (oi := { dst := some 71, op := Op.load 3 (Operand.tmp 70), type := 3, pos := "law.go:99", after := #[{ on := 4, ground := Ground.data }], guard := none }) (v := ?_) rfl (by kernel_rfl) (by kernel_rfl) (by kernel_rfl) (fun _ _ _ h => h) (Or.inl ⟨by rfl, ?_⟩) (by assumption) ?_
        rotate_left
        · intro w hSw
          try dsimp only at hSw
          go_simp
          try with_reducible rfl
        try simp only [Act.put, List.setIfInBounds_toArray, List.set_cons_zero, List.set_cons_succ]
        refine wpAnyH_take (i := 6) (oi := { dst := some 72, op := Op.move (Operand.tmp 2), type := 22, pos := "law.go:99", after := #[], guard := none }) (v := ?_) rfl (by kernel_rfl) (by kernel_rfl) (by kernel_rfl) (fun _ _ _ h => h) (Or.inl ⟨by rfl, ?_⟩) (by assumption) ?_
        rotate_left
        · intro w hSw
          try dsimp only at hSw
          go_simp
          try with_reducible rfl
        try simp only [Act.put, List.setIfInBounds_toArray, List.set_cons_zero, List.set_cons_succ]
        refine wpAnyH_take (i := 7) (oi := { dst := some 73, op := Op.move (Operand.tmp 17), type := 3, pos := "law.go:99", after := #[], guard := none }) (v := ?_) rfl (by kernel_rfl) (by kernel_rfl) (by kernel_rfl) (fun _ _ _ h => h) (Or.inl ⟨by rfl, ?_⟩) (by assumption) ?_
        rotate_left
        · intro w hSw
          try dsimp only at hSw
          go_simp
          try with_reducible rfl
        try simp only [Act.put, List.setIfInBounds_toArray, List.set_cons_zero, List.set_cons_succ]
        refine wpAnyH_take (i := 8) (oi := { dst := some 74, op := Op.indexAddr 22 (Operand.tmp 72) (Operand.tmp 73), type := 0, pos := "law.go:99", after := #[{ on := 6, ground := Ground.data }, { on := 7, ground := Ground.data }], guard := none }) (v := ?_) rfl (by kernel_rfl) (by kernel_rfl) (by kernel_rfl) (fun _ _ _ h => h) (Or.inl ⟨by rfl, ?_⟩) (by assumption) ?_
        rotate_left
        · intro w hSw
          try dsimp only at hSw
          go_simp
          try with_reducible rfl
        try simp only [Act.put, List.setIfInBounds_toArray, List.set_cons_zero, List.set_cons_succ]
        refine wpAnyH_take (i := 9) (oi := { dst := some 75, op := Op.fieldAddr 35 (Operand.tmp 74) 2, type := 0, pos := "law.go:99", after := #[{ on := 8, ground := Ground.data }], guard := none }) (v := ?_) rfl (by kernel_rfl) (by kernel_rfl) (by kernel_rfl) (fun _ _ _ h => h) (Or.inl ⟨by rfl, ?_⟩) (by assumption) ?_
        rotate_left
        · intro w hSw
          try dsimp only at hSw
          go_simp
          try with_reducible rfl
        try simp only [Act.put, List.setIfInBounds_toArray, List.set_cons_zero, List.set_cons_succ]
        refine wpAnyH_take (i := 10) (oi := { dst := some 76, op := Op.load 32 (Operand.tmp 75), type := 32, pos := "law.go:99", after := #[{ on := 9, ground := Ground.data }], guard := none }) (v := ?_) rfl (by kernel_rfl) (by kernel_rfl) (by kernel_rfl) (fun _ _ _ h => h) (Or.inl ⟨by rfl, ?_⟩) (by assumption) ?_
        rotate_left
        · intro w hSw
          try dsimp only at hSw
          go_simp
          try with_reducible rfl
        try simp only [Act.put, List.setIfInBounds_toArray, List.set_cons_zero, List.set_cons_succ]
        refine wpAnyH_ready (rs := [11]) (by kernel_rfl) (by simp) ?_
        refine AllReadyH.cons (o := { dst := some 77, op := Op.call { callee := Callee.value (Operand.func 11), args := #[Operand.tmp 66, Operand.tmp 71, Operand.tmp 76], argTypes := #[25, 3, 32] }, type := 26, pos := "law.go:99", after := #[{ on := 0, ground := Ground.data }, { on := 5, ground := Ground.data }, { on := 10, ground := Ground.data }], guard := none }) rfl (fun K hK => ?_) AllReadyH.nil
        go_simp
        with_reducible refine HW.out.mono ?_
        clear HW
        rintro e w6 ⟨rfl, hw6⟩
        subst hw6
        have c1 := (HOp.out.below HB0.out).c1
        have c2 := (HOp.out.below HB0.out).c2
        have hT6 : (fun W : World => W.cell? ⟨ob, off + j * 4 + 1, none⟩ = some (.int .i64 (os j).at_) ∧ W.cell? ⟨ob, off + j * 4 + 2, none⟩ = some (.slice (os j).ba (os j).bn (os j).bc)) wr.drew := ⟨c1, c2⟩
        try go_wp2_with fail
        refine hK.out _ _ hT6 (fun _ => ?_)
        clear hK K
        try simp only [Act.put, List.setIfInBounds_toArray, List.set_cons_zero, List.set_cons_succ]
        clear hT
        refine wpAnyH_take (i := 12) (oi := { dst := some 78, op := Op.binOp BinOp.eql 26 (Operand.tmp 77) (Operand.const (Value.int IntKind.i64 0)) 26, type := 4, pos := "law.go:99", after := #[{ on := 11, ground := Ground.data }], guard := none }) (v := ?_) rfl (by kernel_rfl) (by kernel_rfl) (by kernel_rfl) (fun _ _ _ h => h) (Or.inl ⟨by rfl, ?_⟩) (by assumption) ?_
        rotate_left
        · intro w hSw
          try dsimp only at hSw
          go_simp
          try with_reducible rfl
        try simp only [Act.put, List.setIfInBounds_toArray, List.set_cons_zero, List.set_cons_succ]
        refine wpAnyH_done (by kernel_rfl) ?_ _
        clear hT6
        go_wp2
        constructor
        · exact ⟨j + 1, cn, hv, P, m, rfl, rfl, by go_num, by omega, hcn, hhv, HMn.out, HE.out, HB0.out⟩
        · show on - ((j : Int) + 1).toNat < on - (j : Int).toNat
          omega
    · have dj : decide ((j : Int) < (on : Int)) = false := decide_eq_false (by omega)
      have hon := HSm.out.1
      have hpl := hM.pl
      have hf : Fit m.pend := fun x hx => by have := HD.out.pw x hx; rw [hM.n8] at this; exact this
      have hll : l.length ≤ 64 := by rw [HL.out.1]; exact hn
      have HSec : Hid (hitOf kb k m.pend = false → secOf (reopened kb m).now k = pad l) := fun hh => hM.kept hk8 hll kb hnow hf hh
      have hLm := Limit_any HD.out 0 (by omega) (by omega)
      rw [show max (0 : Int) (-1) = 0 from rfl] at hLm
      have HLm := Lib.hid hLm
      have HB0 := Lib.hid hb
      have hMd := hM.dead
      have hMn := hM.n8
      clear hLm HM hM hb HD hnow hf
      go_wp2_with fail
      with_reducible refine HLm.out.mono ?_
      clear HLm
      rintro e wa ⟨rfl, ha, hba, _⟩
      have hW := Write_stop ha hMd rfl 0 none 0 0 (by show 0 < m.n; omega) (by omega)
      rw [show ((0 : Nat) : Int) = 0 from rfl] at hW
      have HW := Lib.hid hW
      have HBa := Lib.hid (HB0.out.trans (hba.mono hBw))
      clear hW ha hba HB0
      go_wp2_with fail
      with_reducible refine HW.out.mono ?_
      clear HW
      rintro e wb ⟨rfl, hb, hbb⟩
      have bwb := HBa.out.trans (hbb.mono hBw)
      have HRd := Lib.hid (Read_dead hb rfl (k : Int))
      have hKb : Kb w0.heap.size wb q kn kb := by
        have h0 := HK.out.below bwb
        refine ⟨h0.1, fun h => ?_⟩
        obtain ⟨b0, o0, h1, h2, h3⟩ := h0.2 h
        exact ⟨b0, o0, h1, Nat.lt_of_lt_of_le h2 hBw, h3⟩
      have HRo := Lib.hid (Reopen_any hb q kn kc kb hKb (by omega) (by show m.pend.length ≤ 1000000; omega))
      have HBb := Lib.hid bwb
      clear hb hbb bwb hKb HBa
      go_wp2_with fail
      with_reducible refine HRd.out.mono ?_
      clear HRd
      rintro e wb' ⟨rfl, rfl⟩
      go_wp2_with fail
      with_reducible refine HRo.out.mono ?_
      clear HRo
      rintro e wc ⟨rfl, hc, bfc⟩
      have HBc := Lib.hid (HBb.out.trans (bfc.below.mono hBw))
      have HR := Lib.hid (Read_ok hc rfl k (by show k < m.n; omega))
      clear hc bfc HBb
      go_wp2_with fail
      with_reducible refine HR.out.mono ?_
      clear HR
      rintro e wd ⟨G, rfl, hG, hxG, _, hbd⟩
      have HBd := Lib.hid (HBc.out.trans (hbd.mono HBc.out.size))
      cases hv with
      | true =>
        clear hxG hbd HBc
        go_wp2_with fail
        go_quiet (fail)
        go_wp2
        go_ret
        exact ⟨rfl, HBd.out.trans (below_drewN (Below.refl _ _) _)⟩
      | false =>
        have hs := HSec.out hhv.out.symm
        have hx2 : wd.heap[G]? = some (.cells (bcells (pad l)).toArray 5 (0, 0)) := by rw [← hs]; exact hxG
        have hR1 : Rd wd (some ⟨G, 0, none⟩) n l := ⟨HL.out.1, fun _ => ⟨G, 0, rfl, (Array.getElem?_eq_some_iff.1 hx2).1, fun x hx => by
          have hxl : x < l.length := by rw [HL.out.1]; exact hx
          rw [cell_of_row _ _ _ _ _ _ hx2, List.getElem?_toArray, Nat.zero_add, bcells_at _ _ (by rw [pad_length hll]; omega)]
          unfold pad
          rw [List.getD_eq_getElem?_getD, List.getD_eq_getElem?_getD, List.getElem?_append_left hxl]⟩⟩
        have hR2 := HL.out.below HBd.out
        have V1 : ∀ x, (convert 32 9 (.slice (some ⟨G, 0, none⟩) n 64)).run Try.prog (wd.drewN x) = .ok (.string (strOf l)) (wd.drewN x) := fun x => conv_rd (hR1.below (below_drewN (Below.refl _ _) _))
        have V2 : ∀ x, (convert 32 9 (.slice p n c)).run Try.prog (wd.drewN x) = .ok (.string (strOf l)) (wd.drewN x) := fun x => conv_rd (hR2.below (below_drewN (Below.refl _ _) _))
        have hn64 : (n : Int) ≤ 64 := by omega
        generalize strOf l = s at V1 V2
        clear hxG hbd HBc hx2 hR1 hR2 hs
        go_wp2_with fail
        go_quiet (fail)
        go_wp2
        go_ret
        exact ⟨rfl, HBd.out.trans (below_drewN (Below.refl _ _) _)⟩
end Go.Proofs.Ytmnfaoihmcofiaa.dk
