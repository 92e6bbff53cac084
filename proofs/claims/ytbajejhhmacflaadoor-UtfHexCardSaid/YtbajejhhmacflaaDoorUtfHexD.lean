/- UtfHex: walks. -/
import Derived.Test.YtbajejhhmacflaaDoorUtfHexE
namespace Go.Proofs.YtbajejhhmacflaaDoor.utf
open Go.PlainAid Go.ChangeShapes Go.WideShapes Go.ChangeAt Go.RowKit

set_option maxHeartbeats 16000000 in
theorem hex_hi_true (r : Int) (p : Option Addr) (n c : Nat) (w : World) (more : List Int) (hO : Oct more) (hB : Bs w (.slice p n c) more) (hF : Forms w) (hn : n ≤ 200) (hp : p = none → n = 0 ∧ c = 0) (h0 : 57344 ≤ r) (h1 : r ≤ 65535) :
    Calls Tryd.prog 9 #[.int .i32 r, .bool true, .slice p n c] w fun e w' => e = .returned (.bool true) ∧ Below w.heap.size w w' := by
  have H := Lib.hid (awake_any w hF)
  have HF := Lib.hid hF
  have HB := Lib.hid hB
  have HO := Lib.hid hO
  have HPn := Lib.hid hp
  have HLN := Lib.hid (show more.length = n from by
    rcases hB with ⟨_, _, hv, rfl⟩ | ⟨_, _, _, hv, _⟩
    · injection hv with _ h; exact h.symm
    · injection hv with _ h; exact h.symm)
  have d1 : decide (55296 ≤ r) = true := decide_eq_true (by omega)
  have d2 : decide (r < 57344) = false := decide_eq_false (by omega)
  clear hF hB hO hp
  go_enter Tryd.func9, Tryd.ntmps9
  go_wp2_with (go_at_call 11; refine H.out.mono ?_; rintro e w1 ⟨rfl, hB1⟩)
  have z1 := hB1.size
  have hBA : Below w.heap.size w (w1.alloc (.cells #[.int .i64 r] 3)) := hB1.alloc z1 _
  have zA := hBA.size
  have HBA := Lib.hid hBA
  clear hB1 hBA
  go_wp2
  go_loopw [10, 11] (fun v i wr => ∃ k : Nat, i = .int .i64 k ∧ k ≤ 1 ∧ HexR w.heap.size (w1.alloc (.cells #[.int .i64 r] 3)) (ub true r) [] k v wr) (fun _ i _ => 2 - (intOf i).toNat)
  case atStart => exact ⟨0, rfl, by decide, .inl ⟨rfl, rfl, rfl⟩⟩
  case round =>
    obtain ⟨k, rfl, hk, hR⟩ := hrel
    rcases hR with ⟨rfl, rfl, rfl⟩ | ⟨rfl, g1, cap1, rfl, ho3, hb3⟩ | ⟨rfl, _⟩
    · clear hk
      have z5 : w.heap.size ≤ ((w1.alloc (.cells #[.int .i64 r] 3)).alloc (.cells #[.int .u8 117, .int .u8 (hx true ((r) / 4096 % 16)), .int .u8 (hx true ((r) / 256 % 16)), .int .u8 (hx true ((r) / 16 % 16)), .int .u8 (hx true ((r) % 16))] 5)).drew.heap.size := by simp; omega
      have h55 : 0 < 5 := by decide
      have h5m : 5 ≤ 140737488355328 := by decide
      have hB5 : Below w.heap.size (w1.alloc (.cells #[.int .i64 r] 3)) ((w1.alloc (.cells #[.int .i64 r] 3)).alloc (.cells #[.int .u8 117, .int .u8 (hx true ((r) / 4096 % 16)), .int .u8 (hx true ((r) / 256 % 16)), .int .u8 (hx true ((r) / 16 % 16)), .int .u8 (hx true ((r) % 16))] 5)).drew := ((Below.refl _ _).alloc zA _).drew
      have HB5 := Lib.hid hB5
      clear hB5
      go_wp2
      have i0a := byte_true ((r) / 4096 % 16) (by omega) (by omega) (by show _ < 16; omega)
      have l0a : 0 ≤ (r) / 4096 % 16 := by omega
      have u0a : (r) / 4096 % 16 < 16 := by omega
      have i0b := byte_true ((r) / 256 % 16) (by omega) (by omega) (by show _ < 16; omega)
      have l0b : 0 ≤ (r) / 256 % 16 := by omega
      have u0b : (r) / 256 % 16 < 16 := by omega
      have i0c := byte_true ((r) / 16 % 16) (by omega) (by omega) (by show _ < 16; omega)
      have l0c : 0 ≤ (r) / 16 % 16 := by omega
      have u0c : (r) / 16 % 16 < 16 := by omega
      have i0d := byte_true ((r) % 16) (by omega) (by omega) (by show _ < 16; omega)
      have l0d : 0 ≤ (r) % 16 := by omega
      have u0d : (r) % 16 < 16 := by omega
      have t0a : IntKind.i64.wrap ((r).tdiv 4096) = (r) / 4096 := by rw [Int.tdiv_eq_ediv_of_nonneg (by omega)]; exact IntWalk.i64_in _ (by omega)
      have m0a : ((r) / 4096).tmod 16 = (r) / 4096 % 16 := Int.tmod_eq_emod_of_nonneg (by omega)
      have t0b : IntKind.i64.wrap ((r).tdiv 256) = (r) / 256 := by rw [Int.tdiv_eq_ediv_of_nonneg (by omega)]; exact IntWalk.i64_in _ (by omega)
      have m0b : ((r) / 256).tmod 16 = (r) / 256 % 16 := Int.tmod_eq_emod_of_nonneg (by omega)
      have t0c : IntKind.i64.wrap ((r).tdiv 16) = (r) / 16 := by rw [Int.tdiv_eq_ediv_of_nonneg (by omega)]; exact IntWalk.i64_in _ (by omega)
      have m0c : ((r) / 16).tmod 16 = (r) / 16 % 16 := Int.tmod_eq_emod_of_nonneg (by omega)
      have m0d : (r).tmod 16 = (r) % 16 := Int.tmod_eq_emod_of_nonneg (by omega)
      have hBl : Bs ((w1.alloc (.cells #[.int .i64 r] 3)).alloc (.cells #[.int .u8 117, .int .u8 (hx true ((r) / 4096 % 16)), .int .u8 (hx true ((r) / 256 % 16)), .int .u8 (hx true ((r) / 16 % 16)), .int .u8 (hx true ((r) % 16))] 5)).drew (.slice (some ⟨w1.heap.size + 1, 0, none⟩) 5 5) (ub true r) := by
        have := Bs_lit (w1.alloc (.cells #[.int .i64 r] 3)) (ub true r) (by show 0 < 5; decide)
        rw [World.size_alloc] at this
        exact drew_Bs this
      have HBL := Lib.hid hBl
      clear hBl
      refine wp_region_held_drew (S := fun _ => True) (by kernel_rfl) trivial (fun hHeld => ?_)
      refine wpAnyH_take (i := 0) (oi := { dst := some 69, op := Op.move (Operand.tmp 10), type := 22, pos := "more.go:40", after := #[], guard := none }) (v := ?_) rfl (by kernel_rfl) (by kernel_rfl) (by kernel_rfl) (fun _ _ _ h => h) (Or.inl ⟨by rfl, ?_⟩) (by assumption) ?_
      rotate_left
      · intro w hSw
        try dsimp only at hSw
        go_simp
        try with_reducible rfl
      try simp only [Act.put, List.setIfInBounds_toArray, List.set_cons_zero, List.set_cons_succ]
      refine wpAnyH_take (i := 1) (oi := { dst := some 70, op := Op.move (Operand.tmp 8), type := 9, pos := "more.go:40", after := #[], guard := none }) (v := ?_) rfl (by kernel_rfl) (by kernel_rfl) (by kernel_rfl) (fun _ _ _ h => h) (Or.inl ⟨by rfl, ?_⟩) (by assumption) ?_
      rotate_left
      · intro w hSw
        try dsimp only at hSw
        go_simp
        try with_reducible rfl
      try simp only [Act.put, List.setIfInBounds_toArray, List.set_cons_zero, List.set_cons_succ]
      refine wpAnyH_take (i := 2) (oi := { dst := some 71, op := Op.move (Operand.tmp 12), type := 3, pos := "more.go:40", after := #[], guard := none }) (v := ?_) rfl (by kernel_rfl) (by kernel_rfl) (by kernel_rfl) (fun _ _ _ h => h) (Or.inl ⟨by rfl, ?_⟩) (by assumption) ?_
      rotate_left
      · intro w hSw
        try dsimp only at hSw
        go_simp
        try with_reducible rfl
      try simp only [Act.put, List.setIfInBounds_toArray, List.set_cons_zero, List.set_cons_succ]
      refine wpAnyH_take (i := 3) (oi := { dst := some 72, op := Op.binOp BinOp.quo 3 (Operand.tmp 71) (Operand.const (Value.int IntKind.i64 4096)) 3, type := 3, pos := "more.go:40", after := #[{ on := 2, ground := Ground.data }], guard := none }) (v := ?_) rfl (by kernel_rfl) (by kernel_rfl) (by kernel_rfl) (fun _ _ _ h => h) (Or.inl ⟨by rfl, ?_⟩) (by assumption) ?_
      rotate_left
      · intro w hSw
        try dsimp only at hSw
        go_simp
        try with_reducible rfl
      try simp only [Act.put, List.setIfInBounds_toArray, List.set_cons_zero, List.set_cons_succ]
      refine wpAnyH_take (i := 4) (oi := { dst := some 73, op := Op.binOp BinOp.rem 3 (Operand.tmp 72) (Operand.const (Value.int IntKind.i64 16)) 3, type := 3, pos := "more.go:40", after := #[{ on := 3, ground := Ground.data }], guard := none }) (v := ?_) rfl (by kernel_rfl) (by kernel_rfl) (by kernel_rfl) (fun _ _ _ h => h) (Or.inl ⟨by rfl, ?_⟩) (by assumption) ?_
      rotate_left
      · intro w hSw
        try dsimp only at hSw
        go_simp
        try with_reducible rfl
      try simp only [Act.put, List.setIfInBounds_toArray, List.set_cons_zero, List.set_cons_succ]
      refine wpAnyH_take (i := 5) (oi := { dst := some 74, op := Op.index 9 (Operand.tmp 70) (Operand.tmp 73), type := 5, pos := "more.go:40", after := #[{ on := 1, ground := Ground.data }, { on := 4, ground := Ground.data }], guard := none }) (v := ?_) rfl (by kernel_rfl) (by kernel_rfl) (by kernel_rfl) (fun _ _ _ h => h) (Or.inl ⟨by rfl, ?_⟩) (by assumption) ?_
      rotate_left
      · intro w hSw
        try dsimp only at hSw
        go_simp
        try with_reducible rfl
      try simp only [Act.put, List.setIfInBounds_toArray, List.set_cons_zero, List.set_cons_succ]
      refine wpAnyH_take (i := 6) (oi := { dst := some 75, op := Op.move (Operand.tmp 8), type := 9, pos := "more.go:40", after := #[], guard := none }) (v := ?_) rfl (by kernel_rfl) (by kernel_rfl) (by kernel_rfl) (fun _ _ _ h => h) (Or.inl ⟨by rfl, ?_⟩) (by assumption) ?_
      rotate_left
      · intro w hSw
        try dsimp only at hSw
        go_simp
        try with_reducible rfl
      try simp only [Act.put, List.setIfInBounds_toArray, List.set_cons_zero, List.set_cons_succ]
      refine wpAnyH_take (i := 7) (oi := { dst := some 76, op := Op.move (Operand.tmp 12), type := 3, pos := "more.go:40", after := #[], guard := none }) (v := ?_) rfl (by kernel_rfl) (by kernel_rfl) (by kernel_rfl) (fun _ _ _ h => h) (Or.inl ⟨by rfl, ?_⟩) (by assumption) ?_
      rotate_left
      · intro w hSw
        try dsimp only at hSw
        go_simp
        try with_reducible rfl
      try simp only [Act.put, List.setIfInBounds_toArray, List.set_cons_zero, List.set_cons_succ]
      refine wpAnyH_take (i := 8) (oi := { dst := some 77, op := Op.binOp BinOp.quo 3 (Operand.tmp 76) (Operand.const (Value.int IntKind.i64 256)) 3, type := 3, pos := "more.go:40", after := #[{ on := 7, ground := Ground.data }], guard := none }) (v := ?_) rfl (by kernel_rfl) (by kernel_rfl) (by kernel_rfl) (fun _ _ _ h => h) (Or.inl ⟨by rfl, ?_⟩) (by assumption) ?_
      rotate_left
      · intro w hSw
        try dsimp only at hSw
        go_simp
        try with_reducible rfl
      try simp only [Act.put, List.setIfInBounds_toArray, List.set_cons_zero, List.set_cons_succ]
      refine wpAnyH_take (i := 9) (oi := { dst := some 78, op := Op.binOp BinOp.rem 3 (Operand.tmp 77) (Operand.const (Value.int IntKind.i64 16)) 3, type := 3, pos := "more.go:40", after := #[{ on := 8, ground := Ground.data }], guard := none }) (v := ?_) rfl (by kernel_rfl) (by kernel_rfl) (by kernel_rfl) (fun _ _ _ h => h) (Or.inl ⟨by rfl, ?_⟩) (by assumption) ?_
      rotate_left
      · intro w hSw
        try dsimp only at hSw
        go_simp
        try with_reducible rfl
      try simp only [Act.put, List.setIfInBounds_toArray, List.set_cons_zero, List.set_cons_succ]
      refine wpAnyH_take (i := 10) (oi := { dst := some 79, op := Op.index 9 (Operand.tmp 75) (Operand.tmp 78), type := 5, pos := "more.go:40", after := #[{ on := 6, ground := Ground.data }, { on := 9, ground := Ground.data }], guard := none }) (v := ?_) rfl (by kernel_rfl) (by kernel_rfl) (by kernel_rfl) (fun _ _ _ h => h) (Or.inl ⟨by rfl, ?_⟩) (by assumption) ?_
      rotate_left
      · intro w hSw
        try dsimp only at hSw
        go_simp
        try with_reducible rfl
      try simp only [Act.put, List.setIfInBounds_toArray, List.set_cons_zero, List.set_cons_succ]
      refine wpAnyH_take (i := 11) (oi := { dst := some 80, op := Op.move (Operand.tmp 8), type := 9, pos := "more.go:40", after := #[], guard := none }) (v := ?_) rfl (by kernel_rfl) (by kernel_rfl) (by kernel_rfl) (fun _ _ _ h => h) (Or.inl ⟨by rfl, ?_⟩) (by assumption) ?_
      rotate_left
      · intro w hSw
        try dsimp only at hSw
        go_simp
        try with_reducible rfl
      try simp only [Act.put, List.setIfInBounds_toArray, List.set_cons_zero, List.set_cons_succ]
      refine wpAnyH_take (i := 12) (oi := { dst := some 81, op := Op.move (Operand.tmp 12), type := 3, pos := "more.go:40", after := #[], guard := none }) (v := ?_) rfl (by kernel_rfl) (by kernel_rfl) (by kernel_rfl) (fun _ _ _ h => h) (Or.inl ⟨by rfl, ?_⟩) (by assumption) ?_
      rotate_left
      · intro w hSw
        try dsimp only at hSw
        go_simp
        try with_reducible rfl
      try simp only [Act.put, List.setIfInBounds_toArray, List.set_cons_zero, List.set_cons_succ]
      refine wpAnyH_take (i := 13) (oi := { dst := some 82, op := Op.binOp BinOp.quo 3 (Operand.tmp 81) (Operand.const (Value.int IntKind.i64 16)) 3, type := 3, pos := "more.go:40", after := #[{ on := 12, ground := Ground.data }], guard := none }) (v := ?_) rfl (by kernel_rfl) (by kernel_rfl) (by kernel_rfl) (fun _ _ _ h => h) (Or.inl ⟨by rfl, ?_⟩) (by assumption) ?_
      rotate_left
      · intro w hSw
        try dsimp only at hSw
        go_simp
        try with_reducible rfl
      try simp only [Act.put, List.setIfInBounds_toArray, List.set_cons_zero, List.set_cons_succ]
      refine wpAnyH_take (i := 14) (oi := { dst := some 83, op := Op.binOp BinOp.rem 3 (Operand.tmp 82) (Operand.const (Value.int IntKind.i64 16)) 3, type := 3, pos := "more.go:40", after := #[{ on := 13, ground := Ground.data }], guard := none }) (v := ?_) rfl (by kernel_rfl) (by kernel_rfl) (by kernel_rfl) (fun _ _ _ h => h) (Or.inl ⟨by rfl, ?_⟩) (by assumption) ?_
      rotate_left
      · intro w hSw
        try dsimp only at hSw
        go_simp
        try with_reducible rfl
      try simp only [Act.put, List.setIfInBounds_toArray, List.set_cons_zero, List.set_cons_succ]
      refine wpAnyH_take (i := 15) (oi := { dst := some 84, op := Op.index 9 (Operand.tmp 80) (Operand.tmp 83), type := 5, pos := "more.go:40", after := #[{ on := 11, ground := Ground.data }, { on := 14, ground := Ground.data }], guard := none }) (v := ?_) rfl (by kernel_rfl) (by kernel_rfl) (by kernel_rfl) (fun _ _ _ h => h) (Or.inl ⟨by rfl, ?_⟩) (by assumption) ?_
      rotate_left
      · intro w hSw
        try dsimp only at hSw
        go_simp
        try with_reducible rfl
      try simp only [Act.put, List.setIfInBounds_toArray, List.set_cons_zero, List.set_cons_succ]
      refine wpAnyH_take (i := 16) (oi := { dst := some 85, op := Op.move (Operand.tmp 8), type := 9, pos := "more.go:40", after := #[], guard := none }) (v := ?_) rfl (by kernel_rfl) (by kernel_rfl) (by kernel_rfl) (fun _ _ _ h => h) (Or.inl ⟨by rfl, ?_⟩) (by assumption) ?_
      rotate_left
      · intro w hSw
        try dsimp only at hSw
        go_simp
        try with_reducible rfl
      try simp only [Act.put, List.setIfInBounds_toArray, List.set_cons_zero, List.set_cons_succ]
      refine wpAnyH_take (i := 17) (oi := { dst := some 86, op := Op.move (Operand.tmp 12), type := 3, pos := "more.go:40", after := #[], guard := none }) (v := ?_) rfl (by kernel_rfl) (by kernel_rfl) (by kernel_rfl) (fun _ _ _ h => h) (Or.inl ⟨by rfl, ?_⟩) (by assumption) ?_
      rotate_left
      · intro w hSw
        try dsimp only at hSw
        go_simp
        try with_reducible rfl
      try simp only [Act.put, List.setIfInBounds_toArray, List.set_cons_zero, List.set_cons_succ]
      refine wpAnyH_take (i := 18) (oi := { dst := some 87, op := Op.binOp BinOp.rem 3 (Operand.tmp 86) (Operand.const (Value.int IntKind.i64 16)) 3, type := 3, pos := "more.go:40", after := #[{ on := 17, ground := Ground.data }], guard := none }) (v := ?_) rfl (by kernel_rfl) (by kernel_rfl) (by kernel_rfl) (fun _ _ _ h => h) (Or.inl ⟨by rfl, ?_⟩) (by assumption) ?_
      rotate_left
      · intro w hSw
        try dsimp only at hSw
        go_simp
        try with_reducible rfl
      try simp only [Act.put, List.setIfInBounds_toArray, List.set_cons_zero, List.set_cons_succ]
      refine wpAnyH_take (i := 19) (oi := { dst := some 88, op := Op.index 9 (Operand.tmp 85) (Operand.tmp 87), type := 5, pos := "more.go:40", after := #[{ on := 16, ground := Ground.data }, { on := 18, ground := Ground.data }], guard := none }) (v := ?_) rfl (by kernel_rfl) (by kernel_rfl) (by kernel_rfl) (fun _ _ _ h => h) (Or.inl ⟨by rfl, ?_⟩) (by assumption) ?_
      rotate_left
      · intro w hSw
        try dsimp only at hSw
        go_simp
        try with_reducible rfl
      try simp only [Act.put, List.setIfInBounds_toArray, List.set_cons_zero, List.set_cons_succ]
      refine wpAnyH_ready (rs := [20]) (by kernel_rfl) (by simp) ?_
      refine AllReadyH.cons (o := { dst := some 89, op := Op.buildSlice 22 5 #[(0, Operand.const (Value.int IntKind.u8 117)), (1, Operand.tmp 74), (2, Operand.tmp 79), (3, Operand.tmp 84), (4, Operand.tmp 88)], type := 22, pos := "more.go:40", after := #[{ on := 5, ground := Ground.data }, { on := 10, ground := Ground.data }, { on := 15, ground := Ground.data }, { on := 19, ground := Ground.data }], guard := none }) rfl (fun K hK => ?_) AllReadyH.nil
      go_simp
      refine hK.out _ _ trivial (fun _ => ?_)
      clear hK K
      try simp only [Act.put, List.setIfInBounds_toArray, List.set_cons_zero, List.set_cons_succ]
      refine wpAnyH_ready (rs := [21]) (by kernel_rfl) (by simp) ?_
      refine AllReadyH.cons (o := { dst := some 90, op := Op.call { callee := Callee.builtin Builtin.append, args := #[Operand.tmp 69, Operand.tmp 89], argTypes := #[22, 22] }, type := 22, pos := "more.go:40", after := #[{ on := 0, ground := Ground.data }, { on := 20, ground := Ground.data }], guard := none }) rfl (fun K hK => ?_) AllReadyH.nil
      refine step_append_nil_bs rfl _ _ rfl w.heap.size rfl ⟨w1.heap.size + 1, 0, none⟩ 5 5 (ub true r) rfl HBL.out h55 h5m z5 ?_
      intro g1 cap1 w3 ho3 hb3
      refine hK.out _ _ trivial (fun _ => ?_)
      clear hK K
      try simp only [Act.put, List.setIfInBounds_toArray, List.set_cons_zero, List.set_cons_succ]
      refine wpAnyH_take (i := 22) (oi := { dst := some 10, op := Op.assign (Operand.tmp 90), type := 22, pos := "more.go:40", after := #[{ on := 21, ground := Ground.data }, { on := 21, ground := Ground.chain }, { on := 0, ground := Ground.phase }, { on := 1, ground := Ground.phase }, { on := 2, ground := Ground.phase }, { on := 3, ground := Ground.phase }, { on := 4, ground := Ground.phase }, { on := 5, ground := Ground.phase }, { on := 6, ground := Ground.phase }, { on := 7, ground := Ground.phase }, { on := 8, ground := Ground.phase }, { on := 9, ground := Ground.phase }, { on := 10, ground := Ground.phase }, { on := 11, ground := Ground.phase }, { on := 12, ground := Ground.phase }, { on := 13, ground := Ground.phase }, { on := 14, ground := Ground.phase }, { on := 15, ground := Ground.phase }, { on := 16, ground := Ground.phase }, { on := 17, ground := Ground.phase }, { on := 18, ground := Ground.phase }, { on := 19, ground := Ground.phase }, { on := 20, ground := Ground.phase }, { on := 21, ground := Ground.phase }], guard := none }) (v := ?_) rfl (by kernel_rfl) (by kernel_rfl) (by kernel_rfl) (fun _ _ _ h => h) (Or.inl ⟨by rfl, ?_⟩) (by assumption) ?_
      rotate_left
      · intro w hSw
        try dsimp only at hSw
        go_simp
        try with_reducible rfl
      try simp only [Act.put, List.setIfInBounds_toArray, List.set_cons_zero, List.set_cons_succ]
      refine wpAnyH_done (by kernel_rfl) ?_ _
      all_goals (go_wp2; exact ⟨⟨1, rfl, by decide, .inr (.inl ⟨rfl, g1, cap1, rfl, ho3, HB5.out.trans hb3⟩)⟩, by decide⟩)
    · have hB3 := HBA.out.trans hb3
      have z3 := hB3.size
      have s3 := HB.out.below hB3
      clear hb3 HBA hk
      go_wp2_with (at_builtin; refine wpList_append_bs rfl _ _ rfl w.heap.size _ 5 _ (ub true r) rfl ho3 p n c more rfl HPn.out s3 ?_ z3 ?_)
      · omega
      intro g2 cap2 w4 ho4 hb4
      have hB4 := hB3.trans hb4
      have hv := Bs_own' ho4
      have hl : (ub true r ++ more).length ≤ 140737488351232 := by rw [List.length_append, HLN.out]; show 5 + n ≤ _; omega
      have hf := hv.first (by omega)
      have HE := Lib.hid (Escape_u g2 0 (5 + n) cap2 r 5 w4 (by omega) (by omega) hf (escapeNumber_one _ _ w4 (oct_append (ub_oct _ _) HO.out) hl hv r (dig_ub true r (by omega) (by omega) more) (by omega)))
      clear hl hf hv ho4 ho3 hb4 s3 hB3
      go_wp2_with (go_at_call 14; refine HE.out.mono ?_; rintro e w5 ⟨rfl, rfl⟩)
      go_ret
      exact ⟨rfl, hB4⟩
    · omega

end Go.Proofs.YtbajejhhmacflaaDoor.utf
