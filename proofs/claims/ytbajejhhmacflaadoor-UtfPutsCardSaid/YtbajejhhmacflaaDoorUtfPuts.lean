/- For all bytes, numbers and texts UtfPuts answers true. -/
import Derived.Test.YtbajejhhmacflaaDoorUtfPB
import Derived.Test.YtbajejhhmacflaaDoorUtfMC
import Derived.Test.YtbajejhhmacflaaDoorUtfFirst
namespace Go.Proofs.YtbajejhhmacflaaDoor.utf
open Go.PlainAid Go.ChangeShapes Go.WideShapes Go.ChangeAt Go.RowKit

set_option maxHeartbeats 2000000 in
theorem puts_great (p : Option Addr) (n c : Nat) (r : Int) (s t : ByteArray) (w : World) (hF : Forms w) (hn : n ≤ 140737488351232) (hs : s.size ≤ 140737488351232) (ht : t.size ≤ 140737488351232) (hbig : 1000 < n + s.size + t.size) :
    Calls Tryd.prog 4 #[.slice p n c, .int .i32 r, .string s, .string t] w fun e w' => e = .returned (.bool true) ∧ Below w.heap.size w w' := by
  have H := Lib.hid (awake_any w hF)
  clear hF
  go_enter Tryd.func4, Tryd.ntmps4
  go_wp2_with (go_at_call 11; refine H.out.mono ?_; rintro e w1 ⟨rfl, hb1⟩)
  go_ret
  exact ⟨rfl, hb1⟩

/-- A call that returns one value in every later world, and turns nothing. -/
def Ret' (f : FuncId) (args : Array Value) (v : Value) (w : World) : Prop := ∀ W, Below w.heap.size w W → Calls Tryd.prog f args W fun e w' => e = .returned v ∧ Below W.heap.size W w'
/-- A call that lays new bytes, in every later world. -/
def Lays' (f : FuncId) (args : Array Value) (m : Nat) (l : List Int) (w : World) : Prop := ∀ W, Below w.heap.size w W → Calls Tryd.prog f args W fun e w' => ∃ q cap, e = .returned (.slice (some q) m cap) ∧ Below W.heap.size W w' ∧ Bs w' (.slice (some q) m cap) l

set_option maxHeartbeats 2000000 in
theorem puts_small (p : Option Addr) (n c : Nat) (l : List Int) (r : Int) (s t : ByteArray) (w : World) (hp : p = none → n = 0 ∧ c = 0) (hB : Bs w (.slice p n c) l) (hl : l.length = n) (hF : Forms w) (hr0 : -2147483648 ≤ r) (hr1 : r ≤ 2147483647) (hsm : n + s.size + t.size ≤ 1000) :
    Calls Tryd.prog 4 #[.slice p n c, .int .i32 r, .string s, .string t] w fun e w' => e = .returned (.bool true) ∧ Below w.heap.size w w' := by
  have H := Lib.hid (awake_any w hF)
  obtain ⟨m, hm⟩ : ∃ m, m = n + (enc (fixed r)).length := ⟨_, rfl⟩
  obtain ⟨ll, hll⟩ : ∃ ll, ll = l ++ enc (fixed r) := ⟨_, rfl⟩
  obtain ⟨lt, hlt⟩ : ∃ lt, lt = lx (marks (ints s)) (marks (ints t)) := ⟨_, rfl⟩
  have HP1 : Lays' 22 #[.slice p n c, .int .i32 r] m ll w := fun W h => by
    have := Put_any p n c l r W (hB.below h) hl (by omega)
    rw [← hm, ← hll] at this
    refine this.mono ?_
    rintro e w' ⟨rfl, h1, h2⟩
    exact ⟨_, _, rfl, h1, h2⟩
  have HP2 : Lays' 23 #[.slice p n c, .int .i32 r] m ll w := fun W h => by
    have := RPut_any p n c l r W hp (hB.below h) (by omega) hr0 hr1
    rw [← hm, ← hll] at this
    refine this.mono ?_
    rintro e w' ⟨g, cap, rfl, h1, h2⟩
    exact ⟨_, _, rfl, h1, h2⟩
  have HL1 : Ret' 24 #[.string s, .string t] (.bool lt) w := fun W h => by
    have := Less_any s t W (by unfold maxLen; omega) (by unfold maxLen; omega) (hF.below h hF.size)
    rw [← lx_marks, ← hlt] at this
    exact this
  have HL2 : Ret' 25 #[.string s, .string t] (.bool lt) w := fun W _ => by
    have := RLess_any s t W (by omega) (by omega)
    rw [← hlt] at this
    exact this
  have hcv : ∀ W q cap, Bs W (.slice (some q) m cap) ll → (convert 22 9 (.slice (some q) m cap)).run Tryd.prog W = .ok (.string (strOf ll)) W := fun W q cap h => conv_bytes h
  generalize strOf ll = sl at hcv
  clear hF hB hl hp hm hll hlt hr0 hr1
  have d0 : decide ((1000 : Int) < (n : Int) + (s.size : Int) + (t.size : Int)) = false := decide_eq_false (by omega)
  go_enter Tryd.func4, Tryd.ntmps4
  go_wp2_with (go_at_call 11; refine H.out.mono ?_; rintro e w1 ⟨rfl, hb1⟩)
  clear H
  have hwd := hb1.drew
  refine wp_region_held_drew (S := fun _ => True) (by kernel_rfl) trivial (fun hHeld => ?_)
  have hTr : (fun _ : World => True) w1 := trivial
  refine wpAnyH_take (i := 0) (oi := { dst := some 21, op := Op.move (Operand.tmp 9), type := 4, pos := "law.go:34", after := #[], guard := none }) (v := ?_) rfl (by kernel_rfl) (by kernel_rfl) (by kernel_rfl) (fun _ _ _ h => h) (Or.inl ⟨by rfl, ?_⟩) (by assumption) ?_
  rotate_left
  · intro w hSw
    try dsimp only at hSw
    go_simp
    try with_reducible rfl
  try simp only [Act.put, List.setIfInBounds_toArray, List.set_cons_zero, List.set_cons_succ]
  refine wpAnyH_take (i := 1) (oi := { dst := some 22, op := Op.move (Operand.tmp 21), type := 4, pos := "law.go:34", after := #[{ on := 0, ground := Ground.data }], guard := none }) (v := ?_) rfl (by kernel_rfl) (by kernel_rfl) (by kernel_rfl) (fun _ _ _ h => h) (Or.inl ⟨by rfl, ?_⟩) (by assumption) ?_
  rotate_left
  · intro w hSw
    try dsimp only at hSw
    go_simp
    try with_reducible rfl
  try simp only [Act.put, List.setIfInBounds_toArray, List.set_cons_zero, List.set_cons_succ]
  refine wpAnyH_take (i := 2) (oi := { dst := some 23, op := Op.move (Operand.tmp 0), type := 22, pos := "law.go:34", after := #[{ on := 1, ground := Ground.guard }], guard := some (1, true) }) (v := ?_) rfl (by kernel_rfl) (by kernel_rfl) (by kernel_rfl) (fun _ _ _ h => h) (Or.inl ⟨by rfl, ?_⟩) (by assumption) ?_
  rotate_left
  · intro w hSw
    try dsimp only at hSw
    go_simp
    try with_reducible rfl
  try simp only [Act.put, List.setIfInBounds_toArray, List.set_cons_zero, List.set_cons_succ]
  refine wpAnyH_take (i := 3) (oi := { dst := some 24, op := Op.move (Operand.tmp 1), type := 21, pos := "law.go:34", after := #[{ on := 1, ground := Ground.guard }], guard := some (1, true) }) (v := ?_) rfl (by kernel_rfl) (by kernel_rfl) (by kernel_rfl) (fun _ _ _ h => h) (Or.inl ⟨by rfl, ?_⟩) (by assumption) ?_
  rotate_left
  · intro w hSw
    try dsimp only at hSw
    go_simp
    try with_reducible rfl
  try simp only [Act.put, List.setIfInBounds_toArray, List.set_cons_zero, List.set_cons_succ]
  refine wpAnyH_take (i := 6) (oi := { dst := some 27, op := Op.move (Operand.tmp 0), type := 22, pos := "law.go:34", after := #[{ on := 1, ground := Ground.guard }], guard := some (1, true) }) (v := ?_) rfl (by kernel_rfl) (by kernel_rfl) (by kernel_rfl) (fun _ _ _ h => h) (Or.inl ⟨by rfl, ?_⟩) (by assumption) ?_
  rotate_left
  · intro w hSw
    try dsimp only at hSw
    go_simp
    try with_reducible rfl
  try simp only [Act.put, List.setIfInBounds_toArray, List.set_cons_zero, List.set_cons_succ]
  refine wpAnyH_take (i := 7) (oi := { dst := some 28, op := Op.move (Operand.tmp 1), type := 21, pos := "law.go:34", after := #[{ on := 1, ground := Ground.guard }], guard := some (1, true) }) (v := ?_) rfl (by kernel_rfl) (by kernel_rfl) (by kernel_rfl) (fun _ _ _ h => h) (Or.inl ⟨by rfl, ?_⟩) (by assumption) ?_
  rotate_left
  · intro w hSw
    try dsimp only at hSw
    go_simp
    try with_reducible rfl
  try simp only [Act.put, List.setIfInBounds_toArray, List.set_cons_zero, List.set_cons_succ]
  refine wpAnyH_ready (rs := [4]) (by kernel_rfl) (by simp) ?_
  refine AllReadyH.cons (o := { dst := some 25, op := Op.call { callee := Callee.value (Operand.func 22), args := #[Operand.tmp 23, Operand.tmp 24], argTypes := #[22, 21] }, type := 22, pos := "law.go:34", after := #[{ on := 2, ground := Ground.data }, { on := 3, ground := Ground.data }, { on := 1, ground := Ground.chain }, { on := 1, ground := Ground.guard }], guard := some (1, true) }) rfl (fun K hK => ?_) AllReadyH.nil
  go_simp
  have hcc := HP1 _ hwd
  with_reducible refine hcc.mono ?_
  clear hcc
  rintro e w2 ⟨q1, cap1, rfl, hb, hB1⟩
  try go_wp2_with fail
  have hw2 := hwd.trans (hb.mono hwd.size)
  clear hb
  refine hK.out _ _ trivial (fun hHeld1 => ?_)
  clear hK K
  try simp only [Act.put, List.setIfInBounds_toArray, List.set_cons_zero, List.set_cons_succ]
  refine wpAnyH_turn (T := fun W => (convert 22 9 (.slice (some q1) m cap1)).run Tryd.prog W = .ok (.string sl) W) (fun _ _ => trivial) _ _ _ _ ?_
  have hT : (fun W => (convert 22 9 (.slice (some q1) m cap1)).run Tryd.prog W = .ok (.string sl) W) w2 := hcv _ _ _ hB1
  clear hHeld hHeld1 hTr
  refine wpAnyH_take (i := 5) (oi := { dst := some 26, op := Op.convert 22 9 (Operand.tmp 25), type := 9, pos := "law.go:34", after := #[{ on := 4, ground := Ground.data }, { on := 1, ground := Ground.guard }], guard := some (1, true) }) (v := ?_) rfl (by kernel_rfl) (by kernel_rfl) (by kernel_rfl) (fun _ _ _ h => h) (Or.inl ⟨by rfl, ?_⟩) (by assumption) ?_
  rotate_left
  · intro w hSw
    try dsimp only at hSw
    go_simp
    try with_reducible rfl
  try simp only [Act.put, List.setIfInBounds_toArray, List.set_cons_zero, List.set_cons_succ]
  refine wpAnyH_ready (rs := [8]) (by kernel_rfl) (by simp) ?_
  refine AllReadyH.cons (o := { dst := some 29, op := Op.call { callee := Callee.value (Operand.func 23), args := #[Operand.tmp 27, Operand.tmp 28], argTypes := #[22, 21] }, type := 22, pos := "law.go:34", after := #[{ on := 6, ground := Ground.data }, { on := 7, ground := Ground.data }, { on := 4, ground := Ground.chain }, { on := 1, ground := Ground.guard }], guard := some (1, true) }) rfl (fun K hK => ?_) AllReadyH.nil
  go_simp
  have hcc := HP2 _ hw2
  with_reducible refine hcc.mono ?_
  clear hcc
  rintro e w3 ⟨q2, cap2, rfl, hb, hB2⟩
  try go_wp2_with fail
  have hw3 := hw2.trans (hb.mono hw2.size)
  have hB1' := hB1.below hb
  clear hb
  refine hK.out _ _ (hcv _ _ _ hB1') (fun hHeld2 => ?_)
  clear hK K hHeld2 hT
  try simp only [Act.put, List.setIfInBounds_toArray, List.set_cons_zero, List.set_cons_succ]
  refine wpAnyH_turn (T := fun W => ((convert 22 9 (.slice (some q1) m cap1)).run Tryd.prog W = .ok (.string sl) W) ∧ ((convert 22 9 (.slice (some q2) m cap2)).run Tryd.prog W = .ok (.string sl) W)) (fun _ h => h.1) _ _ _ _ ?_
  have hT2 : (fun W => ((convert 22 9 (.slice (some q1) m cap1)).run Tryd.prog W = .ok (.string sl) W) ∧ ((convert 22 9 (.slice (some q2) m cap2)).run Tryd.prog W = .ok (.string sl) W)) w3 := ⟨hcv _ _ _ hB1', hcv _ _ _ hB2⟩
  refine wpAnyH_take (i := 9) (oi := { dst := some 30, op := Op.convert 22 9 (Operand.tmp 29), type := 9, pos := "law.go:34", after := #[{ on := 8, ground := Ground.data }, { on := 1, ground := Ground.guard }], guard := some (1, true) }) (v := ?_) rfl (by kernel_rfl) (by kernel_rfl) (by kernel_rfl) (fun _ _ _ h => h) (Or.inl ⟨by rfl, ?_⟩) (by assumption) ?_
  rotate_left
  · intro w hSw
    try dsimp only at hSw
    go_simp
    try with_reducible rfl
  try simp only [Act.put, List.setIfInBounds_toArray, List.set_cons_zero, List.set_cons_succ]
  refine wpAnyH_take (i := 10) (oi := { dst := some 31, op := Op.binOp BinOp.eql 9 (Operand.tmp 26) (Operand.tmp 30) 9, type := 4, pos := "law.go:34", after := #[{ on := 5, ground := Ground.data }, { on := 9, ground := Ground.data }, { on := 1, ground := Ground.guard }], guard := some (1, true) }) (v := ?_) rfl (by kernel_rfl) (by kernel_rfl) (by kernel_rfl) (fun _ _ _ h => h) (Or.inl ⟨by rfl, ?_⟩) (by assumption) ?_
  rotate_left
  · intro w hSw
    try dsimp only at hSw
    go_simp
    try with_reducible rfl
  try simp only [Act.put, List.setIfInBounds_toArray, List.set_cons_zero, List.set_cons_succ]
  refine wpAnyH_take (i := 11) (oi := { dst := some 32, op := Op.pick (Operand.tmp 22) (Operand.tmp 31) (Operand.const (Value.bool false)), type := 4, pos := "law.go:34", after := #[{ on := 1, ground := Ground.data }, { on := 10, ground := Ground.data }], guard := none }) (v := ?_) rfl (by kernel_rfl) (by kernel_rfl) (by kernel_rfl) (fun _ _ _ h => h) (Or.inl ⟨by rfl, ?_⟩) (by assumption) ?_
  rotate_left
  · intro w hSw
    try dsimp only at hSw
    go_simp
    try with_reducible rfl
  try simp only [Act.put, List.setIfInBounds_toArray, List.set_cons_zero, List.set_cons_succ]
  refine wpAnyH_take (i := 12) (oi := { dst := some 33, op := Op.move (Operand.tmp 32), type := 4, pos := "law.go:34", after := #[{ on := 11, ground := Ground.data }, { on := 8, ground := Ground.chain }], guard := none }) (v := ?_) rfl (by kernel_rfl) (by kernel_rfl) (by kernel_rfl) (fun _ _ _ h => h) (Or.inl ⟨by rfl, ?_⟩) (by assumption) ?_
  rotate_left
  · intro w hSw
    try dsimp only at hSw
    go_simp
    try with_reducible rfl
  try simp only [Act.put, List.setIfInBounds_toArray, List.set_cons_zero, List.set_cons_succ]
  refine wpAnyH_take (i := 13) (oi := { dst := some 34, op := Op.move (Operand.tmp 2), type := 9, pos := "law.go:34", after := #[{ on := 12, ground := Ground.guard }], guard := some (12, true) }) (v := ?_) rfl (by kernel_rfl) (by kernel_rfl) (by kernel_rfl) (fun _ _ _ h => h) (Or.inl ⟨by rfl, ?_⟩) (by assumption) ?_
  rotate_left
  · intro w hSw
    try dsimp only at hSw
    go_simp
    try with_reducible rfl
  try simp only [Act.put, List.setIfInBounds_toArray, List.set_cons_zero, List.set_cons_succ]
  refine wpAnyH_take (i := 14) (oi := { dst := some 35, op := Op.move (Operand.tmp 3), type := 9, pos := "law.go:34", after := #[{ on := 12, ground := Ground.guard }], guard := some (12, true) }) (v := ?_) rfl (by kernel_rfl) (by kernel_rfl) (by kernel_rfl) (fun _ _ _ h => h) (Or.inl ⟨by rfl, ?_⟩) (by assumption) ?_
  rotate_left
  · intro w hSw
    try dsimp only at hSw
    go_simp
    try with_reducible rfl
  try simp only [Act.put, List.setIfInBounds_toArray, List.set_cons_zero, List.set_cons_succ]
  refine wpAnyH_take (i := 16) (oi := { dst := some 37, op := Op.move (Operand.tmp 2), type := 9, pos := "law.go:34", after := #[{ on := 12, ground := Ground.guard }], guard := some (12, true) }) (v := ?_) rfl (by kernel_rfl) (by kernel_rfl) (by kernel_rfl) (fun _ _ _ h => h) (Or.inl ⟨by rfl, ?_⟩) (by assumption) ?_
  rotate_left
  · intro w hSw
    try dsimp only at hSw
    go_simp
    try with_reducible rfl
  try simp only [Act.put, List.setIfInBounds_toArray, List.set_cons_zero, List.set_cons_succ]
  refine wpAnyH_take (i := 17) (oi := { dst := some 38, op := Op.move (Operand.tmp 3), type := 9, pos := "law.go:34", after := #[{ on := 12, ground := Ground.guard }], guard := some (12, true) }) (v := ?_) rfl (by kernel_rfl) (by kernel_rfl) (by kernel_rfl) (fun _ _ _ h => h) (Or.inl ⟨by rfl, ?_⟩) (by assumption) ?_
  rotate_left
  · intro w hSw
    try dsimp only at hSw
    go_simp
    try with_reducible rfl
  try simp only [Act.put, List.setIfInBounds_toArray, List.set_cons_zero, List.set_cons_succ]
  refine wpAnyH_ready (rs := [15]) (by kernel_rfl) (by simp) ?_
  refine AllReadyH.cons (o := { dst := some 36, op := Op.call { callee := Callee.value (Operand.func 24), args := #[Operand.tmp 34, Operand.tmp 35], argTypes := #[9, 9] }, type := 4, pos := "law.go:34", after := #[{ on := 13, ground := Ground.data }, { on := 14, ground := Ground.data }, { on := 12, ground := Ground.chain }, { on := 12, ground := Ground.guard }], guard := some (12, true) }) rfl (fun K hK => ?_) AllReadyH.nil
  go_simp
  have hcc := HL1 _ hw3
  with_reducible refine hcc.mono ?_
  clear hcc
  rintro e w4 ⟨rfl, hb⟩
  try go_wp2_with fail
  have hw4 := hw3.trans (hb.mono hw3.size)
  have hB1'' := hB1'.below hb
  have hB2' := hB2.below hb
  clear hb
  refine hK.out _ _ ⟨hcv _ _ _ hB1'', hcv _ _ _ hB2'⟩ (fun hHeld3 => ?_)
  clear hK K hHeld3 hT2
  try simp only [Act.put, List.setIfInBounds_toArray, List.set_cons_zero, List.set_cons_succ]
  have hT3 : (fun W => ((convert 22 9 (.slice (some q1) m cap1)).run Tryd.prog W = .ok (.string sl) W) ∧ ((convert 22 9 (.slice (some q2) m cap2)).run Tryd.prog W = .ok (.string sl) W)) w4 := ⟨hcv _ _ _ hB1'', hcv _ _ _ hB2'⟩
  refine wpAnyH_ready (rs := [18]) (by kernel_rfl) (by simp) ?_
  refine AllReadyH.cons (o := { dst := some 39, op := Op.call { callee := Callee.value (Operand.func 25), args := #[Operand.tmp 37, Operand.tmp 38], argTypes := #[9, 9] }, type := 4, pos := "law.go:34", after := #[{ on := 16, ground := Ground.data }, { on := 17, ground := Ground.data }, { on := 15, ground := Ground.chain }, { on := 12, ground := Ground.guard }], guard := some (12, true) }) rfl (fun K hK => ?_) AllReadyH.nil
  go_simp
  have hcc := HL2 _ hw4
  with_reducible refine hcc.mono ?_
  clear hcc
  rintro e w5 ⟨rfl, hb⟩
  try go_wp2_with fail
  have hw5 := hw4.trans (hb.mono hw4.size)
  have hB1 := hB1''.below hb
  have hB2 := hB2'.below hb
  clear hb
  refine hK.out _ _ ⟨hcv _ _ _ hB1, hcv _ _ _ hB2⟩ (fun hHeld4 => ?_)
  clear hK K hHeld4 hT3
  try simp only [Act.put, List.setIfInBounds_toArray, List.set_cons_zero, List.set_cons_succ]
  have hT4 : (fun W => ((convert 22 9 (.slice (some q1) m cap1)).run Tryd.prog W = .ok (.string sl) W) ∧ ((convert 22 9 (.slice (some q2) m cap2)).run Tryd.prog W = .ok (.string sl) W)) w5 := ⟨hcv _ _ _ hB1, hcv _ _ _ hB2⟩
  refine wpAnyH_take (i := 19) (oi := { dst := some 40, op := Op.binOp BinOp.eql 4 (Operand.tmp 36) (Operand.tmp 39) 4, type := 4, pos := "law.go:34", after := #[{ on := 15, ground := Ground.data }, { on := 18, ground := Ground.data }, { on := 12, ground := Ground.guard }], guard := some (12, true) }) (v := ?_) rfl (by kernel_rfl) (by kernel_rfl) (by kernel_rfl) (fun _ _ _ h => h) (Or.inl ⟨by rfl, ?_⟩) (by assumption) ?_
  rotate_left
  · intro w hSw
    try dsimp only at hSw
    go_simp
    try with_reducible rfl
  try simp only [Act.put, List.setIfInBounds_toArray, List.set_cons_zero, List.set_cons_succ]
  refine wpAnyH_take (i := 20) (oi := { dst := some 41, op := Op.pick (Operand.tmp 33) (Operand.tmp 40) (Operand.const (Value.bool false)), type := 4, pos := "law.go:34", after := #[{ on := 12, ground := Ground.data }, { on := 19, ground := Ground.data }], guard := none }) (v := ?_) rfl (by kernel_rfl) (by kernel_rfl) (by kernel_rfl) (fun _ _ _ h => h) (Or.inl ⟨by rfl, ?_⟩) (by assumption) ?_
  rotate_left
  · intro w hSw
    try dsimp only at hSw
    go_simp
    try with_reducible rfl
  try simp only [Act.put, List.setIfInBounds_toArray, List.set_cons_zero, List.set_cons_succ]
  refine wpAnyH_take (i := 21) (oi := { dst := some 8, op := Op.assign (Operand.tmp 41), type := 4, pos := "law.go:34", after := #[{ on := 20, ground := Ground.data }, { on := 18, ground := Ground.chain }, { on := 0, ground := Ground.phase }, { on := 1, ground := Ground.phase }, { on := 2, ground := Ground.phase }, { on := 3, ground := Ground.phase }, { on := 4, ground := Ground.phase }, { on := 5, ground := Ground.phase }, { on := 6, ground := Ground.phase }, { on := 7, ground := Ground.phase }, { on := 8, ground := Ground.phase }, { on := 9, ground := Ground.phase }, { on := 10, ground := Ground.phase }, { on := 11, ground := Ground.phase }, { on := 12, ground := Ground.phase }, { on := 13, ground := Ground.phase }, { on := 14, ground := Ground.phase }, { on := 15, ground := Ground.phase }, { on := 16, ground := Ground.phase }, { on := 17, ground := Ground.phase }, { on := 18, ground := Ground.phase }, { on := 19, ground := Ground.phase }, { on := 20, ground := Ground.phase }], guard := none }) (v := ?_) rfl (by kernel_rfl) (by kernel_rfl) (by kernel_rfl) (fun _ _ _ h => h) (Or.inl ⟨by rfl, ?_⟩) (by assumption) ?_
  rotate_left
  · intro w hSw
    try dsimp only at hSw
    go_simp
    try with_reducible rfl
  try simp only [Act.put, List.setIfInBounds_toArray, List.set_cons_zero, List.set_cons_succ]
  refine wpAnyH_done (by kernel_rfl) ?_ _
  go_wp2
  go_ret
  exact ⟨rfl, hw5⟩
theorem puts_any (p : Option Addr) (n c : Nat) (l : List Int) (r : Int) (s t : ByteArray) (w : World) (hp : p = none → n = 0 ∧ c = 0) (hB : Bs w (.slice p n c) l) (hl : l.length = n) (hn : n ≤ 140737488351232) (hr : (Lit.int .i32 r).wf = true) (hs : s.size ≤ 140737488351232) (ht : t.size ≤ 140737488351232) (hF : Forms w) :
    Calls Tryd.prog 4 #[.slice p n c, .int .i32 r, .string s, .string t] w fun e w' => e = .returned (.bool true) ∧ Below w.heap.size w w' := by
  have hr' := (Bool.and_eq_true_iff).1 hr
  have h0 : -2147483648 ≤ r := of_decide_eq_true hr'.1
  have h2 : r ≤ 2147483647 := of_decide_eq_true hr'.2
  by_cases h1 : 1000 < n + s.size + t.size
  · exact puts_great p n c r s t w hF hn hs ht h1
  · exact puts_small p n c l r s t w hp hB hl hF h0 h2 (by omega)
end Go.Proofs.YtbajejhhmacflaaDoor.utf
