/- For all bytes UtfFirst answers true. -/
import Derived.Test.YtbajejhhmacflaaDoorUtfU
import Derived.Test.YtbajejhhmacflaaDoorUtfT
import Derived.Deep.RegionHeld3
namespace Go.Proofs.YtbajejhhmacflaaDoor.utf
open Go.PlainAid Go.ChangeShapes Go.WideShapes Go.ChangeAt Go.RowKit

theorem wpAnyH_turn {P : Program} {ops : Array Oper} {Q : Exit → Act → World → Prop} {md : Region.Mode} {S T : World → Prop} (hST : ∀ w, T w → S w) :
    ∀ (fuel : Nat) (listed : Array Bool) (a : Act) (w : World), wpAnyH P md ops Q T fuel listed a w → wpAnyH P md ops Q S fuel listed a w
  | 0, _, _, _, h => h
  | fuel + 1, _, _, _, h => ⟨h.1, fun i hi => wpOp_mono (fun a' w' h' => ⟨hST _ h'.1, wpAnyH_turn hST fuel _ a' w' h'.2⟩) (h.2 i hi)⟩

theorem ch_rune {n b0 b1 b2 b3 r m : Int} (h0 : 0 ≤ b0) (h : Ch n b0 b1 b2 b3 r m) : IsRune r := by unfold Ch at h; unfold IsRune; omega

set_option maxHeartbeats 2000000 in
theorem first_great (p : Option Addr) (n c : Nat) (w : World) (hF : Forms w) (hn : n ≤ 140737488351232) (hbig : 1000 < n) :
    Calls Tryd.prog 10 #[.slice p n c] w fun e w' => e = .returned (.bool true) ∧ Below w.heap.size w w' := by
  have H := Lib.hid (awake_any w hF)
  clear hF
  go_enter Tryd.func10, Tryd.ntmps10
  go_wp2_with (go_at_call 11; refine H.out.mono ?_; rintro e w1 ⟨rfl, hb1⟩)
  go_ret
  exact ⟨rfl, hb1⟩

set_option maxHeartbeats 2000000 in
theorem first_none (c : Nat) (p : Option Addr) (w : World) (hF : Forms w) :
    Calls Tryd.prog 10 #[.slice p 0 c] w fun e w' => e = .returned (.bool true) ∧ Below w.heap.size w w' := by
  have H := Lib.hid (awake_any w hF)
  have HN : Hid (∀ W, Forms W → Calls Tryd.prog 12 #[.slice p 0 c] W fun e w' => e = .returned (.tuple #[.int .i32 0, .int .i64 0]) ∧ Below W.heap.size W w') := fun W h => by
    have := Next_any (.slice p 0 c) [] W (fun x hx => by simp at hx) (by decide) (.inl ⟨_, _, rfl, rfl⟩) h
    rw [nxl_nil] at this
    exact this
  have HF := Lib.hid hF
  clear hF
  go_enter Tryd.func10, Tryd.ntmps10
  go_wp2_with (go_at_call 11; refine H.out.mono ?_; rintro e w1 ⟨rfl, hb1⟩)
  refine (HN.out w1 (HF.out.below hb1 HF.out.size)).mono ?_
  rintro e w2 ⟨rfl, hb2⟩
  go_wp2
  go_ret
  exact ⟨rfl, hb1.trans (hb2.mono hb1.size)⟩

set_option maxHeartbeats 2000000 in
theorem first_bad (a : Addr) (n c : Nat) (l : List Int) (w : World) (hO : Oct l) (hB : Bs w (.slice (some a) n c) l) (h0 : 0 < n) (hn : n ≤ 1000) (hz : nxl l = (0, 0)) (hF : Forms w) :
    Calls Tryd.prog 10 #[.slice (some a) n c] w fun e w' => e = .returned (.bool true) ∧ Below w.heap.size w w' := by
  have H := Lib.hid (awake_any w hF)
  have hln := (Bs_news hB).1
  have hm : l.length ≤ maxLen := by rw [← hln]; unfold maxLen; omega
  have hne : l ≠ [] := fun e => by rw [e] at hln; simp at hln; omega
  have hck : chk l = 0 := chkF_bad 0 hne (by rw [hz]) (Nat.le_refl _)
  have HN : Hid (∀ W, Below w.heap.size w W → Calls Tryd.prog 12 #[.slice (some a) n c] W fun e w' => e = .returned (.tuple #[.int .i32 0, .int .i64 0]) ∧ Below W.heap.size W w') := fun W h => by
    have := Next_any (.slice (some a) n c) l W hO hm (hB.below h) (hF.below h hF.size)
    rw [hz] at this
    exact this
  have HC : Hid (∀ W, Below w.heap.size w W → Calls Tryd.prog 16 #[.slice (some a) n c] W fun e w' => e = .returned (.int .i64 0) ∧ Below W.heap.size W w') := fun W h => by
    have := Check_any (.slice (some a) n c) l W hO hm (hB.below h) (hF.below h hF.size)
    rw [hck] at this
    exact this
  have b0 : ((n : Int) == 0) = false := beq_eq_false_iff_ne.2 (by omega)
  clear hF hB hO hz hm hne hck hln
  go_enter Tryd.func10, Tryd.ntmps10
  go_wp2_with (go_at_call 11; refine H.out.mono ?_; rintro e w1 ⟨rfl, hb1⟩)
  refine (HN.out w1 hb1).mono ?_
  rintro e w2 ⟨rfl, hb2⟩
  have hb2' := hb1.trans (hb2.mono hb1.size)
  go_wp2_with fail
  refine (HC.out w2 hb2').mono ?_
  rintro e w3 ⟨rfl, hb3⟩
  go_wp2
  go_ret
  exact ⟨rfl, hb2'.trans (hb3.mono hb2'.size)⟩
/-- A call that returns one value in every later world, and turns nothing. -/
def Ret (f : FuncId) (args : Array Value) (v : Value) (w : World) : Prop := ∀ W, Below w.heap.size w W → Calls Tryd.prog f args W fun e w' => e = .returned v ∧ Below W.heap.size W w'
/-- Put(nil, r), in whatever world. -/
def PutRet (r : Int) (m : Nat) : Prop := ∀ W, Calls Tryd.prog 22 #[.slice none 0 0, .int .i32 r] W fun e w' => e = .returned (.slice (some ⟨W.heap.size, 0, none⟩) m m) ∧ (Below W.heap.size W w' ∧ Bs w' (.slice (some ⟨W.heap.size, 0, none⟩) m m) (enc r))
theorem drew_Bs' {w : World} {v : Value} {l : List Int} (h : Bs w v l) : Bs w.drew v l := h.below (Below.drew (Below.refl _ _))

set_option pp.maxSteps 1000000 in
set_option pp.deepTerms true in
set_option maxHeartbeats 4000000 in
theorem first_good (b off n c : Nat) (l : List Int) (w : World) (hO : Oct l) (hB : Bs w (.slice (some ⟨b, off, none⟩) n c) l) (hn : n ≤ 1000) (r : Int) (m : Nat) (hz : nxl l = (r, (m : Int))) (hm0 : 0 < m) (hF : Forms w) :
    Calls Tryd.prog 10 #[.slice (some ⟨b, off, none⟩) n c] w fun e w' => e = .returned (.bool true) ∧ Below w.heap.size w w' := by
  have H := Lib.hid (awake_any w hF)
  have hln := (Bs_news hB).1
  have hm : l.length ≤ maxLen := by rw [← hln]; unfold maxLen; omega
  have hne : l ≠ [] := fun e => by rw [e] at hz; rw [nxl_nil] at hz; injection hz with _ h; omega
  have hch : Ch l.length (gl l 0) (gl l 1) (gl l 2) (gl l 3) r m := by
    rcases nxl_is hO with h | ⟨h, _⟩
    · rw [hz] at h; exact h
    · rw [hz] at h; injection h with _ h; omega
  have hru := ch_rune (hO.gl 0).1 hch
  have hlen := ch_len hch
  have hte : l.take m = enc r := by simpa using take_enc hO hch
  have hel : (enc r).length = m := by rw [← hte]; simp; omega
  have hfx : fixed r = r := if_pos hru
  have hck : chk l ≠ 0 := by
    unfold chk
    rw [chkF_step hO 0 hne (by rw [hz]; simp; omega) (Nat.le_refl _), hz]
    show chkF l.length (l.drop m) (0 + (m : Int)) ≠ 0
    rcases chkF_range l.length (hO.drop m) (0 + (m : Int)) (by omega) (by simp) with h | h <;> omega
  have hcn : 1 ≤ cnt l := by
    have := cnt_range _ (Nat.le_refl _) (hO.drop (rk l).2.toNat)
    rw [cnt_step hO hne]; omega
  have hcr := cnt_range _ (Nat.le_refl _) hO
  have hBt : ∀ W, Bs W (.slice (some ⟨b, off, none⟩) n c) l → Bs W (.slice (some ⟨b, off, none⟩) m c) (enc r) := fun W h => by
    rw [← hte]; exact Bs_take h (by omega)
  have HN : Ret 12 #[.slice (some ⟨b, off, none⟩) n c] (.tuple #[.int .i32 r, .int .i64 m]) w := fun W h => by
    have := Next_any _ l W hO hm (hB.below h) (hF.below h hF.size)
    rw [hz] at this
    exact this
  have HP : PutRet r m := fun W => by
    have := PutNil_any r W
    rw [hfx, hel] at this
    refine this.mono ?_
    rintro e w' ⟨rfl, rfl⟩
    have k := Bs_put W r
    rw [hel] at k
    exact ⟨rfl, (Below.refl _ _).alloc (Nat.le_refl _) _, k⟩
  obtain ⟨ck, hck'⟩ : ∃ ck, ck = chk l := ⟨_, rfl⟩
  obtain ⟨cn, hcn'⟩ : ∃ cn, cn = cnt l := ⟨_, rfl⟩
  rw [← hck'] at hck
  rw [← hcn'] at hcn
  have HC : Ret 16 #[.slice (some ⟨b, off, none⟩) n c] (.int .i64 ck) w := fun W h => by
    have := Check_any _ l W hO hm (hB.below h) (hF.below h hF.size)
    rw [← hck'] at this
    exact this
  have HC2 : Ret 16 #[.slice (some ⟨b, off, none⟩) m c] (.int .i64 (-1)) w := fun W h => by
    have := Check_any _ (enc r) W (enc_oct hru) (by rw [hel]; unfold maxLen; omega) (hBt W (hB.below h)) (hF.below h hF.size)
    rw [chk_enc hru] at this
    exact this
  have HCn : Ret 18 #[.string (strOf l)] (.int .i64 cn) w := fun W h => by
    have := Count_any (strOf l) W (by rw [strOf_size]; exact hm) (hF.below h hF.size)
    rw [ints_strOf hO, ← hcn'] at this
    exact this
  have HB := Lib.hid hB
  have m0 : ((m : Int) == 0) = false := beq_eq_false_iff_ne.2 (by omega)
  have m1 : decide ((1 : Int) ≤ m) = true := decide_eq_true (by omega)
  have m2 : decide ((m : Int) ≤ 4) = true := decide_eq_true (by omega)
  have m3 : decide ((m : Int) ≤ n) = true := decide_eq_true (by omega)
  have m4 : (ck != 0) = true := by simpa using hck
  have m5 : decide ((1 : Int) ≤ cn) = true := decide_eq_true (by omega)
  have m6 : m ≤ n := by omega
  have m7 : (0 : Int) ≤ (m : Int) := by omega
  have hnc : n ≤ c := by
    rcases hB with ⟨_, _, hv, hl0⟩ | ⟨b', off', cap', hv, _, hc, _, _⟩
    · rw [hl0] at hln; simp at hln; omega
    · injection hv with _ hm2 hcap; omega
  have m8 : (m : Int) ≤ (c : Int) := by omega
  have m9 : m ≤ c := by omega
  clear hF hB hO hz hm hne hck hln hch hru hte hel hfx hcr hck' hcn'
  go_enter Tryd.func10, Tryd.ntmps10
  go_wp2_with (go_at_call 11; refine H.out.mono ?_; rintro e w1 ⟨rfl, hb1⟩)
  refine (HN w1 hb1).mono ?_
  rintro e w2 ⟨rfl, hb2⟩
  have hb2' := hb1.trans (hb2.mono hb1.size)
  clear hb2 hb1
  have k2 := HB.out.below hb2'
  have t2 := hBt w2 k2
  have hcv1 : ∀ W, Bs W (.slice (some ⟨b, off, none⟩) n c) l → (convert 22 9 (.slice (some ⟨b, off, none⟩) n c)).run Tryd.prog W = .ok (.string (strOf l)) W := fun W h => conv_bytes h
  have hcv2 : ∀ W k kk cc, Bs W (.slice (some k) kk cc) (enc r) → (convert 22 9 (.slice (some k) kk cc)).run Tryd.prog W = .ok (.string (strOf (enc r))) W := fun W p k cc h => conv_bytes h
  clear hBt HB H HN
  revert hcv1 hcv2 HCn
  generalize strOf l = s1
  generalize strOf (enc r) = s2
  intro HCn hcv1 hcv2
  go_wp2_with fail
  have kd := drew_Bs' k2
  have td := drew_Bs' t2
  have hwd := hb2'.drew
  have HPd : Calls Tryd.prog 22 #[.slice none 0 0, .int .i32 r] w2.drew fun e w' => ∃ g : Addr, e = .returned (.slice (some g) m m) ∧ (Below w2.drew.heap.size w2.drew w' ∧ Bs w' (.slice (some g) m m) (enc r)) := (HP w2.drew).mono (fun e w' h => ⟨_, h⟩)
  clear HP
  refine wp_region_held_drew (S := fun W => (convert 22 9 (.slice (some ⟨b, off, none⟩) n c)).run Tryd.prog W = .ok (.string s1) W ∧ (convert 22 9 (.slice (some ⟨b, off, none⟩) m c)).run Tryd.prog W = .ok (.string s2) W) (by kernel_rfl) ⟨hcv1 _ kd, hcv2 _ _ _ _ td⟩ (fun hHeld => ?_)
  refine wpAnyH_take (i := 0) (oi := { dst := some 33, op := Op.move (Operand.tmp 3), type := 4, pos := "more.go:58", after := #[], guard := none }) (v := ?_) rfl (by kernel_rfl) (by kernel_rfl) (by kernel_rfl) (fun _ _ _ h => h) (Or.inl ⟨by rfl, ?_⟩) (by assumption) ?_
  rotate_left
  · intro w hSw
    try dsimp only at hSw
    go_simp
    try with_reducible rfl
  try simp only [Act.put, List.setIfInBounds_toArray, List.set_cons_zero, List.set_cons_succ]
  refine wpAnyH_take (i := 1) (oi := { dst := some 34, op := Op.move (Operand.tmp 33), type := 4, pos := "more.go:58", after := #[{ on := 0, ground := Ground.data }], guard := none }) (v := ?_) rfl (by kernel_rfl) (by kernel_rfl) (by kernel_rfl) (fun _ _ _ h => h) (Or.inl ⟨by rfl, ?_⟩) (by assumption) ?_
  rotate_left
  · intro w hSw
    try dsimp only at hSw
    go_simp
    try with_reducible rfl
  try simp only [Act.put, List.setIfInBounds_toArray, List.set_cons_zero, List.set_cons_succ]
  refine wpAnyH_take (i := 2) (oi := { dst := some 35, op := Op.move (Operand.tmp 5), type := 3, pos := "more.go:58", after := #[{ on := 1, ground := Ground.guard }], guard := some (1, true) }) (v := ?_) rfl (by kernel_rfl) (by kernel_rfl) (by kernel_rfl) (fun _ _ _ h => h) (Or.inl ⟨by rfl, ?_⟩) (by assumption) ?_
  rotate_left
  · intro w hSw
    try dsimp only at hSw
    go_simp
    try with_reducible rfl
  try simp only [Act.put, List.setIfInBounds_toArray, List.set_cons_zero, List.set_cons_succ]
  refine wpAnyH_take (i := 3) (oi := { dst := some 36, op := Op.binOp BinOp.geq 3 (Operand.tmp 35) (Operand.const (Value.int IntKind.i64 1)) 3, type := 4, pos := "more.go:58", after := #[{ on := 2, ground := Ground.data }, { on := 1, ground := Ground.guard }], guard := some (1, true) }) (v := ?_) rfl (by kernel_rfl) (by kernel_rfl) (by kernel_rfl) (fun _ _ _ h => h) (Or.inl ⟨by rfl, ?_⟩) (by assumption) ?_
  rotate_left
  · intro w hSw
    try dsimp only at hSw
    go_simp
    try with_reducible rfl
  try simp only [Act.put, List.setIfInBounds_toArray, List.set_cons_zero, List.set_cons_succ]
  refine wpAnyH_take (i := 4) (oi := { dst := some 37, op := Op.pick (Operand.tmp 34) (Operand.tmp 36) (Operand.const (Value.bool false)), type := 4, pos := "more.go:58", after := #[{ on := 1, ground := Ground.data }, { on := 3, ground := Ground.data }], guard := none }) (v := ?_) rfl (by kernel_rfl) (by kernel_rfl) (by kernel_rfl) (fun _ _ _ h => h) (Or.inl ⟨by rfl, ?_⟩) (by assumption) ?_
  rotate_left
  · intro w hSw
    try dsimp only at hSw
    go_simp
    try with_reducible rfl
  try simp only [Act.put, List.setIfInBounds_toArray, List.set_cons_zero, List.set_cons_succ]
  refine wpAnyH_take (i := 5) (oi := { dst := some 38, op := Op.move (Operand.tmp 37), type := 4, pos := "more.go:58", after := #[{ on := 4, ground := Ground.data }, { on := 1, ground := Ground.chain }], guard := none }) (v := ?_) rfl (by kernel_rfl) (by kernel_rfl) (by kernel_rfl) (fun _ _ _ h => h) (Or.inl ⟨by rfl, ?_⟩) (by assumption) ?_
  rotate_left
  · intro w hSw
    try dsimp only at hSw
    go_simp
    try with_reducible rfl
  try simp only [Act.put, List.setIfInBounds_toArray, List.set_cons_zero, List.set_cons_succ]
  refine wpAnyH_take (i := 6) (oi := { dst := some 39, op := Op.move (Operand.tmp 5), type := 3, pos := "more.go:58", after := #[{ on := 5, ground := Ground.guard }], guard := some (5, true) }) (v := ?_) rfl (by kernel_rfl) (by kernel_rfl) (by kernel_rfl) (fun _ _ _ h => h) (Or.inl ⟨by rfl, ?_⟩) (by assumption) ?_
  rotate_left
  · intro w hSw
    try dsimp only at hSw
    go_simp
    try with_reducible rfl
  try simp only [Act.put, List.setIfInBounds_toArray, List.set_cons_zero, List.set_cons_succ]
  refine wpAnyH_take (i := 7) (oi := { dst := some 40, op := Op.binOp BinOp.leq 3 (Operand.tmp 39) (Operand.const (Value.int IntKind.i64 4)) 3, type := 4, pos := "more.go:58", after := #[{ on := 6, ground := Ground.data }, { on := 5, ground := Ground.guard }], guard := some (5, true) }) (v := ?_) rfl (by kernel_rfl) (by kernel_rfl) (by kernel_rfl) (fun _ _ _ h => h) (Or.inl ⟨by rfl, ?_⟩) (by assumption) ?_
  rotate_left
  · intro w hSw
    try dsimp only at hSw
    go_simp
    try with_reducible rfl
  try simp only [Act.put, List.setIfInBounds_toArray, List.set_cons_zero, List.set_cons_succ]
  refine wpAnyH_take (i := 8) (oi := { dst := some 41, op := Op.pick (Operand.tmp 38) (Operand.tmp 40) (Operand.const (Value.bool false)), type := 4, pos := "more.go:58", after := #[{ on := 5, ground := Ground.data }, { on := 7, ground := Ground.data }], guard := none }) (v := ?_) rfl (by kernel_rfl) (by kernel_rfl) (by kernel_rfl) (fun _ _ _ h => h) (Or.inl ⟨by rfl, ?_⟩) (by assumption) ?_
  rotate_left
  · intro w hSw
    try dsimp only at hSw
    go_simp
    try with_reducible rfl
  try simp only [Act.put, List.setIfInBounds_toArray, List.set_cons_zero, List.set_cons_succ]
  refine wpAnyH_take (i := 9) (oi := { dst := some 42, op := Op.move (Operand.tmp 41), type := 4, pos := "more.go:58", after := #[{ on := 8, ground := Ground.data }, { on := 5, ground := Ground.chain }], guard := none }) (v := ?_) rfl (by kernel_rfl) (by kernel_rfl) (by kernel_rfl) (fun _ _ _ h => h) (Or.inl ⟨by rfl, ?_⟩) (by assumption) ?_
  rotate_left
  · intro w hSw
    try dsimp only at hSw
    go_simp
    try with_reducible rfl
  try simp only [Act.put, List.setIfInBounds_toArray, List.set_cons_zero, List.set_cons_succ]
  refine wpAnyH_take (i := 10) (oi := { dst := some 43, op := Op.move (Operand.tmp 5), type := 3, pos := "more.go:58", after := #[{ on := 9, ground := Ground.guard }], guard := some (9, true) }) (v := ?_) rfl (by kernel_rfl) (by kernel_rfl) (by kernel_rfl) (fun _ _ _ h => h) (Or.inl ⟨by rfl, ?_⟩) (by assumption) ?_
  rotate_left
  · intro w hSw
    try dsimp only at hSw
    go_simp
    try with_reducible rfl
  try simp only [Act.put, List.setIfInBounds_toArray, List.set_cons_zero, List.set_cons_succ]
  refine wpAnyH_take (i := 11) (oi := { dst := some 44, op := Op.move (Operand.tmp 0), type := 22, pos := "more.go:58", after := #[{ on := 9, ground := Ground.guard }], guard := some (9, true) }) (v := ?_) rfl (by kernel_rfl) (by kernel_rfl) (by kernel_rfl) (fun _ _ _ h => h) (Or.inl ⟨by rfl, ?_⟩) (by assumption) ?_
  rotate_left
  · intro w hSw
    try dsimp only at hSw
    go_simp
    try with_reducible rfl
  try simp only [Act.put, List.setIfInBounds_toArray, List.set_cons_zero, List.set_cons_succ]
  refine wpAnyH_take (i := 12) (oi := { dst := some 45, op := Op.call { callee := Callee.builtin Builtin.len, args := #[Operand.tmp 44], argTypes := #[22] }, type := 3, pos := "more.go:58", after := #[{ on := 11, ground := Ground.data }, { on := 9, ground := Ground.guard }], guard := some (9, true) }) (v := ?_) rfl (by kernel_rfl) (by kernel_rfl) (by kernel_rfl) (fun _ _ _ h => h) (Or.inl ⟨by rfl, ?_⟩) (by assumption) ?_
  rotate_left
  · intro w hSw
    try dsimp only at hSw
    go_simp
    try with_reducible rfl
  try simp only [Act.put, List.setIfInBounds_toArray, List.set_cons_zero, List.set_cons_succ]
  refine wpAnyH_take (i := 13) (oi := { dst := some 46, op := Op.binOp BinOp.leq 3 (Operand.tmp 43) (Operand.tmp 45) 3, type := 4, pos := "more.go:58", after := #[{ on := 10, ground := Ground.data }, { on := 12, ground := Ground.data }, { on := 9, ground := Ground.guard }], guard := some (9, true) }) (v := ?_) rfl (by kernel_rfl) (by kernel_rfl) (by kernel_rfl) (fun _ _ _ h => h) (Or.inl ⟨by rfl, ?_⟩) (by assumption) ?_
  rotate_left
  · intro w hSw
    try dsimp only at hSw
    go_simp
    try with_reducible rfl
  try simp only [Act.put, List.setIfInBounds_toArray, List.set_cons_zero, List.set_cons_succ]
  refine wpAnyH_take (i := 14) (oi := { dst := some 47, op := Op.pick (Operand.tmp 42) (Operand.tmp 46) (Operand.const (Value.bool false)), type := 4, pos := "more.go:58", after := #[{ on := 9, ground := Ground.data }, { on := 13, ground := Ground.data }], guard := none }) (v := ?_) rfl (by kernel_rfl) (by kernel_rfl) (by kernel_rfl) (fun _ _ _ h => h) (Or.inl ⟨by rfl, ?_⟩) (by assumption) ?_
  rotate_left
  · intro w hSw
    try dsimp only at hSw
    go_simp
    try with_reducible rfl
  try simp only [Act.put, List.setIfInBounds_toArray, List.set_cons_zero, List.set_cons_succ]
  refine wpAnyH_take (i := 15) (oi := { dst := some 48, op := Op.move (Operand.tmp 47), type := 4, pos := "more.go:58", after := #[{ on := 14, ground := Ground.data }, { on := 9, ground := Ground.chain }], guard := none }) (v := ?_) rfl (by kernel_rfl) (by kernel_rfl) (by kernel_rfl) (fun _ _ _ h => h) (Or.inl ⟨by rfl, ?_⟩) (by assumption) ?_
  rotate_left
  · intro w hSw
    try dsimp only at hSw
    go_simp
    try with_reducible rfl
  try simp only [Act.put, List.setIfInBounds_toArray, List.set_cons_zero, List.set_cons_succ]
  refine wpAnyH_take (i := 16) (oi := { dst := some 49, op := Op.move (Operand.tmp 4), type := 21, pos := "more.go:58", after := #[{ on := 15, ground := Ground.guard }], guard := some (15, true) }) (v := ?_) rfl (by kernel_rfl) (by kernel_rfl) (by kernel_rfl) (fun _ _ _ h => h) (Or.inl ⟨by rfl, ?_⟩) (by assumption) ?_
  rotate_left
  · intro w hSw
    try dsimp only at hSw
    go_simp
    try with_reducible rfl
  try simp only [Act.put, List.setIfInBounds_toArray, List.set_cons_zero, List.set_cons_succ]
  refine wpAnyH_take (i := 19) (oi := { dst := some 52, op := Op.move (Operand.tmp 0), type := 22, pos := "more.go:58", after := #[{ on := 15, ground := Ground.guard }], guard := some (15, true) }) (v := ?_) rfl (by kernel_rfl) (by kernel_rfl) (by kernel_rfl) (fun _ _ _ h => h) (Or.inl ⟨by rfl, ?_⟩) (by assumption) ?_
  rotate_left
  · intro w hSw
    try dsimp only at hSw
    go_simp
    try with_reducible rfl
  try simp only [Act.put, List.setIfInBounds_toArray, List.set_cons_zero, List.set_cons_succ]
  refine wpAnyH_take (i := 20) (oi := { dst := some 53, op := Op.move (Operand.tmp 5), type := 3, pos := "more.go:58", after := #[{ on := 15, ground := Ground.guard }], guard := some (15, true) }) (v := ?_) rfl (by kernel_rfl) (by kernel_rfl) (by kernel_rfl) (fun _ _ _ h => h) (Or.inl ⟨by rfl, ?_⟩) (by assumption) ?_
  rotate_left
  · intro w hSw
    try dsimp only at hSw
    go_simp
    try with_reducible rfl
  try simp only [Act.put, List.setIfInBounds_toArray, List.set_cons_zero, List.set_cons_succ]
  refine wpAnyH_take (i := 21) (oi := { dst := some 54, op := Op.slice 22 (Operand.tmp 52) none (some (Operand.tmp 53)) none, type := 22, pos := "more.go:58", after := #[{ on := 19, ground := Ground.data }, { on := 20, ground := Ground.data }, { on := 15, ground := Ground.guard }], guard := some (15, true) }) (v := ?_) rfl (by kernel_rfl) (by kernel_rfl) (by kernel_rfl) (fun _ _ _ h => h) (Or.inl ⟨by rfl, ?_⟩) (by assumption) ?_
  rotate_left
  · intro w hSw
    try dsimp only at hSw
    go_simp
    try with_reducible rfl
  try simp only [Act.put, List.setIfInBounds_toArray, List.set_cons_zero, List.set_cons_succ]
  refine wpAnyH_take (i := 22) (oi := { dst := some 55, op := Op.convert 22 9 (Operand.tmp 54), type := 9, pos := "more.go:58", after := #[{ on := 21, ground := Ground.data }, { on := 15, ground := Ground.guard }], guard := some (15, true) }) (v := ?_) rfl (by kernel_rfl) (by kernel_rfl) (by kernel_rfl) (fun _ _ _ h => h) (Or.inl ⟨by rfl, ?_⟩) (by assumption) ?_
  rotate_left
  · intro w hSw
    try dsimp only at hSw
    go_simp
    try with_reducible rfl
  try simp only [Act.put, List.setIfInBounds_toArray, List.set_cons_zero, List.set_cons_succ]
  refine wpAnyH_ready (rs := [17]) (by kernel_rfl) (by simp) ?_
  refine AllReadyH.cons (o := { dst := some 50, op := Op.call { callee := Callee.value (Operand.func 22), args := #[Operand.const (Value.slice none 0 0), Operand.tmp 49], argTypes := #[22, 21] }, type := 22, pos := "more.go:58", after := #[{ on := 16, ground := Ground.data }, { on := 15, ground := Ground.chain }, { on := 15, ground := Ground.guard }], guard := some (15, true) }) rfl (fun K hK => ?_) AllReadyH.nil
  go_simp
  with_reducible refine HPd.mono ?_
  rintro e w5 ⟨g5, rfl, hb, gw5⟩
  try go_wp2_with fail
  have kw5 := kd.below hb
  have tw5 := td.below hb
  have bw5 := hwd.trans (hb.mono hwd.size)
  refine hK.out _ _ ⟨hcv1 _ kw5, hcv2 _ _ _ _ tw5⟩ (fun hHeld1 => ?_)
  clear hK K
  try simp only [Act.put, List.setIfInBounds_toArray, List.set_cons_zero, List.set_cons_succ]
  refine wpAnyH_turn (T := fun W => (convert 22 9 (.slice (some ⟨b, off, none⟩) n c)).run Tryd.prog W = .ok (.string s1) W ∧ (convert 22 9 (.slice (some ⟨b, off, none⟩) m c)).run Tryd.prog W = .ok (.string s2) W ∧ (convert 22 9 (.slice (some g5) m m)).run Tryd.prog W = .ok (.string s2) W) (fun _ h => ⟨h.1, h.2.1⟩) _ _ _ _ ?_
  have hT : (fun W => (convert 22 9 (.slice (some ⟨b, off, none⟩) n c)).run Tryd.prog W = .ok (.string s1) W ∧ (convert 22 9 (.slice (some ⟨b, off, none⟩) m c)).run Tryd.prog W = .ok (.string s2) W ∧ (convert 22 9 (.slice (some g5) m m)).run Tryd.prog W = .ok (.string s2) W) w5 := ⟨hcv1 _ kw5, hcv2 _ _ _ _ tw5, hcv2 _ _ _ _ gw5⟩
  clear hHeld hHeld1
  refine wpAnyH_take (i := 18) (oi := { dst := some 51, op := Op.convert 22 9 (Operand.tmp 50), type := 9, pos := "more.go:58", after := #[{ on := 17, ground := Ground.data }, { on := 15, ground := Ground.guard }], guard := some (15, true) }) (v := ?_) rfl (by kernel_rfl) (by kernel_rfl) (by kernel_rfl) (fun _ _ _ h => h) (Or.inl ⟨by rfl, ?_⟩) (by assumption) ?_
  rotate_left
  · intro w hSw
    try dsimp only at hSw
    go_simp
    try with_reducible rfl
  try simp only [Act.put, List.setIfInBounds_toArray, List.set_cons_zero, List.set_cons_succ]
  refine wpAnyH_take (i := 23) (oi := { dst := some 56, op := Op.binOp BinOp.eql 9 (Operand.tmp 51) (Operand.tmp 55) 9, type := 4, pos := "more.go:58", after := #[{ on := 18, ground := Ground.data }, { on := 22, ground := Ground.data }, { on := 15, ground := Ground.guard }], guard := some (15, true) }) (v := ?_) rfl (by kernel_rfl) (by kernel_rfl) (by kernel_rfl) (fun _ _ _ h => h) (Or.inl ⟨by rfl, ?_⟩) (by assumption) ?_
  rotate_left
  · intro w hSw
    try dsimp only at hSw
    go_simp
    try with_reducible rfl
  try simp only [Act.put, List.setIfInBounds_toArray, List.set_cons_zero, List.set_cons_succ]
  refine wpAnyH_take (i := 24) (oi := { dst := some 57, op := Op.pick (Operand.tmp 48) (Operand.tmp 56) (Operand.const (Value.bool false)), type := 4, pos := "more.go:58", after := #[{ on := 15, ground := Ground.data }, { on := 23, ground := Ground.data }], guard := none }) (v := ?_) rfl (by kernel_rfl) (by kernel_rfl) (by kernel_rfl) (fun _ _ _ h => h) (Or.inl ⟨by rfl, ?_⟩) (by assumption) ?_
  rotate_left
  · intro w hSw
    try dsimp only at hSw
    go_simp
    try with_reducible rfl
  try simp only [Act.put, List.setIfInBounds_toArray, List.set_cons_zero, List.set_cons_succ]
  refine wpAnyH_take (i := 25) (oi := { dst := some 58, op := Op.move (Operand.tmp 57), type := 4, pos := "more.go:58", after := #[{ on := 24, ground := Ground.data }, { on := 17, ground := Ground.chain }], guard := none }) (v := ?_) rfl (by kernel_rfl) (by kernel_rfl) (by kernel_rfl) (fun _ _ _ h => h) (Or.inl ⟨by rfl, ?_⟩) (by assumption) ?_
  rotate_left
  · intro w hSw
    try dsimp only at hSw
    go_simp
    try with_reducible rfl
  try simp only [Act.put, List.setIfInBounds_toArray, List.set_cons_zero, List.set_cons_succ]
  refine wpAnyH_take (i := 26) (oi := { dst := some 59, op := Op.move (Operand.tmp 0), type := 22, pos := "more.go:58", after := #[{ on := 25, ground := Ground.guard }], guard := some (25, true) }) (v := ?_) rfl (by kernel_rfl) (by kernel_rfl) (by kernel_rfl) (fun _ _ _ h => h) (Or.inl ⟨by rfl, ?_⟩) (by assumption) ?_
  rotate_left
  · intro w hSw
    try dsimp only at hSw
    go_simp
    try with_reducible rfl
  try simp only [Act.put, List.setIfInBounds_toArray, List.set_cons_zero, List.set_cons_succ]
  refine wpAnyH_ready (rs := [27]) (by kernel_rfl) (by simp) ?_
  refine AllReadyH.cons (o := { dst := some 60, op := Op.call { callee := Callee.value (Operand.func 16), args := #[Operand.tmp 59], argTypes := #[22] }, type := 3, pos := "more.go:58", after := #[{ on := 26, ground := Ground.data }, { on := 25, ground := Ground.chain }, { on := 25, ground := Ground.guard }], guard := some (25, true) }) rfl (fun K hK => ?_) AllReadyH.nil
  go_simp
  have hcc := HC _ bw5
  with_reducible refine hcc.mono ?_
  clear hcc
  rintro e w6 ⟨rfl, hb⟩
  try go_wp2_with fail
  have kw6 := kw5.below hb
  have tw6 := tw5.below hb
  have gw6 := gw5.below hb
  have bw6 := bw5.trans (hb.mono bw5.size)
  refine hK.out _ _ ⟨hcv1 _ kw6, hcv2 _ _ _ _ tw6, hcv2 _ _ _ _ gw6⟩ (fun hHeld2 => ?_)
  clear hK K
  try simp only [Act.put, List.setIfInBounds_toArray, List.set_cons_zero, List.set_cons_succ]
  clear hT
  refine wpAnyH_take (i := 28) (oi := { dst := some 61, op := Op.binOp BinOp.neq 3 (Operand.tmp 60) (Operand.const (Value.int IntKind.i64 0)) 3, type := 4, pos := "more.go:58", after := #[{ on := 27, ground := Ground.data }, { on := 25, ground := Ground.guard }], guard := some (25, true) }) (v := ?_) rfl (by kernel_rfl) (by kernel_rfl) (by kernel_rfl) (fun _ _ _ h => h) (Or.inl ⟨by rfl, ?_⟩) (by assumption) ?_
  rotate_left
  · intro w hSw
    try dsimp only at hSw
    go_simp
    try with_reducible rfl
  try simp only [Act.put, List.setIfInBounds_toArray, List.set_cons_zero, List.set_cons_succ]
  refine wpAnyH_take (i := 29) (oi := { dst := some 62, op := Op.pick (Operand.tmp 58) (Operand.tmp 61) (Operand.const (Value.bool false)), type := 4, pos := "more.go:58", after := #[{ on := 25, ground := Ground.data }, { on := 28, ground := Ground.data }], guard := none }) (v := ?_) rfl (by kernel_rfl) (by kernel_rfl) (by kernel_rfl) (fun _ _ _ h => h) (Or.inl ⟨by rfl, ?_⟩) (by assumption) ?_
  rotate_left
  · intro w hSw
    try dsimp only at hSw
    go_simp
    try with_reducible rfl
  try simp only [Act.put, List.setIfInBounds_toArray, List.set_cons_zero, List.set_cons_succ]
  refine wpAnyH_take (i := 30) (oi := { dst := some 63, op := Op.move (Operand.tmp 62), type := 4, pos := "more.go:58", after := #[{ on := 29, ground := Ground.data }, { on := 27, ground := Ground.chain }], guard := none }) (v := ?_) rfl (by kernel_rfl) (by kernel_rfl) (by kernel_rfl) (fun _ _ _ h => h) (Or.inl ⟨by rfl, ?_⟩) (by assumption) ?_
  rotate_left
  · intro w hSw
    try dsimp only at hSw
    go_simp
    try with_reducible rfl
  try simp only [Act.put, List.setIfInBounds_toArray, List.set_cons_zero, List.set_cons_succ]
  refine wpAnyH_take (i := 31) (oi := { dst := some 64, op := Op.move (Operand.tmp 0), type := 22, pos := "more.go:58", after := #[{ on := 30, ground := Ground.guard }], guard := some (30, true) }) (v := ?_) rfl (by kernel_rfl) (by kernel_rfl) (by kernel_rfl) (fun _ _ _ h => h) (Or.inl ⟨by rfl, ?_⟩) (by assumption) ?_
  rotate_left
  · intro w hSw
    try dsimp only at hSw
    go_simp
    try with_reducible rfl
  try simp only [Act.put, List.setIfInBounds_toArray, List.set_cons_zero, List.set_cons_succ]
  refine wpAnyH_take (i := 32) (oi := { dst := some 65, op := Op.move (Operand.tmp 5), type := 3, pos := "more.go:58", after := #[{ on := 30, ground := Ground.guard }], guard := some (30, true) }) (v := ?_) rfl (by kernel_rfl) (by kernel_rfl) (by kernel_rfl) (fun _ _ _ h => h) (Or.inl ⟨by rfl, ?_⟩) (by assumption) ?_
  rotate_left
  · intro w hSw
    try dsimp only at hSw
    go_simp
    try with_reducible rfl
  try simp only [Act.put, List.setIfInBounds_toArray, List.set_cons_zero, List.set_cons_succ]
  refine wpAnyH_take (i := 33) (oi := { dst := some 66, op := Op.slice 22 (Operand.tmp 64) none (some (Operand.tmp 65)) none, type := 22, pos := "more.go:58", after := #[{ on := 31, ground := Ground.data }, { on := 32, ground := Ground.data }, { on := 30, ground := Ground.guard }], guard := some (30, true) }) (v := ?_) rfl (by kernel_rfl) (by kernel_rfl) (by kernel_rfl) (fun _ _ _ h => h) (Or.inl ⟨by rfl, ?_⟩) (by assumption) ?_
  rotate_left
  · intro w hSw
    try dsimp only at hSw
    go_simp
    try with_reducible rfl
  try simp only [Act.put, List.setIfInBounds_toArray, List.set_cons_zero, List.set_cons_succ]
  refine wpAnyH_ready (rs := [34]) (by kernel_rfl) (by simp) ?_
  refine AllReadyH.cons (o := { dst := some 67, op := Op.call { callee := Callee.value (Operand.func 16), args := #[Operand.tmp 66], argTypes := #[22] }, type := 3, pos := "more.go:58", after := #[{ on := 33, ground := Ground.data }, { on := 30, ground := Ground.chain }, { on := 30, ground := Ground.guard }], guard := some (30, true) }) rfl (fun K hK => ?_) AllReadyH.nil
  go_simp
  have hcc := HC2 _ bw6
  with_reducible refine hcc.mono ?_
  clear hcc
  rintro e w7 ⟨rfl, hb⟩
  try go_wp2_with fail
  have kw7 := kw6.below hb
  have tw7 := tw6.below hb
  have gw7 := gw6.below hb
  have bw7 := bw6.trans (hb.mono bw6.size)
  refine hK.out _ _ ⟨hcv1 _ kw7, hcv2 _ _ _ _ tw7, hcv2 _ _ _ _ gw7⟩ (fun hHeld2 => ?_)
  clear hK K
  try simp only [Act.put, List.setIfInBounds_toArray, List.set_cons_zero, List.set_cons_succ]
  refine wpAnyH_take (i := 35) (oi := { dst := some 68, op := Op.binOp BinOp.eql 3 (Operand.tmp 67) (Operand.const (Value.int IntKind.i64 (-1))) 3, type := 4, pos := "more.go:58", after := #[{ on := 34, ground := Ground.data }, { on := 30, ground := Ground.guard }], guard := some (30, true) }) (v := ?_) rfl (by kernel_rfl) (by kernel_rfl) (by kernel_rfl) (fun _ _ _ h => h) (Or.inl ⟨by rfl, ?_⟩) (by assumption) ?_
  rotate_left
  · intro w hSw
    try dsimp only at hSw
    go_simp
    try with_reducible rfl
  try simp only [Act.put, List.setIfInBounds_toArray, List.set_cons_zero, List.set_cons_succ]
  refine wpAnyH_take (i := 36) (oi := { dst := some 69, op := Op.pick (Operand.tmp 63) (Operand.tmp 68) (Operand.const (Value.bool false)), type := 4, pos := "more.go:58", after := #[{ on := 30, ground := Ground.data }, { on := 35, ground := Ground.data }], guard := none }) (v := ?_) rfl (by kernel_rfl) (by kernel_rfl) (by kernel_rfl) (fun _ _ _ h => h) (Or.inl ⟨by rfl, ?_⟩) (by assumption) ?_
  rotate_left
  · intro w hSw
    try dsimp only at hSw
    go_simp
    try with_reducible rfl
  try simp only [Act.put, List.setIfInBounds_toArray, List.set_cons_zero, List.set_cons_succ]
  refine wpAnyH_take (i := 37) (oi := { dst := some 70, op := Op.move (Operand.tmp 69), type := 4, pos := "more.go:58", after := #[{ on := 36, ground := Ground.data }, { on := 34, ground := Ground.chain }], guard := none }) (v := ?_) rfl (by kernel_rfl) (by kernel_rfl) (by kernel_rfl) (fun _ _ _ h => h) (Or.inl ⟨by rfl, ?_⟩) (by assumption) ?_
  rotate_left
  · intro w hSw
    try dsimp only at hSw
    go_simp
    try with_reducible rfl
  try simp only [Act.put, List.setIfInBounds_toArray, List.set_cons_zero, List.set_cons_succ]
  refine wpAnyH_take (i := 38) (oi := { dst := some 71, op := Op.move (Operand.tmp 0), type := 22, pos := "more.go:58", after := #[{ on := 37, ground := Ground.guard }], guard := some (37, true) }) (v := ?_) rfl (by kernel_rfl) (by kernel_rfl) (by kernel_rfl) (fun _ _ _ h => h) (Or.inl ⟨by rfl, ?_⟩) (by assumption) ?_
  rotate_left
  · intro w hSw
    try dsimp only at hSw
    go_simp
    try with_reducible rfl
  try simp only [Act.put, List.setIfInBounds_toArray, List.set_cons_zero, List.set_cons_succ]
  refine wpAnyH_take (i := 39) (oi := { dst := some 72, op := Op.convert 22 9 (Operand.tmp 71), type := 9, pos := "more.go:58", after := #[{ on := 38, ground := Ground.data }, { on := 37, ground := Ground.guard }], guard := some (37, true) }) (v := ?_) rfl (by kernel_rfl) (by kernel_rfl) (by kernel_rfl) (fun _ _ _ h => h) (Or.inl ⟨by rfl, ?_⟩) (by assumption) ?_
  rotate_left
  · intro w hSw
    try dsimp only at hSw
    go_simp
    try with_reducible rfl
  try simp only [Act.put, List.setIfInBounds_toArray, List.set_cons_zero, List.set_cons_succ]
  refine wpAnyH_ready (rs := [40]) (by kernel_rfl) (by simp) ?_
  refine AllReadyH.cons (o := { dst := some 73, op := Op.call { callee := Callee.value (Operand.func 18), args := #[Operand.tmp 72], argTypes := #[9] }, type := 3, pos := "more.go:58", after := #[{ on := 39, ground := Ground.data }, { on := 37, ground := Ground.chain }, { on := 37, ground := Ground.guard }], guard := some (37, true) }) rfl (fun K hK => ?_) AllReadyH.nil
  go_simp
  have hcc := HCn _ bw7
  with_reducible refine hcc.mono ?_
  clear hcc
  rintro e w8 ⟨rfl, hb⟩
  try go_wp2_with fail
  have kw8 := kw7.below hb
  have tw8 := tw7.below hb
  have gw8 := gw7.below hb
  have bw8 := bw7.trans (hb.mono bw7.size)
  refine hK.out _ _ ⟨hcv1 _ kw8, hcv2 _ _ _ _ tw8, hcv2 _ _ _ _ gw8⟩ (fun hHeld2 => ?_)
  clear hK K
  try simp only [Act.put, List.setIfInBounds_toArray, List.set_cons_zero, List.set_cons_succ]
  refine wpAnyH_take (i := 41) (oi := { dst := some 74, op := Op.binOp BinOp.geq 3 (Operand.tmp 73) (Operand.const (Value.int IntKind.i64 1)) 3, type := 4, pos := "more.go:58", after := #[{ on := 40, ground := Ground.data }, { on := 37, ground := Ground.guard }], guard := some (37, true) }) (v := ?_) rfl (by kernel_rfl) (by kernel_rfl) (by kernel_rfl) (fun _ _ _ h => h) (Or.inl ⟨by rfl, ?_⟩) (by assumption) ?_
  rotate_left
  · intro w hSw
    try dsimp only at hSw
    go_simp
    try with_reducible rfl
  try simp only [Act.put, List.setIfInBounds_toArray, List.set_cons_zero, List.set_cons_succ]
  refine wpAnyH_take (i := 42) (oi := { dst := some 75, op := Op.pick (Operand.tmp 70) (Operand.tmp 74) (Operand.const (Value.bool false)), type := 4, pos := "more.go:58", after := #[{ on := 37, ground := Ground.data }, { on := 41, ground := Ground.data }], guard := none }) (v := ?_) rfl (by kernel_rfl) (by kernel_rfl) (by kernel_rfl) (fun _ _ _ h => h) (Or.inl ⟨by rfl, ?_⟩) (by assumption) ?_
  rotate_left
  · intro w hSw
    try dsimp only at hSw
    go_simp
    try with_reducible rfl
  try simp only [Act.put, List.setIfInBounds_toArray, List.set_cons_zero, List.set_cons_succ]
  refine wpAnyH_take (i := 43) (oi := { dst := some 2, op := Op.assign (Operand.tmp 75), type := 4, pos := "more.go:58", after := #[{ on := 42, ground := Ground.data }, { on := 40, ground := Ground.chain }, { on := 0, ground := Ground.phase }, { on := 1, ground := Ground.phase }, { on := 2, ground := Ground.phase }, { on := 3, ground := Ground.phase }, { on := 4, ground := Ground.phase }, { on := 5, ground := Ground.phase }, { on := 6, ground := Ground.phase }, { on := 7, ground := Ground.phase }, { on := 8, ground := Ground.phase }, { on := 9, ground := Ground.phase }, { on := 10, ground := Ground.phase }, { on := 11, ground := Ground.phase }, { on := 12, ground := Ground.phase }, { on := 13, ground := Ground.phase }, { on := 14, ground := Ground.phase }, { on := 15, ground := Ground.phase }, { on := 16, ground := Ground.phase }, { on := 17, ground := Ground.phase }, { on := 18, ground := Ground.phase }, { on := 19, ground := Ground.phase }, { on := 20, ground := Ground.phase }, { on := 21, ground := Ground.phase }, { on := 22, ground := Ground.phase }, { on := 23, ground := Ground.phase }, { on := 24, ground := Ground.phase }, { on := 25, ground := Ground.phase }, { on := 26, ground := Ground.phase }, { on := 27, ground := Ground.phase }, { on := 28, ground := Ground.phase }, { on := 29, ground := Ground.phase }, { on := 30, ground := Ground.phase }, { on := 31, ground := Ground.phase }, { on := 32, ground := Ground.phase }, { on := 33, ground := Ground.phase }, { on := 34, ground := Ground.phase }, { on := 35, ground := Ground.phase }, { on := 36, ground := Ground.phase }, { on := 37, ground := Ground.phase }, { on := 38, ground := Ground.phase }, { on := 39, ground := Ground.phase }, { on := 40, ground := Ground.phase }, { on := 41, ground := Ground.phase }, { on := 42, ground := Ground.phase }], guard := none }) (v := ?_) rfl (by kernel_rfl) (by kernel_rfl) (by kernel_rfl) (fun _ _ _ h => h) (Or.inl ⟨by rfl, ?_⟩) (by assumption) ?_
  rotate_left
  · intro w hSw
    try dsimp only at hSw
    go_simp
    try with_reducible rfl
  try simp only [Act.put, List.setIfInBounds_toArray, List.set_cons_zero, List.set_cons_succ]
  refine wpAnyH_done (by kernel_rfl) ?_ _
  go_wp2
  go_ret
  exact ⟨rfl, bw8⟩
theorem first_any (p : Option Addr) (n c : Nat) (l : List Int) (w : World) (hp : p = none → n = 0 ∧ c = 0) (hO : Oct l) (hB : Bs w (.slice p n c) l) (hn : n ≤ 140737488351232) (hF : Forms w) :
    Calls Tryd.prog 10 #[.slice p n c] w fun e w' => e = .returned (.bool true) ∧ Below w.heap.size w w' := by
  by_cases h1 : 1000 < n
  · exact first_great p n c w hF hn h1
  rcases Nat.eq_zero_or_pos n with rfl | h0
  · exact first_none c p w hF
  have hB' := hB
  rcases hB with ⟨_, _, hv, _⟩ | ⟨b, off, cap, hv, _, _, _, _⟩
  · injection hv with _ h; omega
  · injection hv with hq _ _
    subst hq
    by_cases hz : (nxl l).2 = 0
    · exact first_bad _ n c l w hO hB' h0 (by omega) ((nxl_len hO).2.2.2 hz) hF
    · have hl := nxl_len hO
      exact first_good b off n c l w hO hB' (by omega) (nxl l).1 (nxl l).2.toNat (by apply Prod.ext; rfl; show _ = ((nxl l).2.toNat : Int); omega) (by omega) hF
end Go.Proofs.YtbajejhhmacflaaDoor.utf
