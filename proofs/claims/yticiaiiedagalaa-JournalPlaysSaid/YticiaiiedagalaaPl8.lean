/- Reopen. -/
import Derived.Test.YticiaiiedagalaaPl7
import Derived.Test.YticiaiiedagalaaPl5
namespace Go.Proofs.Yticiaiiedagalaa.dk
open Go.PlainAid Go.ChangeShapes Go.WideShapes Go.ChangeAt Go.RowKit

/-- What is laid down of what is pending and kept. -/
def keptOf (kb : List Bool) (l : List Int) (p : List (Nat × List Int)) : List Int := p.zipIdx.foldl (fun l x => if kb.getD x.2 false = true then lay l (x.1.1 * 64) x.1.2 else l) l
theorem keptOf_snoc (kb : List Bool) (l : List Int) (p : List (Nat × List Int)) (x : Nat × List Int) : keptOf kb l (p ++ [x]) = if kb.getD p.length false = true then lay (keptOf kb l p) (x.1 * 64) x.2 else keptOf kb l p := by
  unfold keptOf
  rw [List.zipIdx_append, List.foldl_append]
  simp
/-- What is read behind it. -/
def nowOf (laid now : List Int) (p : List (Nat × List Int)) : List Int := p.foldl (fun n x => lay n (x.1 * 64) (secOf laid x.1)) now
theorem nowOf_snoc (laid now : List Int) (p : List (Nat × List Int)) (x : Nat × List Int) : nowOf laid now (p ++ [x]) = lay (nowOf laid now p) (x.1 * 64) (secOf laid x.1) := by simp [nowOf]
def reopened (kb : List Bool) (m : Dk) : Dk := { m with laid := keptOf kb m.laid m.pend, now := nowOf (keptOf kb m.laid m.pend) m.now m.pend, pend := [], dead := false, limit := -1 }

/-- A slice of bools that lies below B. -/
def Kb (B : Nat) (W : World) (q : Option Addr) (n : Nat) (kb : List Bool) : Prop := kb.length = n ∧ (0 < n → ∃ b off, q = some ⟨b, off, none⟩ ∧ b < B ∧ ∀ i, i < n → W.cell? ⟨b, off + i, none⟩ = some (.bool (kb.getD i false)))
theorem Kb.below {B : Nat} {W W' : World} {q : Option Addr} {n : Nat} {kb : List Bool} (h : Kb B W q n kb) (hb : Below B W W') : Kb B W' q n kb := by
  refine ⟨h.1, fun h0 => ?_⟩
  obtain ⟨b, off, hq, hlt, hc⟩ := h.2 h0
  exact ⟨b, off, hq, hlt, fun i hi => (hb.cell (p := ⟨b, off + i, none⟩) hlt).trans (hc i hi)⟩

set_option maxRecDepth 100000 in
theorem Reopen_nil (w : World) (v : Value) :
    Calls Try.prog 17 #[.pointer none, v] w fun e w' => e = .returned (.tuple #[]) ∧ w = w' := by
  have HM := Lib.hid (made_nil w)
  go_enter Try.func17, Try.ntmps17
  go_wp2_with (go_at_call 44; with_reducible refine HM.out.mono ?_; rintro e w' ⟨rfl, rfl⟩)
  refine bodyPost_ret (results_none rfl _ _ _) rfl ?_
  exact ⟨rfl, rfl⟩

def ReopenPost (B D L N : Nat) (P : Value) (m : Dk) (kb : List Bool) (w : World) (e : Ending) (w' : World) : Prop := e = .returned (.tuple #[]) ∧ DiskAt B D L N (.slice none 0 0) (reopened kb m) w' ∧ Bf B (Xd D L N P) w w'

theorem DiskAt.last {B D L N : Nat} {P : Value} {m : Dk} {W : World} (h : DiskAt B D L N P m W) :
    DiskAt B D L N (.slice none 0 0) { m with pend := [], dead := false, limit := -1 } (((W.setCell ⟨D, 2, none⟩ (.slice none 0 0)).setCell ⟨D, 4, none⟩ (.bool false)).setCell ⟨D, 3, none⟩ (.int .i64 (-1))) ∧
    Bf B (Xd D L N P) W (((W.setCell ⟨D, 2, none⟩ (.slice none 0 0)).setCell ⟨D, 4, none⟩ (.bool false)).setCell ⟨D, 3, none⟩ (.int .i64 (-1))) := by
  obtain ⟨h1, b1, g1⟩ := h.clear_pend
  obtain ⟨h2, b2, g2⟩ := h1.turn (m' := { m with pend := [], dead := false }) 4 (.bool false) rfl rfl rfl rfl rfl h.lim h.wr0 h.wr1 h.lim1
  obtain ⟨h3, b3, g3⟩ := h2.turn (m' := { m with pend := [], dead := false, limit := -1 }) 3 (.int .i64 (-1)) rfl rfl rfl rfl rfl (show (-1 : Int) ≤ -1 by omega) h.wr0 h.wr1 (show (-1 : Int) ≤ 9223372036854775807 by omega)
  exact ⟨h3, ((Bf.one b1 g1 (.inl rfl)).trans (Bf.one b2 g2 (.inl rfl))).trans (Bf.one b3 g3 (.inl rfl))⟩

set_option maxHeartbeats 4000000 in
set_option maxRecDepth 20000 in
theorem Reopen_any {B D L N : Nat} {P : Value} {m : Dk} {w : World} (h : DiskAt B D L N P m w) (q : Option Addr) (kn kc : Nat) (kb : List Bool) (hkb : Kb B w q kn kb) (hkn : kn ≤ 140737488351232) (ep : m.pend.length ≤ 1000000) :
    Calls Try.prog 17 #[.pointer (some ⟨D, 0, none⟩), .slice q kn kc] w fun e w' => ReopenPost B D L N P m kb w e w' := by
  have HM := Lib.hid (made_any h)
  have HKB := Lib.hid hkb
  have hn2 := h.n2
  have c2 : w.cell? ⟨D, 2, none⟩ = some P := by rw [h.cell 2]; rfl
  obtain ⟨pp, pc, hPe⟩ := h.slice
  subst hPe
  have H1 := Lib.hid h
  clear h hkb
  go_enter Try.func17, Try.ntmps17
  go_wp2_with (go_at_call 44; with_reducible refine HM.out.mono ?_; rintro e w' ⟨rfl, rfl⟩)
  clear HM
  go_loopw [16] (fun i wr => ∃ k : Nat, i = .int .i64 k ∧ k ≤ m.pend.length ∧ Hid (DiskAt B D L N (.slice pp m.pend.length pc) { m with laid := keptOf kb m.laid (m.pend.take k) } wr) ∧ Bf B (Xd D L N (.slice pp m.pend.length pc)) w wr) (fun i _ => m.pend.length - (intOf i).toNat)
  case atStart => exact ⟨0, rfl, Nat.zero_le _, H1.out, Bf.refl _ _ _⟩
  case round =>
    clear c2 H1
    obtain ⟨k, rfl, hk, HK, hb⟩ := hrel
    by_cases hkl : k < m.pend.length
    · have hd2 : decide ((k : Int) < m.pend.length) = true := decide_eq_true (by omega)
      obtain ⟨⟨i, b⟩, hx⟩ : ∃ x, x = m.pend[k]'hkl := ⟨_, rfl⟩
      obtain ⟨g, rfl⟩ : ∃ g, pp = some ⟨g, 0, none⟩ := by
        rcases HK.out.hP.2 with ⟨hv, h0⟩ | ⟨g, cap, cur, hv, _⟩
        · exact absurd h0 (by show m.pend.length ≠ 0; omega)
        · injection hv with ha _ _; exact ⟨g, ha⟩
      have hrg : wr.rangeAt g (k * 65) (wcells (i, b)) := by rw [hx]; exact DiskAt.range (m := { m with laid := keptOf kb m.laid (m.pend.take k) }) HK.out k hkl
      have hib : i < m.n ∧ b.length = 64 := by
        have := HK.out.pw _ (List.getElem_mem hkl)
        rw [← hx] at this
        exact this
      have hKs : Hid (∀ l, keptOf kb l (m.pend.take (k + 1)) = if kb.getD k false = true then lay (keptOf kb l (m.pend.take k)) (i * 64) b else keptOf kb l (m.pend.take k)) := fun l => by
        have e : m.pend.take (k + 1) = m.pend.take k ++ [(i, b)] := by rw [hx]; exact List.take_succ_eq_append_getElem hkl
        have := keptOf_snoc kb l (m.pend.take k) (i, b)
        rw [← e, List.length_take, Nat.min_eq_left hk] at this
        exact this
      have hwl : (wcells (i, b)).length = 65 := by unfold wcells; rw [List.length_cons, bcells_length, hib.2]
      have hwo := wcells_one (i, b)
      have hw0 : (wcells (i, b)).toArray[0]? = some (.int .i64 (i : Int)) := rfl
      have hw1 : ∀ j, (bcells b)[j]? = (wcells (i, b)).toArray[1 + j]? := fun j => by rw [List.getElem?_toArray, Nat.add_comm]; rfl
      have hlt := HK.out.lt
      clear hx
      generalize wcells (i, b) = wc at hrg hwl hwo hw0 hw1
      obtain ⟨za, hza, hzr⟩ := zero_some
      obtain ⟨w3, hst, hG3, hb3, hs3⟩ := store_new wr za wc hza hwl hwo
      have K3 := Lib.hid (HK.out.below hb3)
      have HG3 := Lib.hid hG3
      have HB3 := Lib.hid (hb.trans (Bf.new hb3 HK.out.base))
      have hKB3 := HKB.out.below HB3.out.below
      clear hb3 hG3
      have hcase : (k < kn ∧ kb.getD k false = true) ∨ ¬ (kb.getD k false = true) := by
        by_cases hkk : kb.getD k false = true
        · left
          refine ⟨?_, hkk⟩
          rcases Nat.lt_or_ge k kb.length with h | h
          · rw [hKB3.1] at h; exact h
          · rw [List.getD_eq_getElem?_getD, List.getElem?_eq_none h] at hkk; cases hkk
        · exact .inr hkk
      rcases hcase with ⟨hkn1, hkk⟩ | hkk
      · obtain ⟨qb, qo, rfl, hqB, hqc⟩ := hKB3.2 (by omega)
        have hqk : w3.cell? ⟨qb, qo + k, none⟩ = some (.bool true) := by rw [hqc k hkn1, hkk]
        have dk : decide ((k : Int) < kn) = true := decide_eq_true (by omega)
        clear hqc hKB3
        go_wp2_with (refine wpList_load_mid rfl 90 _ rfl g (k * 65) rfl wc _ hrg Try.underlying90 rfl (by rw [size_write, hwl]) ?_)
        have K3d := Lib.hid (K3.out.below ((Below.refl _ _).drew))
        have hGd : w3.drew.heap[wr.heap.size]? = some (.cells wc.toArray 90 (0, 0)) := HG3.out
        have c0 : w3.drew.cell? ⟨D, 0, none⟩ = some (.slice (some ⟨L, 0, none⟩) (m.n * 64) (m.n * 64)) := by rw [K3d.out.cell 0]; rfl
        have cG : w3.drew.cell? ⟨wr.heap.size, 0, none⟩ = some (.int .i64 (i : Int)) := by rw [cell_of_row _ _ _ _ _ _ hGd, hw0]
        refine wp_region_held_drew (S := fun W => W.cell? ⟨D, 0, none⟩ = some (.slice (some ⟨L, 0, none⟩) (m.n * 64) (m.n * 64)) ∧ W.cell? ⟨wr.heap.size, 0, none⟩ = some (.int .i64 (i : Int))) (by kernel_rfl) ⟨c0, cG⟩ (fun hHeld => ?_)
        have hT : (fun W : World => W.cell? ⟨D, 0, none⟩ = some (.slice (some ⟨L, 0, none⟩) (m.n * 64) (m.n * 64)) ∧ W.cell? ⟨wr.heap.size, 0, none⟩ = some (.int .i64 (i : Int))) w3.drew := ⟨c0, cG⟩
        clear hHeld
        refine wpAnyH_take (i := 0) (oi := { dst := some 31, op := Op.move (Operand.tmp 0), type := 25, pos := "disk.go:124", after := #[], guard := none }) (v := ?_) rfl (by kernel_rfl) (by kernel_rfl) (by kernel_rfl) (fun _ _ _ h => h) (Or.inl ⟨by rfl, ?_⟩) (by assumption) ?_
        rotate_left
        · intro w hSw
          try dsimp only at hSw
          go_simp
          try with_reducible rfl
        try simp only [Act.put, List.setIfInBounds_toArray, List.set_cons_zero, List.set_cons_succ]
        refine wpAnyH_take (i := 1) (oi := { dst := some 32, op := Op.nilCheck (Operand.tmp 31), type := 0, pos := "disk.go:124", after := #[{ on := 0, ground := Ground.data }], guard := none }) (v := ?_) rfl (by kernel_rfl) (by kernel_rfl) (by kernel_rfl) (fun _ _ _ h => h) (Or.inl ⟨by rfl, ?_⟩) (by assumption) ?_
        rotate_left
        · intro w hSw
          try dsimp only at hSw
          go_simp
          try with_reducible rfl
        try simp only [Act.put, List.setIfInBounds_toArray, List.set_cons_zero, List.set_cons_succ]
        refine wpAnyH_take (i := 2) (oi := { dst := some 33, op := Op.fieldAddr 65 (Operand.tmp 32) 0, type := 0, pos := "disk.go:124", after := #[{ on := 1, ground := Ground.data }], guard := none }) (v := ?_) rfl (by kernel_rfl) (by kernel_rfl) (by kernel_rfl) (fun _ _ _ h => h) (Or.inl ⟨by rfl, ?_⟩) (by assumption) ?_
        rotate_left
        · intro w hSw
          try dsimp only at hSw
          go_simp
          try with_reducible rfl
        try simp only [Act.put, List.setIfInBounds_toArray, List.set_cons_zero, List.set_cons_succ]
        refine wpAnyH_take (i := 3) (oi := { dst := some 34, op := Op.load 45 (Operand.tmp 33), type := 45, pos := "disk.go:124", after := #[{ on := 2, ground := Ground.data }], guard := none }) (v := ?_) rfl (by kernel_rfl) (by kernel_rfl) (by kernel_rfl) (fun _ _ _ h => h) (Or.inl ⟨by rfl, ?_⟩) (by assumption) ?_
        rotate_left
        · intro w hSw
          try dsimp only at hSw
          go_simp
          try with_reducible rfl
        try simp only [Act.put, List.setIfInBounds_toArray, List.set_cons_zero, List.set_cons_succ]
        refine wpAnyH_take (i := 4) (oi := { dst := some 35, op := Op.fieldAddr 90 (Operand.tmp 5) 0, type := 0, pos := "disk.go:124", after := #[], guard := none }) (v := ?_) rfl (by kernel_rfl) (by kernel_rfl) (by kernel_rfl) (fun _ _ _ h => h) (Or.inl ⟨by rfl, ?_⟩) (by assumption) ?_
        rotate_left
        · intro w hSw
          try dsimp only at hSw
          go_simp
          try with_reducible rfl
        try simp only [Act.put, List.setIfInBounds_toArray, List.set_cons_zero, List.set_cons_succ]
        refine wpAnyH_take (i := 5) (oi := { dst := some 36, op := Op.load 3 (Operand.tmp 35), type := 3, pos := "disk.go:124", after := #[{ on := 4, ground := Ground.data }], guard := none }) (v := ?_) rfl (by kernel_rfl) (by kernel_rfl) (by kernel_rfl) (fun _ _ _ h => h) (Or.inl ⟨by rfl, ?_⟩) (by assumption) ?_
        rotate_left
        · intro w hSw
          try dsimp only at hSw
          go_simp
          try with_reducible rfl
        try simp only [Act.put, List.setIfInBounds_toArray, List.set_cons_zero, List.set_cons_succ]
        refine wpAnyH_take (i := 7) (oi := { dst := some 38, op := Op.fieldAddr 90 (Operand.tmp 5) 1, type := 0, pos := "disk.go:124", after := #[], guard := none }) (v := ?_) rfl (by kernel_rfl) (by kernel_rfl) (by kernel_rfl) (fun _ _ _ h => h) (Or.inl ⟨by rfl, ?_⟩) (by assumption) ?_
        rotate_left
        · intro w hSw
          try dsimp only at hSw
          go_simp
          try with_reducible rfl
        try simp only [Act.put, List.setIfInBounds_toArray, List.set_cons_zero, List.set_cons_succ]
        refine wpAnyH_take (i := 8) (oi := { dst := some 39, op := Op.slice 88 (Operand.tmp 38) none none none, type := 45, pos := "disk.go:124", after := #[{ on := 7, ground := Ground.data }], guard := none }) (v := ?_) rfl (by kernel_rfl) (by kernel_rfl) (by kernel_rfl) (fun _ _ _ h => h) (Or.inl ⟨by rfl, ?_⟩) (by assumption) ?_
        rotate_left
        · intro w hSw
          try dsimp only at hSw
          go_simp
          try with_reducible rfl
        try simp only [Act.put, List.setIfInBounds_toArray, List.set_cons_zero, List.set_cons_succ]
        refine wpAnyH_ready (rs := [6]) (by kernel_rfl) (by simp) ?_
        refine AllReadyH.cons (o := { dst := some 37, op := Op.call { callee := Callee.value (Operand.func 45), args := #[Operand.tmp 34, Operand.tmp 36], argTypes := #[45, 3] }, type := 45, pos := "disk.go:124", after := #[{ on := 3, ground := Ground.data }, { on := 5, ground := Ground.data }], guard := none }) rfl (fun K hK => ?_) AllReadyH.nil
        go_simp
        have hsec := sector_any L m.n i w3.drew hib.1 hn2
        with_reducible refine hsec.mono ?_
        clear hsec
        rintro e w' ⟨rfl, rfl⟩
        try go_wp2_with fail
        refine hK.out _ _ ⟨c0, cG⟩ (fun _ => ?_)
        clear hK K
        try simp only [Act.put, List.setIfInBounds_toArray, List.set_cons_zero, List.set_cons_succ]
        refine wpAnyH_ready (rs := [9]) (by kernel_rfl) (by simp) ?_
        refine AllReadyH.cons (o := { dst := some 40, op := Op.call { callee := Callee.builtin Builtin.copy, args := #[Operand.tmp 37, Operand.tmp 39], argTypes := #[45, 45] }, type := 3, pos := "disk.go:124", after := #[{ on := 6, ground := Ground.data }, { on := 8, ground := Ground.data }, { on := 6, ground := Ground.chain }], guard := none }) rfl (fun K hK => ?_) AllReadyH.nil
        obtain ⟨h4, hb4, hf4⟩ := K3d.out.lay_laid (i * 64) b (by rw [hib.2]; show i * 64 + 64 ≤ m.n * 64; omega)
        refine step_copy_row rfl _ _ rfl L (i * 64) 64 64 ⟨wr.heap.size, 1, none⟩ 64 64 rfl rfl _ b K3d.out.hL (by rw [hib.2]; rfl) (fun j v hj => ?_) (by rw [hib.2, K3d.out.ll]; show i * 64 + 64 ≤ m.n * 64; omega) ?_
        · rw [add_off, cell_of_row _ _ _ _ _ _ hGd, ← hw1]
          exact hj
        refine hK.out _ _ ⟨by rw [h4.cell 0]; rfl, by rw [← cG]; exact World.cell?_of_block (hf4 _ (show wr.heap.size ≠ L by omega))⟩ (fun _ => ?_)
        clear hK K hT
        try simp only [Act.put, List.setIfInBounds_toArray, List.set_cons_zero, List.set_cons_succ]
        refine wpAnyH_done (by kernel_rfl) ?_ _
        have H4 : Hid (DiskAt B D L N (.slice (some ⟨g, 0, none⟩) m.pend.length pc) { m with laid := keptOf kb m.laid (m.pend.take (k + 1)) } (w3.drew.setRow L (bcells (lay (keptOf kb m.laid (m.pend.take k)) (i * 64) b)).toArray)) := by
          rw [hKs.out, if_pos hkk]
          exact h4
        have HB4 := Lib.hid (HB3.out.trans ((Bf.new ((Below.refl w3.heap.size w3).drew) K3.out.base).trans (Bf.one hb4 hf4 (.inr (.inl rfl)))))
        clear h4 hb4 hf4 c0 cG hGd
        go_wp2
        constructor
        · exact ⟨k + 1, by go_num, by omega, H4.out, HB4.out⟩
        · show m.pend.length - ((k : Int) + 1).toNat < m.pend.length - (k : Int).toNat
          omega
      · have H4 : Hid (DiskAt B D L N (.slice (some ⟨g, 0, none⟩) m.pend.length pc) { m with laid := keptOf kb m.laid (m.pend.take (k + 1)) } w3) := by
          rw [hKs.out, if_neg hkk]
          exact K3.out
        have hkf : kb.getD k false = false := by simpa using hkk
        by_cases hkn1 : k < kn
        · obtain ⟨qb, qo, rfl, hqB, hqc⟩ := hKB3.2 (by omega)
          have hqk : w3.cell? ⟨qb, qo + k, none⟩ = some (.bool false) := by rw [hqc k hkn1, hkf]
          have dk : decide ((k : Int) < kn) = true := decide_eq_true (by omega)
          clear hqc hKB3 hkk hkf
          go_wp2_with (refine wpList_load_mid rfl 90 _ rfl g (k * 65) rfl wc _ hrg Try.underlying90 rfl (by rw [size_write, hwl]) ?_)
          constructor
          · exact ⟨k + 1, by go_num, by omega, H4.out, HB3.out⟩
          · show m.pend.length - ((k : Int) + 1).toNat < m.pend.length - (k : Int).toNat
            omega
        · have dk : decide ((k : Int) < kn) = false := decide_eq_false (by omega)
          clear hKB3 hkk hkf
          go_wp2_with (refine wpList_load_mid rfl 90 _ rfl g (k * 65) rfl wc _ hrg Try.underlying90 rfl (by rw [size_write, hwl]) ?_)
          constructor
          · exact ⟨k + 1, by go_num, by omega, H4.out, HB3.out⟩
          · show m.pend.length - ((k : Int) + 1).toNat < m.pend.length - (k : Int).toNat
            omega
    · have hke : k = m.pend.length := by omega
      have hd2 : decide ((k : Int) < m.pend.length) = false := decide_eq_false (by omega)
      have H2 : Hid (DiskAt B D L N (.slice pp m.pend.length pc) { m with laid := keptOf kb m.laid m.pend } wr) := by
        have := HK.out
        rw [hke, List.take_length] at this
        exact this
      have HB2 := Lib.hid hb
      have c2 : wr.cell? ⟨D, 2, none⟩ = some (.slice pp m.pend.length pc) := by rw [H2.out.cell 2]; rfl
      clear HK hke hb HKB
      go_wp2
      obtain ⟨l1, hl1⟩ : ∃ l1, l1 = keptOf kb m.laid m.pend := ⟨_, rfl⟩
      have HR : Hid (reopened kb m = { m with laid := l1, now := nowOf l1 m.now m.pend, pend := [], dead := false, limit := -1 }) := by rw [hl1]; rfl
      rw [← hl1] at H2
      clear hl1
      go_loopw [47] (fun i wq => ∃ k : Nat, i = .int .i64 k ∧ k ≤ m.pend.length ∧ Hid (DiskAt B D L N (.slice pp m.pend.length pc) { m with laid := l1, now := nowOf l1 m.now (m.pend.take k) } wq) ∧ Bf B (Xd D L N (.slice pp m.pend.length pc)) w wq) (fun i _ => m.pend.length - (intOf i).toNat)
      case atStart => exact ⟨0, rfl, Nat.zero_le _, H2.out, HB2.out⟩
      case round =>
        clear c2 H2 HB2 hkl hd2 hk
        obtain ⟨k, rfl, hk, HK, hb⟩ := hrel
        by_cases hkl : k < m.pend.length
        · have hd2 : decide ((k : Int) < m.pend.length) = true := decide_eq_true (by omega)
          obtain ⟨⟨i, b⟩, hx⟩ : ∃ x, x = m.pend[k]'hkl := ⟨_, rfl⟩
          obtain ⟨g, rfl⟩ : ∃ g, pp = some ⟨g, 0, none⟩ := by
            rcases HK.out.hP.2 with ⟨hv, h0⟩ | ⟨g, cap, cur, hv, _⟩
            · exact absurd h0 (by show m.pend.length ≠ 0; omega)
            · injection hv with ha _ _; exact ⟨g, ha⟩
          have hrg : wr.rangeAt g (k * 65) (wcells (i, b)) := by rw [hx]; exact DiskAt.range (m := { m with laid := l1, now := nowOf l1 m.now (m.pend.take k) }) HK.out k hkl
          have hib : i < m.n ∧ b.length = 64 := by
            have := HK.out.pw _ (List.getElem_mem hkl)
            rw [← hx] at this
            exact this
          have hKs : Hid (nowOf l1 m.now (m.pend.take (k + 1)) = lay (nowOf l1 m.now (m.pend.take k)) (i * 64) (secOf l1 i)) := by
            have e : m.pend.take (k + 1) = m.pend.take k ++ [(i, b)] := by rw [hx]; exact List.take_succ_eq_append_getElem hkl
            rw [e, nowOf_snoc]
            trivial
          have hwl : (wcells (i, b)).length = 65 := by unfold wcells; rw [List.length_cons, bcells_length, hib.2]
          have hwo := wcells_one (i, b)
          have hw0 : (wcells (i, b)).toArray[0]? = some (.int .i64 (i : Int)) := rfl
          have hlt := HK.out.lt
          clear hx
          generalize wcells (i, b) = wc at hrg hwl hwo hw0
          obtain ⟨za, hza, hzr⟩ := zero_some
          obtain ⟨w3, hst, hG3, hb3, hs3⟩ := store_new wr za wc hza hwl hwo
          have K3 := Lib.hid (HK.out.below hb3)
          have HG3 := Lib.hid hG3
          have HB3 := Lib.hid (hb.trans (Bf.new hb3 HK.out.base))
          clear hb3 hG3
          go_wp2_with (refine wpList_load_mid rfl 90 _ rfl g (k * 65) rfl wc _ hrg Try.underlying90 rfl (by rw [size_write, hwl]) ?_)
          have K3d := Lib.hid (K3.out.below ((Below.refl _ _).drew))
          have hGd : w3.drew.heap[wr.heap.size]? = some (.cells wc.toArray 90 (0, 0)) := HG3.out
          have c1 : w3.drew.cell? ⟨D, 1, none⟩ = some (.slice (some ⟨N, 0, none⟩) (m.n * 64) (m.n * 64)) := by rw [K3d.out.cell 1]; rfl
          have c0 : w3.drew.cell? ⟨D, 0, none⟩ = some (.slice (some ⟨L, 0, none⟩) (m.n * 64) (m.n * 64)) := by rw [K3d.out.cell 0]; rfl
          have cG : w3.drew.cell? ⟨wr.heap.size, 0, none⟩ = some (.int .i64 (i : Int)) := by rw [cell_of_row _ _ _ _ _ _ hGd, hw0]
          refine wp_region_held_drew (S := fun W => W.cell? ⟨D, 1, none⟩ = some (.slice (some ⟨N, 0, none⟩) (m.n * 64) (m.n * 64)) ∧ W.cell? ⟨D, 0, none⟩ = some (.slice (some ⟨L, 0, none⟩) (m.n * 64) (m.n * 64)) ∧ W.cell? ⟨wr.heap.size, 0, none⟩ = some (.int .i64 (i : Int))) (by kernel_rfl) ⟨c1, c0, cG⟩ (fun hHeld => ?_)
          have hT : (fun W : World => W.cell? ⟨D, 1, none⟩ = some (.slice (some ⟨N, 0, none⟩) (m.n * 64) (m.n * 64)) ∧ W.cell? ⟨D, 0, none⟩ = some (.slice (some ⟨L, 0, none⟩) (m.n * 64) (m.n * 64)) ∧ W.cell? ⟨wr.heap.size, 0, none⟩ = some (.int .i64 (i : Int))) w3.drew := ⟨c1, c0, cG⟩
          clear hHeld
          refine wpAnyH_take (i := 0) (oi := { dst := some 51, op := Op.move (Operand.tmp 0), type := 25, pos := "disk.go:128", after := #[], guard := none }) (v := ?_) rfl (by kernel_rfl) (by kernel_rfl) (by kernel_rfl) (fun _ _ _ h => h) (Or.inl ⟨by rfl, ?_⟩) (by assumption) ?_
          rotate_left
          · intro w hSw
            try dsimp only at hSw
            go_simp
            try with_reducible rfl
          try simp only [Act.put, List.setIfInBounds_toArray, List.set_cons_zero, List.set_cons_succ]
          refine wpAnyH_take (i := 1) (oi := { dst := some 52, op := Op.nilCheck (Operand.tmp 51), type := 0, pos := "disk.go:128", after := #[{ on := 0, ground := Ground.data }], guard := none }) (v := ?_) rfl (by kernel_rfl) (by kernel_rfl) (by kernel_rfl) (fun _ _ _ h => h) (Or.inl ⟨by rfl, ?_⟩) (by assumption) ?_
          rotate_left
          · intro w hSw
            try dsimp only at hSw
            go_simp
            try with_reducible rfl
          try simp only [Act.put, List.setIfInBounds_toArray, List.set_cons_zero, List.set_cons_succ]
          refine wpAnyH_take (i := 2) (oi := { dst := some 53, op := Op.fieldAddr 65 (Operand.tmp 52) 1, type := 0, pos := "disk.go:128", after := #[{ on := 1, ground := Ground.data }], guard := none }) (v := ?_) rfl (by kernel_rfl) (by kernel_rfl) (by kernel_rfl) (fun _ _ _ h => h) (Or.inl ⟨by rfl, ?_⟩) (by assumption) ?_
          rotate_left
          · intro w hSw
            try dsimp only at hSw
            go_simp
            try with_reducible rfl
          try simp only [Act.put, List.setIfInBounds_toArray, List.set_cons_zero, List.set_cons_succ]
          refine wpAnyH_take (i := 3) (oi := { dst := some 54, op := Op.load 45 (Operand.tmp 53), type := 45, pos := "disk.go:128", after := #[{ on := 2, ground := Ground.data }], guard := none }) (v := ?_) rfl (by kernel_rfl) (by kernel_rfl) (by kernel_rfl) (fun _ _ _ h => h) (Or.inl ⟨by rfl, ?_⟩) (by assumption) ?_
          rotate_left
          · intro w hSw
            try dsimp only at hSw
            go_simp
            try with_reducible rfl
          try simp only [Act.put, List.setIfInBounds_toArray, List.set_cons_zero, List.set_cons_succ]
          refine wpAnyH_take (i := 4) (oi := { dst := some 55, op := Op.fieldAddr 90 (Operand.tmp 7) 0, type := 0, pos := "disk.go:128", after := #[], guard := none }) (v := ?_) rfl (by kernel_rfl) (by kernel_rfl) (by kernel_rfl) (fun _ _ _ h => h) (Or.inl ⟨by rfl, ?_⟩) (by assumption) ?_
          rotate_left
          · intro w hSw
            try dsimp only at hSw
            go_simp
            try with_reducible rfl
          try simp only [Act.put, List.setIfInBounds_toArray, List.set_cons_zero, List.set_cons_succ]
          refine wpAnyH_take (i := 5) (oi := { dst := some 56, op := Op.load 3 (Operand.tmp 55), type := 3, pos := "disk.go:128", after := #[{ on := 4, ground := Ground.data }], guard := none }) (v := ?_) rfl (by kernel_rfl) (by kernel_rfl) (by kernel_rfl) (fun _ _ _ h => h) (Or.inl ⟨by rfl, ?_⟩) (by assumption) ?_
          rotate_left
          · intro w hSw
            try dsimp only at hSw
            go_simp
            try with_reducible rfl
          try simp only [Act.put, List.setIfInBounds_toArray, List.set_cons_zero, List.set_cons_succ]
          refine wpAnyH_take (i := 7) (oi := { dst := some 58, op := Op.move (Operand.tmp 0), type := 25, pos := "disk.go:128", after := #[], guard := none }) (v := ?_) rfl (by kernel_rfl) (by kernel_rfl) (by kernel_rfl) (fun _ _ _ h => h) (Or.inl ⟨by rfl, ?_⟩) (by assumption) ?_
          rotate_left
          · intro w hSw
            try dsimp only at hSw
            go_simp
            try with_reducible rfl
          try simp only [Act.put, List.setIfInBounds_toArray, List.set_cons_zero, List.set_cons_succ]
          refine wpAnyH_take (i := 8) (oi := { dst := some 59, op := Op.nilCheck (Operand.tmp 58), type := 0, pos := "disk.go:128", after := #[{ on := 7, ground := Ground.data }], guard := none }) (v := ?_) rfl (by kernel_rfl) (by kernel_rfl) (by kernel_rfl) (fun _ _ _ h => h) (Or.inl ⟨by rfl, ?_⟩) (by assumption) ?_
          rotate_left
          · intro w hSw
            try dsimp only at hSw
            go_simp
            try with_reducible rfl
          try simp only [Act.put, List.setIfInBounds_toArray, List.set_cons_zero, List.set_cons_succ]
          refine wpAnyH_take (i := 9) (oi := { dst := some 60, op := Op.fieldAddr 65 (Operand.tmp 59) 0, type := 0, pos := "disk.go:128", after := #[{ on := 8, ground := Ground.data }], guard := none }) (v := ?_) rfl (by kernel_rfl) (by kernel_rfl) (by kernel_rfl) (fun _ _ _ h => h) (Or.inl ⟨by rfl, ?_⟩) (by assumption) ?_
          rotate_left
          · intro w hSw
            try dsimp only at hSw
            go_simp
            try with_reducible rfl
          try simp only [Act.put, List.setIfInBounds_toArray, List.set_cons_zero, List.set_cons_succ]
          refine wpAnyH_take (i := 10) (oi := { dst := some 61, op := Op.load 45 (Operand.tmp 60), type := 45, pos := "disk.go:128", after := #[{ on := 9, ground := Ground.data }], guard := none }) (v := ?_) rfl (by kernel_rfl) (by kernel_rfl) (by kernel_rfl) (fun _ _ _ h => h) (Or.inl ⟨by rfl, ?_⟩) (by assumption) ?_
          rotate_left
          · intro w hSw
            try dsimp only at hSw
            go_simp
            try with_reducible rfl
          try simp only [Act.put, List.setIfInBounds_toArray, List.set_cons_zero, List.set_cons_succ]
          refine wpAnyH_take (i := 11) (oi := { dst := some 62, op := Op.fieldAddr 90 (Operand.tmp 7) 0, type := 0, pos := "disk.go:128", after := #[], guard := none }) (v := ?_) rfl (by kernel_rfl) (by kernel_rfl) (by kernel_rfl) (fun _ _ _ h => h) (Or.inl ⟨by rfl, ?_⟩) (by assumption) ?_
          rotate_left
          · intro w hSw
            try dsimp only at hSw
            go_simp
            try with_reducible rfl
          try simp only [Act.put, List.setIfInBounds_toArray, List.set_cons_zero, List.set_cons_succ]
          refine wpAnyH_take (i := 12) (oi := { dst := some 63, op := Op.load 3 (Operand.tmp 62), type := 3, pos := "disk.go:128", after := #[{ on := 11, ground := Ground.data }], guard := none }) (v := ?_) rfl (by kernel_rfl) (by kernel_rfl) (by kernel_rfl) (fun _ _ _ h => h) (Or.inl ⟨by rfl, ?_⟩) (by assumption) ?_
          rotate_left
          · intro w hSw
            try dsimp only at hSw
            go_simp
            try with_reducible rfl
          try simp only [Act.put, List.setIfInBounds_toArray, List.set_cons_zero, List.set_cons_succ]
          refine wpAnyH_ready (rs := [6]) (by kernel_rfl) (by simp) ?_
          refine AllReadyH.cons (o := { dst := some 57, op := Op.call { callee := Callee.value (Operand.func 45), args := #[Operand.tmp 54, Operand.tmp 56], argTypes := #[45, 3] }, type := 45, pos := "disk.go:128", after := #[{ on := 3, ground := Ground.data }, { on := 5, ground := Ground.data }], guard := none }) rfl (fun K hK => ?_) AllReadyH.nil
          go_simp
          have hsec := sector_any N m.n i w3.drew hib.1 hn2
          with_reducible refine hsec.mono ?_
          clear hsec
          rintro e w' ⟨rfl, rfl⟩
          try go_wp2_with fail
          refine hK.out _ _ ⟨c1, c0, cG⟩ (fun _ => ?_)
          clear hK K
          try simp only [Act.put, List.setIfInBounds_toArray, List.set_cons_zero, List.set_cons_succ]
          refine wpAnyH_ready (rs := [13]) (by kernel_rfl) (by simp) ?_
          refine AllReadyH.cons (o := { dst := some 64, op := Op.call { callee := Callee.value (Operand.func 45), args := #[Operand.tmp 61, Operand.tmp 63], argTypes := #[45, 3] }, type := 45, pos := "disk.go:128", after := #[{ on := 10, ground := Ground.data }, { on := 12, ground := Ground.data }, { on := 6, ground := Ground.chain }], guard := none }) rfl (fun K hK => ?_) AllReadyH.nil
          go_simp
          have hsec := sector_any L m.n i w3.drew hib.1 hn2
          with_reducible refine hsec.mono ?_
          clear hsec
          rintro e w' ⟨rfl, rfl⟩
          try go_wp2_with fail
          refine hK.out _ _ ⟨c1, c0, cG⟩ (fun _ => ?_)
          clear hK K
          try simp only [Act.put, List.setIfInBounds_toArray, List.set_cons_zero, List.set_cons_succ]
          refine wpAnyH_ready (rs := [14]) (by kernel_rfl) (by simp) ?_
          refine AllReadyH.cons (o := { dst := some 65, op := Op.call { callee := Callee.builtin Builtin.copy, args := #[Operand.tmp 57, Operand.tmp 64], argTypes := #[45, 45] }, type := 3, pos := "disk.go:128", after := #[{ on := 6, ground := Ground.data }, { on := 13, ground := Ground.data }, { on := 13, ground := Ground.chain }], guard := none }) rfl (fun K hK => ?_) AllReadyH.nil
          have hsl : (secOf l1 i).length = 64 := by have := K3d.out.ll; unfold secOf; rw [List.length_take, List.length_drop]; simp only at this; omega
          obtain ⟨h4, hb4, hf4⟩ := K3d.out.lay_now (i * 64) (secOf l1 i) (by rw [hsl]; show i * 64 + 64 ≤ m.n * 64; omega)
          refine step_copy_row rfl _ _ rfl N (i * 64) 64 64 ⟨L, i * 64, none⟩ 64 64 rfl rfl _ (secOf l1 i) K3d.out.hN (by rw [hsl]; rfl) (fun j v hj => ?_) (by rw [hsl, K3d.out.nl]; show i * 64 + 64 ≤ m.n * 64; omega) ?_
          · rw [add_off, cell_of_row _ _ _ _ _ _ K3d.out.hL, List.getElem?_toArray, ← hj]
            unfold secOf bcells
            rw [List.getElem?_map, List.getElem?_map, List.getElem?_take, List.getElem?_drop]
            have : j < 64 := by
              have := (List.getElem?_eq_some_iff.1 hj).1
              rwa [bcells_length, hsl] at this
            rw [if_pos this]
          refine hK.out _ _ ⟨by rw [h4.cell 1]; rfl, by rw [h4.cell 0]; rfl, by rw [← cG]; exact World.cell?_of_block (hf4 _ (show wr.heap.size ≠ N by omega))⟩ (fun _ => ?_)
          clear hK K hT
          try simp only [Act.put, List.setIfInBounds_toArray, List.set_cons_zero, List.set_cons_succ]
          refine wpAnyH_done (by kernel_rfl) ?_ _
          have H4 : Hid (DiskAt B D L N (.slice (some ⟨g, 0, none⟩) m.pend.length pc) { m with laid := l1, now := nowOf l1 m.now (m.pend.take (k + 1)) } (w3.drew.setRow N (bcells (lay (nowOf l1 m.now (m.pend.take k)) (i * 64) (secOf l1 i))).toArray)) := by
            rw [hKs.out]
            exact h4
          have HB4 := Lib.hid (HB3.out.trans ((Bf.new ((Below.refl w3.heap.size w3).drew) K3.out.base).trans (Bf.one hb4 hf4 (.inr (.inr (.inl rfl))))))
          clear h4 hb4 hf4 c1 c0 cG hGd
          go_wp2
          constructor
          · exact ⟨k + 1, by go_num, by omega, H4.out, HB4.out⟩
          · show m.pend.length - ((k : Int) + 1).toNat < m.pend.length - (k : Int).toNat
            omega
        · have hke : k = m.pend.length := by omega
          have hd2 : decide ((k : Int) < m.pend.length) = false := decide_eq_false (by omega)
          have H5 : Hid (DiskAt B D L N (.slice pp m.pend.length pc) { m with laid := l1, now := nowOf l1 m.now m.pend } wr) := by
            have := HK.out
            rw [hke, List.take_length] at this
            exact this
          have hla := Lib.hid H5.out.last
          have f2 := H5.out.frozen 2
          have f3 := H5.out.frozen 3
          have f4 := H5.out.frozen 4
          have k2 : wr.cell? ⟨D, 2, none⟩ = some (.slice pp m.pend.length pc) := by rw [H5.out.cell 2]; rfl
          have k3 : wr.cell? ⟨D, 3, none⟩ = some (.int .i64 m.limit) := by rw [H5.out.cell 3]; rfl
          have k4 : wr.cell? ⟨D, 4, none⟩ = some (.bool m.dead) := by rw [H5.out.cell 4]; rfl
          clear HK hke H5
          go_wp2
          go_end0
          exact ⟨rfl, by rw [HR.out]; exact hla.out.1, hb.trans hla.out.2⟩
end Go.Proofs.Yticiaiiedagalaa.dk
