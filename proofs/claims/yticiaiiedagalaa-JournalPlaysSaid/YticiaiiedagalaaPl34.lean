/- The document's Append, where its disk is like the program's. -/
import Derived.Test.YticiaiiedagalaaPl30
import Derived.Test.YticiaiiedagalaaPl33
namespace Go.Proofs.Yticiaiiedagalaa.dk
open Go.PlainAid Go.ChangeShapes Go.WideShapes Go.ChangeAt Go.RowKit

/-- The types of the document's disk, and its log. -/
def TL : List TypeId := 85 :: TR
theorem TR_TL : ∀ t ∈ TR, t ∈ TL := fun _ ht => List.mem_cons_of_mem _ ht
def RAPost (B D N A : Nat) (q : Lg × Dk × Int) (w : World) (e : Ending) (w' : World) : Prop := ∃ S' P' r', e = .returned (.int .i64 q.2.2) ∧ RefAt B D S' P' r' w' ∧ Like N q.2.1 r' ∧ RLogAt A q.1 w' ∧ Below B w w' ∧ Tf TL w w'
/-- What is held at the loop's head. -/
structure RL (B D N A gb off k : Nat) (g : Lg) (b : List Int) (w : World) (m : Dk) (S P : Value) (r : Rk) (W : World) : Prop where
  rr : RefAt B D S P r W
  l : Like N m r
  lg : RLogAt A g W
  rd : Rd W (some ⟨gb, off, none⟩) k b
  ty : ∃ cur, W.heap[gb]? = some (.cells cur 5 (0, 0))
  b : Below B w W
  t : Tf TR w W
theorem RL.base {B D N A gb off k : Nat} {g : Lg} {b : List Int} {w : World} {m : Dk} {S P : Value} {r : Rk} {W : World} (h : RL B D N A gb off k g b w m S P r W) (hD : B ≤ D) : B ≤ W.heap.size := Nat.le_of_lt (Nat.lt_of_le_of_lt hD h.rr.lt)
theorem RL.more {B D N A gb off k : Nat} {g : Lg} {b : List Int} {w : World} {m : Dk} {S P : Value} {r : Rk} {W W' : World} (h : RL B D N A gb off k g b w m S P r W) (hb : Below W.heap.size W W') : RL B D N A gb off k g b w m S P r W' :=
  ⟨h.rr.below hb, h.l, h.lg.below hb, h.rd.below hb, by
    obtain ⟨cur, hc⟩ := h.ty
    exact ⟨cur, (hb.block _ (Array.getElem?_eq_some_iff.1 hc).1).trans hc⟩, h.b.trans (hb.mono (h.base h.rr.bD)), h.t.trans (Tf.new hb)⟩
theorem RL.next {B D N A gb off k : Nat} {g : Lg} {b : List Int} {w : World} {m m' : Dk} {S P S' P' : Value} {r r' : Rk} {W W' : World} (h : RL B D N A gb off k g b w m S P r W) (hr : RefAt B D S' P' r' W') (hl : Like N m' r') (hb : Below B W W') (ht : Tf TR W W') : RL B D N A gb off k g b w m' S' P' r' W' := by
  obtain ⟨cur, hc⟩ := h.ty
  have hk := ht gb cur _ hc (by decide)
  exact ⟨hr, hl, h.lg.tf ht (by decide), rd_of_block h.rd hk hb.size, ⟨cur, hk.trans hc⟩, h.b.trans hb, h.t.trans ht⟩
theorem rd_neD {B D n off bk : Nat} {S P : Value} {r : Rk} {W : World} {l : List Int} (h : RefAt B D S P r W) (hR : Rd W (some ⟨bk, off, none⟩) n l) (h0 : 0 < n) : bk ≠ D := by
  rintro rfl
  obtain ⟨S1, S2, rfl⟩ := own_form h.hS
  obtain ⟨P1, P2, rfl⟩ := own_form h.hP
  have hc := hR.cell 0 h0
  rw [Nat.add_zero, h.cell off] at hc
  match off, hc with
  | 0, hc => cases hc
  | 1, hc => cases hc
  | 2, hc => cases hc
  | 3, hc => cases hc
  | 4, hc => cases hc
  | o + 5, hc => cases hc
theorem hdr_len (s n : Int) (p c z : Nat) : (hdr s n p c z).length = 16 := rfl
theorem pad_hdr (s n : Int) (p c z : Nat) (b : List Int) (hb : b.length = z) (hz : z ≤ 48) : pad (hdr s n p c z ++ b) = mk s n p c b := by
  have e : 64 - (hdr s n p c z ++ b).length = 48 - b.length := by rw [List.length_append, hdr_len]; omega
  unfold pad mk
  rw [e, hb]
  rfl
theorem dWrite_hdr (m : Dk) (x s n : Int) (p c z : Nat) (b : List Int) (hb : b.length = z) (hz : z ≤ 48) : dWrite m x (hdr s n p c z ++ b) = dWrite m x (mk s n p c b) := by
  have e1 : (hdr s n p c z ++ b).length ≤ 64 := by rw [List.length_append, hdr_len]; omega
  have e2 : (mk s n p c b).length = 64 := mk_length _ _ _ _ _ (by omega)
  have e3 : pad (mk s n p c b) = mk s n p c b := by unfold pad; rw [e2]; simp
  unfold dWrite
  rw [pad_hdr s n p c z b hb hz, e3, e2]
  have c1 : (64 < (hdr s n p c z ++ b).length) = (64 < 64) := by rw [eq_iff_iff]; omega
  simp only [c1]
theorem RL.fin {B D N A gb off k : Nat} {g g' : Lg} {b : List Int} {w : World} {m : Dk} {S P : Value} {r : Rk} {W W' : World} (h : RL B D N A gb off k g b w m S P r W) (hg : RLogAt A g' W') (hb : Below B W W') (hf : Fr A W W') (ec : Int) : RAPost B D N A (g', m, ec) w (.returned (.int .i64 ec)) W' := by
  have key : ∀ (k : Nat) (cur : Array Value) (t : TypeId), W.heap[k]? = some (.cells cur t (0, 0)) → t ≠ 85 → W'.heap[k]? = W.heap[k]? := fun k cur t hk ht => hf k (row_ne hk h.lg ht)
  refine ⟨S, P, r, rfl, ?_, h.l, hg, h.b.trans hb, (h.t.wide TR_TL).trans fun k cur t hk ht => key k cur t hk (by rintro rfl; exact ht (List.mem_cons_self))⟩
  exact { h.rr with
    hD := (key _ _ _ h.rr.hD (by decide)).trans h.rr.hD
    hS := own_block_keeps h.rr.hS fun g hg => by
      obtain ⟨cur, hc⟩ := own_type h.rr.hS hg
      exact key _ _ _ hc (by decide)
    hP := own_block_keeps h.rr.hP fun g hg => by
      obtain ⟨cur, hc⟩ := own_type h.rr.hP hg
      exact key _ _ _ hc (by decide) }
set_option maxHeartbeats 8000000 in
set_option maxRecDepth 100000 in
theorem rAppend_loop {B D N A : Nat} {S P : Value} {r : Rk} {m : Dk} {g : Lg} {w : World} (h : RefAt B D S P r w) (hl : Like N m r) (hg : RLogAt A g w) (hgd : g.d = D) (hBA : B ≤ A) (gb off k c : Nat) (b : List Int) (hR : Rd w (some ⟨gb, off, none⟩) k b) (hty : ∃ cur, w.heap[gb]? = some (.cells cur 5 (0, 0))) (hkc : k ≤ c) (hk : k ≤ 255)
    (hbr : g.broken = false) (hn : g.n ≤ 40) (hpl : g.place ≤ g.n) (hfrm : g.frm ≤ 1000) (hroom : g.place + needN k ≤ g.n) (hw : m.writes < 900) (hp : m.pend.length < 900) (hnum : 0 ≤ g.num ∧ g.num ≤ 4294967295) (hses : 0 ≤ g.ses ∧ g.ses ≤ 4294967295) :
    Calls Try.prog 29 #[.pointer (some ⟨A, 0, none⟩), .slice (some ⟨gb, off, none⟩) k c] w (RAPost B D N A (if (layGo g b (needN k) (needN k) 0 m).2 = 0 then ({ g with place := g.place + needN k, num := (g.num + 1) % 4294967296 }, (layGo g b (needN k) (needN k) 0 m).1, 0) else ({ g with broken := true }, layGo g b (needN k) (needN k) 0 m)) w) := by
  subst hgd
  obtain ⟨X, hX⟩ : ∃ X, X = (if (layGo g b (needN k) (needN k) 0 m).2 = 0 then ({ g with place := g.place + needN k, num := (g.num + 1) % 4294967296 }, (layGo g b (needN k) (needN k) 0 m).1, 0) else ({ g with broken := true }, layGo g b (needN k) (needN k) 0 m) : Lg × Dk × Int) := ⟨_, rfl⟩
  rw [← hX]
  have HX := Lib.hid hX
  clear hX
  have HN0 := rNeed_any w (k : Int) (by omega)
  rw [needN_eq] at HN0
  have HN := Lib.hid HN0
  have c6 := hg.cell 6
  simp only [lgcells] at c6
  simp at c6
  rw [hbr] at c6
  have hnb := needN_bd k
  have HRo := Lib.hid (rRoom_any hg (by omega) (by omega))
  have HL0 := Lib.hid (show RL B g.d N A gb off k g b w m S P r w from ⟨h, hl, hg, hR, hty, Below.refl _ _, Tf.refl _ _⟩)
  have HBA := Lib.hid hBA
  have HBD := Lib.hid h.bD
  have hnk : needN k ≤ 6 := by split at hnb <;> omega
  generalize hct : needN k = count at hnb HN hnk hroom HX
  have dlim : decide ((65535 : Int) < (count : Int)) = false := decide_eq_false (by omega)
  have droom : decide ((g.n : Int) - (g.place : Int) < (count : Int)) = false := decide_eq_false (by omega)
  have hcb : k ≤ count * 48 ∧ count * 48 ≤ k + 48 := by split at hnb <;> omega
  have hc1 : 1 ≤ count := hnb.1
  have hcl : 0 < k → count * 48 < k + 48 := by intro h0; rw [if_neg (by omega)] at hnb; omega
  clear h hl hg hR hty hBA HN0 hnb hct
  go_enter Try.func29, Try.ntmps29
  go_wp2_with (first | (go_at_call 33; with_reducible refine HN.out.mono ?_; rintro e w' ⟨rfl, rfl⟩) | (go_at_call 31; with_reducible refine HRo.out.mono ?_; rintro e w' ⟨rfl, y, rfl⟩))
  have hbd0 : Below w.heap.size w (w.drewN y) := below_drewN (Below.refl _ _) _
  have HL1 := Lib.hid (HL0.out.more hbd0)
  generalize w.drewN y = wd at HL1 ⊢
  clear HL0 c6 HN HRo hbd0
  go_loopw [6] (fun v wr => ∃ (f i : Nat) (m' : Dk) (S' P' : Value) (r' : Rk), v = .int .i64 (i : Int) ∧ f + i = count ∧ m'.writes ≤ m.writes + i ∧ m'.pend.length ≤ m.pend.length + i ∧ Hid (layGo g b count count 0 m = layGo g b count f i m') ∧ Hid (RL B g.d N A gb off k g b w m' S' P' r' wr)) (fun v _ => count - (intOf v).toNat)
  case atStart => exact ⟨count, 0, m, S, P, r, rfl, rfl, by omega, by omega, rfl, HL1.out⟩
  case round =>
    clear HL1
    obtain ⟨f, i, m', S', P', r', rfl, hfi, hmw, hmp, HE, HL⟩ := hrel
    by_cases hi : i < count
    · have di : decide ((i : Int) < (count : Int)) = true := decide_eq_true (by omega)
      obtain ⟨f, rfl⟩ : ∃ f', f = f' + 1 := ⟨f - 1, by omega⟩
      obtain ⟨x1, hx1⟩ : ∃ x, x = i * 48 := ⟨_, rfl⟩
      have e1 : (48 : Int) * (i : Int) = (x1 : Int) := by omega
      have hx2 : x1 ≤ k := by
        by_cases h0 : 0 < k
        · have := hcl h0; omega
        · have : i = 0 := by omega
          omega
      have w1 : IntKind.i64.wrap ((48 : Int) * (i : Int)) = (x1 : Int) := by rw [IntKind.wrap_i64]; omega
      have wx1 : IntKind.i64.wrap (x1 : Int) = (x1 : Int) := by rw [IntKind.wrap_i64]; omega
      have w2 : IntKind.i64.wrap ((x1 : Int) + 48) = (x1 : Int) + 48 := by rw [IntKind.wrap_i64]; omega
      have hptr : (if c = x1 then (some ⟨gb, off, none⟩ : Option Addr) else some ⟨gb, off + x1, none⟩) = some ⟨gb, off + x1, none⟩ := by
        by_cases hcx : c = x1
        · have h0 : x1 = 0 := by
            by_cases h0 : 0 < k
            · have := hcl h0; omega
            · omega
          rw [if_pos hcx, h0, Nat.add_zero]
        · rw [if_neg hcx]
      have HX1 := Lib.hid hx1
      clear hx1
      have ws1 : IntKind.i64.wrap ((g.frm : Int) + g.place) = (g.frm : Int) + g.place := by rw [IntKind.wrap_i64]; omega
      have ws2 : IntKind.i64.wrap ((g.frm : Int) + g.place + i) = (g.frm : Int) + g.place + i := by rw [IntKind.wrap_i64]; omega
      have hbl := HL.out.rd.1
      by_cases hfull : x1 + 48 ≤ k
      · obtain ⟨y1, hy1⟩ : ∃ y, y = x1 + 48 := ⟨_, rfl⟩
        have hmin : min (k : Int) ((x1 : Int) + 48) = (y1 : Int) := by omega
        have hmax : max (y1 : Int) 0 = (y1 : Int) := by omega
        have hyc : y1 ≤ c := by omega
        have hxy : x1 ≤ y1 := by omega
        have hpart := HL.out.rd.cut x1 48 (by omega)
        have HPl : Hid (((b.drop (i * 48)).take 48).length = y1 - x1) := by show _ = _; rw [List.length_take, List.length_drop, ← HX1.out]; omega
        have HPart : Hid (Rd wr (some ⟨gb, off + x1, none⟩) (y1 - x1) ((b.drop (i * 48)).take 48)) := by show Rd _ _ _ _; rw [show y1 - x1 = 48 by omega, ← HX1.out]; exact hpart
        have hz : y1 - x1 ≤ 48 := by omega
        clear hpart hbl hy1
        go_upto_region 11 with fail
        have hbd : Below wr.heap.size wr wr.drew := (Below.refl _ _).drew
        have HLd := Lib.hid (HL.out.more hbd)
        have HSe := Lib.hid (rsector_any HLd.out.lg i count gb (off + x1) (y1 - x1) (c - x1) ((b.drop (i * 48)).take 48) (HPart.out.below hbd) hz hses hnum (by omega) (by omega))
        have hT : (fun W : World => W.cell? ⟨A, 0, none⟩ = some (.pointer (some ⟨g.d, 0, none⟩)) ∧ W.cell? ⟨A, 1, none⟩ = some (.int .i64 (g.frm : Int)) ∧ W.cell? ⟨A, 3, none⟩ = some (.int .i64 (g.place : Int))) wr.drew := ⟨HLd.out.lg.cell 0, HLd.out.lg.cell 1, HLd.out.lg.cell 3⟩
        clear hbd HL HPart
        refine wp_region_held_drew (S := (fun W : World => W.cell? ⟨A, 0, none⟩ = some (.pointer (some ⟨g.d, 0, none⟩)) ∧ W.cell? ⟨A, 1, none⟩ = some (.int .i64 (g.frm : Int)) ∧ W.cell? ⟨A, 3, none⟩ = some (.int .i64 (g.place : Int)))) (by kernel_rfl) hT (fun hHeld => ?_)
        clear hHeld
        refine wpAnyH_take (i := 0) (oi := { dst := some 30, op := Op.move (Operand.tmp 0), type := 36, pos := "ref.go:135", after := #[], guard := none }) (v := ?_) rfl (by kernel_rfl) (by kernel_rfl) (by kernel_rfl) (fun _ _ _ h => h) (Or.inl ⟨by rfl, ?_⟩) (by assumption) ?_
        rotate_left
        · intro w hSw
          try dsimp only at hSw
          go_simp
          try with_reducible rfl
        try simp only [Act.put, List.setIfInBounds_toArray, List.set_cons_zero, List.set_cons_succ]
        refine wpAnyH_take (i := 1) (oi := { dst := some 31, op := Op.nilCheck (Operand.tmp 30), type := 0, pos := "ref.go:135", after := #[{ on := 0, ground := Ground.data }], guard := none }) (v := ?_) rfl (by kernel_rfl) (by kernel_rfl) (by kernel_rfl) (fun _ _ _ h => h) (Or.inl ⟨by rfl, ?_⟩) (by assumption) ?_
        rotate_left
        · intro w hSw
          try dsimp only at hSw
          go_simp
          try with_reducible rfl
        try simp only [Act.put, List.setIfInBounds_toArray, List.set_cons_zero, List.set_cons_succ]
        refine wpAnyH_take (i := 2) (oi := { dst := some 32, op := Op.fieldAddr 85 (Operand.tmp 31) 0, type := 0, pos := "ref.go:135", after := #[{ on := 1, ground := Ground.data }], guard := none }) (v := ?_) rfl (by kernel_rfl) (by kernel_rfl) (by kernel_rfl) (fun _ _ _ h => h) (Or.inl ⟨by rfl, ?_⟩) (by assumption) ?_
        rotate_left
        · intro w hSw
          try dsimp only at hSw
          go_simp
          try with_reducible rfl
        try simp only [Act.put, List.setIfInBounds_toArray, List.set_cons_zero, List.set_cons_succ]
        refine wpAnyH_take (i := 3) (oi := { dst := some 33, op := Op.load 29 (Operand.tmp 32), type := 29, pos := "ref.go:135", after := #[{ on := 2, ground := Ground.data }], guard := none }) (v := ?_) rfl (by kernel_rfl) (by kernel_rfl) (by kernel_rfl) (fun _ _ _ h => h) (Or.inl ⟨by rfl, ?_⟩) (by assumption) ?_
        rotate_left
        · intro w hSw
          try dsimp only at hSw
          go_simp
          try with_reducible rfl
        try simp only [Act.put, List.setIfInBounds_toArray, List.set_cons_zero, List.set_cons_succ]
        refine wpAnyH_take (i := 4) (oi := { dst := some 34, op := Op.move (Operand.tmp 0), type := 36, pos := "ref.go:135", after := #[], guard := none }) (v := ?_) rfl (by kernel_rfl) (by kernel_rfl) (by kernel_rfl) (fun _ _ _ h => h) (Or.inl ⟨by rfl, ?_⟩) (by assumption) ?_
        rotate_left
        · intro w hSw
          try dsimp only at hSw
          go_simp
          try with_reducible rfl
        try simp only [Act.put, List.setIfInBounds_toArray, List.set_cons_zero, List.set_cons_succ]
        refine wpAnyH_take (i := 5) (oi := { dst := some 35, op := Op.nilCheck (Operand.tmp 34), type := 0, pos := "ref.go:135", after := #[{ on := 4, ground := Ground.data }], guard := none }) (v := ?_) rfl (by kernel_rfl) (by kernel_rfl) (by kernel_rfl) (fun _ _ _ h => h) (Or.inl ⟨by rfl, ?_⟩) (by assumption) ?_
        rotate_left
        · intro w hSw
          try dsimp only at hSw
          go_simp
          try with_reducible rfl
        try simp only [Act.put, List.setIfInBounds_toArray, List.set_cons_zero, List.set_cons_succ]
        refine wpAnyH_take (i := 6) (oi := { dst := some 36, op := Op.fieldAddr 85 (Operand.tmp 35) 1, type := 0, pos := "ref.go:135", after := #[{ on := 5, ground := Ground.data }], guard := none }) (v := ?_) rfl (by kernel_rfl) (by kernel_rfl) (by kernel_rfl) (fun _ _ _ h => h) (Or.inl ⟨by rfl, ?_⟩) (by assumption) ?_
        rotate_left
        · intro w hSw
          try dsimp only at hSw
          go_simp
          try with_reducible rfl
        try simp only [Act.put, List.setIfInBounds_toArray, List.set_cons_zero, List.set_cons_succ]
        refine wpAnyH_take (i := 7) (oi := { dst := some 37, op := Op.load 3 (Operand.tmp 36), type := 3, pos := "ref.go:135", after := #[{ on := 6, ground := Ground.data }], guard := none }) (v := ?_) rfl (by kernel_rfl) (by kernel_rfl) (by kernel_rfl) (fun _ _ _ h => h) (Or.inl ⟨by rfl, ?_⟩) (by assumption) ?_
        rotate_left
        · intro w hSw
          try dsimp only at hSw
          go_simp
          try with_reducible rfl
        try simp only [Act.put, List.setIfInBounds_toArray, List.set_cons_zero, List.set_cons_succ]
        refine wpAnyH_take (i := 8) (oi := { dst := some 38, op := Op.move (Operand.tmp 0), type := 36, pos := "ref.go:135", after := #[], guard := none }) (v := ?_) rfl (by kernel_rfl) (by kernel_rfl) (by kernel_rfl) (fun _ _ _ h => h) (Or.inl ⟨by rfl, ?_⟩) (by assumption) ?_
        rotate_left
        · intro w hSw
          try dsimp only at hSw
          go_simp
          try with_reducible rfl
        try simp only [Act.put, List.setIfInBounds_toArray, List.set_cons_zero, List.set_cons_succ]
        refine wpAnyH_take (i := 9) (oi := { dst := some 39, op := Op.nilCheck (Operand.tmp 38), type := 0, pos := "ref.go:135", after := #[{ on := 8, ground := Ground.data }], guard := none }) (v := ?_) rfl (by kernel_rfl) (by kernel_rfl) (by kernel_rfl) (fun _ _ _ h => h) (Or.inl ⟨by rfl, ?_⟩) (by assumption) ?_
        rotate_left
        · intro w hSw
          try dsimp only at hSw
          go_simp
          try with_reducible rfl
        try simp only [Act.put, List.setIfInBounds_toArray, List.set_cons_zero, List.set_cons_succ]
        refine wpAnyH_take (i := 10) (oi := { dst := some 40, op := Op.fieldAddr 85 (Operand.tmp 39) 3, type := 0, pos := "ref.go:135", after := #[{ on := 9, ground := Ground.data }], guard := none }) (v := ?_) rfl (by kernel_rfl) (by kernel_rfl) (by kernel_rfl) (fun _ _ _ h => h) (Or.inl ⟨by rfl, ?_⟩) (by assumption) ?_
        rotate_left
        · intro w hSw
          try dsimp only at hSw
          go_simp
          try with_reducible rfl
        try simp only [Act.put, List.setIfInBounds_toArray, List.set_cons_zero, List.set_cons_succ]
        refine wpAnyH_take (i := 11) (oi := { dst := some 41, op := Op.load 3 (Operand.tmp 40), type := 3, pos := "ref.go:135", after := #[{ on := 10, ground := Ground.data }], guard := none }) (v := ?_) rfl (by kernel_rfl) (by kernel_rfl) (by kernel_rfl) (fun _ _ _ h => h) (Or.inl ⟨by rfl, ?_⟩) (by assumption) ?_
        rotate_left
        · intro w hSw
          try dsimp only at hSw
          go_simp
          try with_reducible rfl
        try simp only [Act.put, List.setIfInBounds_toArray, List.set_cons_zero, List.set_cons_succ]
        refine wpAnyH_take (i := 12) (oi := { dst := some 42, op := Op.binOp BinOp.add 3 (Operand.tmp 37) (Operand.tmp 41) 3, type := 3, pos := "ref.go:135", after := #[{ on := 7, ground := Ground.data }, { on := 11, ground := Ground.data }], guard := none }) (v := ?_) rfl (by kernel_rfl) (by kernel_rfl) (by kernel_rfl) (fun _ _ _ h => h) (Or.inl ⟨by rfl, ?_⟩) (by assumption) ?_
        rotate_left
        · intro w hSw
          try dsimp only at hSw
          go_simp
          try with_reducible rfl
        try simp only [Act.put, List.setIfInBounds_toArray, List.set_cons_zero, List.set_cons_succ]
        refine wpAnyH_take (i := 13) (oi := { dst := some 43, op := Op.move (Operand.tmp 6), type := 3, pos := "ref.go:135", after := #[], guard := none }) (v := ?_) rfl (by kernel_rfl) (by kernel_rfl) (by kernel_rfl) (fun _ _ _ h => h) (Or.inl ⟨by rfl, ?_⟩) (by assumption) ?_
        rotate_left
        · intro w hSw
          try dsimp only at hSw
          go_simp
          try with_reducible rfl
        try simp only [Act.put, List.setIfInBounds_toArray, List.set_cons_zero, List.set_cons_succ]
        refine wpAnyH_take (i := 14) (oi := { dst := some 44, op := Op.binOp BinOp.add 3 (Operand.tmp 42) (Operand.tmp 43) 3, type := 3, pos := "ref.go:135", after := #[{ on := 12, ground := Ground.data }, { on := 13, ground := Ground.data }], guard := none }) (v := ?_) rfl (by kernel_rfl) (by kernel_rfl) (by kernel_rfl) (fun _ _ _ h => h) (Or.inl ⟨by rfl, ?_⟩) (by assumption) ?_
        rotate_left
        · intro w hSw
          try dsimp only at hSw
          go_simp
          try with_reducible rfl
        try simp only [Act.put, List.setIfInBounds_toArray, List.set_cons_zero, List.set_cons_succ]
        refine wpAnyH_take (i := 15) (oi := { dst := some 45, op := Op.move (Operand.tmp 0), type := 36, pos := "ref.go:135", after := #[], guard := none }) (v := ?_) rfl (by kernel_rfl) (by kernel_rfl) (by kernel_rfl) (fun _ _ _ h => h) (Or.inl ⟨by rfl, ?_⟩) (by assumption) ?_
        rotate_left
        · intro w hSw
          try dsimp only at hSw
          go_simp
          try with_reducible rfl
        try simp only [Act.put, List.setIfInBounds_toArray, List.set_cons_zero, List.set_cons_succ]
        refine wpAnyH_take (i := 16) (oi := { dst := some 46, op := Op.move (Operand.tmp 6), type := 3, pos := "ref.go:135", after := #[], guard := none }) (v := ?_) rfl (by kernel_rfl) (by kernel_rfl) (by kernel_rfl) (fun _ _ _ h => h) (Or.inl ⟨by rfl, ?_⟩) (by assumption) ?_
        rotate_left
        · intro w hSw
          try dsimp only at hSw
          go_simp
          try with_reducible rfl
        try simp only [Act.put, List.setIfInBounds_toArray, List.set_cons_zero, List.set_cons_succ]
        refine wpAnyH_take (i := 17) (oi := { dst := some 47, op := Op.move (Operand.tmp 5), type := 3, pos := "ref.go:135", after := #[], guard := none }) (v := ?_) rfl (by kernel_rfl) (by kernel_rfl) (by kernel_rfl) (fun _ _ _ h => h) (Or.inl ⟨by rfl, ?_⟩) (by assumption) ?_
        rotate_left
        · intro w hSw
          try dsimp only at hSw
          go_simp
          try with_reducible rfl
        try simp only [Act.put, List.setIfInBounds_toArray, List.set_cons_zero, List.set_cons_succ]
        refine wpAnyH_take (i := 18) (oi := { dst := some 48, op := Op.move (Operand.tmp 1), type := 45, pos := "ref.go:135", after := #[], guard := none }) (v := ?_) rfl (by kernel_rfl) (by kernel_rfl) (by kernel_rfl) (fun _ _ _ h => h) (Or.inl ⟨by rfl, ?_⟩) (by assumption) ?_
        rotate_left
        · intro w hSw
          try dsimp only at hSw
          go_simp
          try with_reducible rfl
        try simp only [Act.put, List.setIfInBounds_toArray, List.set_cons_zero, List.set_cons_succ]
        refine wpAnyH_take (i := 19) (oi := { dst := some 49, op := Op.move (Operand.tmp 6), type := 3, pos := "ref.go:135", after := #[], guard := none }) (v := ?_) rfl (by kernel_rfl) (by kernel_rfl) (by kernel_rfl) (fun _ _ _ h => h) (Or.inl ⟨by rfl, ?_⟩) (by assumption) ?_
        rotate_left
        · intro w hSw
          try dsimp only at hSw
          go_simp
          try with_reducible rfl
        try simp only [Act.put, List.setIfInBounds_toArray, List.set_cons_zero, List.set_cons_succ]
        refine wpAnyH_take (i := 20) (oi := { dst := some 50, op := Op.binOp BinOp.mul 3 (Operand.const (Value.int IntKind.i64 48)) (Operand.tmp 49) 3, type := 3, pos := "ref.go:135", after := #[{ on := 19, ground := Ground.data }], guard := none }) (v := ?_) rfl (by kernel_rfl) (by kernel_rfl) (by kernel_rfl) (fun _ _ _ h => h) (Or.inl ⟨by rfl, ?_⟩) (by assumption) ?_
        rotate_left
        · intro w hSw
          try dsimp only at hSw
          go_simp
          try with_reducible rfl
        try simp only [Act.put, List.setIfInBounds_toArray, List.set_cons_zero, List.set_cons_succ]
        refine wpAnyH_take (i := 21) (oi := { dst := some 51, op := Op.move (Operand.tmp 1), type := 45, pos := "ref.go:135", after := #[], guard := none }) (v := ?_) rfl (by kernel_rfl) (by kernel_rfl) (by kernel_rfl) (fun _ _ _ h => h) (Or.inl ⟨by rfl, ?_⟩) (by assumption) ?_
        rotate_left
        · intro w hSw
          try dsimp only at hSw
          go_simp
          try with_reducible rfl
        try simp only [Act.put, List.setIfInBounds_toArray, List.set_cons_zero, List.set_cons_succ]
        refine wpAnyH_take (i := 22) (oi := { dst := some 52, op := Op.call { callee := Callee.builtin Builtin.len, args := #[Operand.tmp 51], argTypes := #[45] }, type := 3, pos := "ref.go:135", after := #[{ on := 21, ground := Ground.data }], guard := none }) (v := ?_) rfl (by kernel_rfl) (by kernel_rfl) (by kernel_rfl) (fun _ _ _ h => h) (Or.inl ⟨by rfl, ?_⟩) (by assumption) ?_
        rotate_left
        · intro w hSw
          try dsimp only at hSw
          go_simp
          try with_reducible rfl
        try simp only [Act.put, List.setIfInBounds_toArray, List.set_cons_zero, List.set_cons_succ]
        refine wpAnyH_take (i := 23) (oi := { dst := some 53, op := Op.move (Operand.tmp 6), type := 3, pos := "ref.go:135", after := #[], guard := none }) (v := ?_) rfl (by kernel_rfl) (by kernel_rfl) (by kernel_rfl) (fun _ _ _ h => h) (Or.inl ⟨by rfl, ?_⟩) (by assumption) ?_
        rotate_left
        · intro w hSw
          try dsimp only at hSw
          go_simp
          try with_reducible rfl
        try simp only [Act.put, List.setIfInBounds_toArray, List.set_cons_zero, List.set_cons_succ]
        refine wpAnyH_take (i := 24) (oi := { dst := some 54, op := Op.binOp BinOp.mul 3 (Operand.const (Value.int IntKind.i64 48)) (Operand.tmp 53) 3, type := 3, pos := "ref.go:135", after := #[{ on := 23, ground := Ground.data }], guard := none }) (v := ?_) rfl (by kernel_rfl) (by kernel_rfl) (by kernel_rfl) (fun _ _ _ h => h) (Or.inl ⟨by rfl, ?_⟩) (by assumption) ?_
        rotate_left
        · intro w hSw
          try dsimp only at hSw
          go_simp
          try with_reducible rfl
        try simp only [Act.put, List.setIfInBounds_toArray, List.set_cons_zero, List.set_cons_succ]
        refine wpAnyH_take (i := 25) (oi := { dst := some 55, op := Op.binOp BinOp.add 3 (Operand.tmp 54) (Operand.const (Value.int IntKind.i64 48)) 3, type := 3, pos := "ref.go:135", after := #[{ on := 24, ground := Ground.data }], guard := none }) (v := ?_) rfl (by kernel_rfl) (by kernel_rfl) (by kernel_rfl) (fun _ _ _ h => h) (Or.inl ⟨by rfl, ?_⟩) (by assumption) ?_
        rotate_left
        · intro w hSw
          try dsimp only at hSw
          go_simp
          try with_reducible rfl
        try simp only [Act.put, List.setIfInBounds_toArray, List.set_cons_zero, List.set_cons_succ]
        refine wpAnyH_take (i := 26) (oi := { dst := some 56, op := Op.call { callee := Callee.builtin Builtin.min, args := #[Operand.tmp 52, Operand.tmp 55], argTypes := #[3, 3] }, type := 3, pos := "ref.go:135", after := #[{ on := 22, ground := Ground.data }, { on := 25, ground := Ground.data }], guard := none }) (v := ?_) rfl (by kernel_rfl) (by kernel_rfl) (by kernel_rfl) (fun _ _ _ h => h) (Or.inl ⟨by rfl, ?_⟩) (by assumption) ?_
        rotate_left
        · intro w hSw
          try dsimp only at hSw
          go_simp
          try with_reducible rfl
        try simp only [Act.put, List.setIfInBounds_toArray, List.set_cons_zero, List.set_cons_succ]
        refine wpAnyH_take (i := 27) (oi := { dst := some 57, op := Op.slice 45 (Operand.tmp 48) (some (Operand.tmp 50)) (some (Operand.tmp 56)) none, type := 45, pos := "ref.go:135", after := #[{ on := 18, ground := Ground.data }, { on := 20, ground := Ground.data }, { on := 26, ground := Ground.data }], guard := none }) (v := ?_) rfl (by kernel_rfl) (by kernel_rfl) (by kernel_rfl) (fun _ _ _ h => h) (Or.inl ⟨by rfl, ?_⟩) (by assumption) ?_
        rotate_left
        · intro w hSw
          try dsimp only at hSw
          go_simp
          try with_reducible rfl
        try simp only [Act.put, List.setIfInBounds_toArray, List.set_cons_zero, List.set_cons_succ]
        refine wpAnyH_ready (rs := [28]) (by kernel_rfl) (by simp) ?_
        refine AllReadyH.cons (o := { dst := some 58, op := Op.call { callee := Callee.value (Operand.func 49), args := #[Operand.tmp 45, Operand.tmp 46, Operand.tmp 47, Operand.tmp 57], argTypes := #[36, 3, 3, 45] }, type := 45, pos := "ref.go:135", after := #[{ on := 15, ground := Ground.data }, { on := 16, ground := Ground.data }, { on := 17, ground := Ground.data }, { on := 27, ground := Ground.data }], guard := none }) rfl (fun K hK => ?_) AllReadyH.nil
        go_simp
        with_reducible refine HSe.out.mono ?_
        clear HSe
        rintro e w5 ⟨p5, c5, rfl, hrd5, hb5⟩
        have HL5 := Lib.hid (HLd.out.more hb5)
        have hT5 : (fun W : World => W.cell? ⟨A, 0, none⟩ = some (.pointer (some ⟨g.d, 0, none⟩)) ∧ W.cell? ⟨A, 1, none⟩ = some (.int .i64 (g.frm : Int)) ∧ W.cell? ⟨A, 3, none⟩ = some (.int .i64 (g.place : Int))) w5 := ⟨HL5.out.lg.cell 0, HL5.out.lg.cell 1, HL5.out.lg.cell 3⟩
        have hW5 := rWrite_like HL5.out.rr HL5.out.l p5 _ c5 _ hrd5 (fun h0 bk o2 e5 => rd_neD HL5.out.rr (by rw [e5] at hrd5; exact hrd5) h0) (by omega) (by omega) ((g.frm : Int) + g.place + i)
        rw [dWrite_hdr _ _ _ _ _ _ _ _ HPl.out hz] at hW5
        have HW5 := Lib.hid hW5
        clear hrd5 hb5 HLd hW5
        try go_wp2_with fail
        refine hK.out _ _ hT5 (fun _ => ?_)
        clear hK K
        try simp only [Act.put, List.setIfInBounds_toArray, List.set_cons_zero, List.set_cons_succ]
        clear hT
        refine wpAnyH_ready (rs := [29]) (by kernel_rfl) (by simp) ?_
        refine AllReadyH.cons (o := { dst := some 59, op := Op.call { callee := Callee.value (Operand.func 20), args := #[Operand.tmp 33, Operand.tmp 44, Operand.tmp 58], argTypes := #[29, 3, 45] }, type := 26, pos := "ref.go:135", after := #[{ on := 3, ground := Ground.data }, { on := 14, ground := Ground.data }, { on := 28, ground := Ground.data }, { on := 28, ground := Ground.chain }], guard := none }) rfl (fun K hK => ?_) AllReadyH.nil
        go_simp
        with_reducible refine HW5.out.mono ?_
        clear HW5
        rintro e w7 ⟨S7, P7, r7, rfl, hr7, hl7, hb7, ht7⟩
        have HL7 := Lib.hid (HL5.out.next hr7 hl7 hb7 ht7)
        have hT7 : (fun W : World => W.cell? ⟨A, 0, none⟩ = some (.pointer (some ⟨g.d, 0, none⟩)) ∧ W.cell? ⟨A, 1, none⟩ = some (.int .i64 (g.frm : Int)) ∧ W.cell? ⟨A, 3, none⟩ = some (.int .i64 (g.place : Int))) w7 := ⟨HL7.out.lg.cell 0, HL7.out.lg.cell 1, HL7.out.lg.cell 3⟩
        have hwb := dWrite_bd m' ((g.frm : Int) + g.place + i) (mk g.ses g.num i count ((b.drop (i * 48)).take 48))
        clear hr7 hl7 hb7 ht7 HL5
        try go_wp2_with fail
        refine hK.out _ _ hT7 (fun _ => ?_)
        clear hK K
        try simp only [Act.put, List.setIfInBounds_toArray, List.set_cons_zero, List.set_cons_succ]
        clear hT5
        refine wpAnyH_take (i := 30) (oi := { dst := some 7, op := Op.assign (Operand.tmp 59), type := 26, pos := "ref.go:135", after := #[{ on := 29, ground := Ground.data }, { on := 29, ground := Ground.chain }, { on := 0, ground := Ground.phase }, { on := 1, ground := Ground.phase }, { on := 2, ground := Ground.phase }, { on := 3, ground := Ground.phase }, { on := 4, ground := Ground.phase }, { on := 5, ground := Ground.phase }, { on := 6, ground := Ground.phase }, { on := 7, ground := Ground.phase }, { on := 8, ground := Ground.phase }, { on := 9, ground := Ground.phase }, { on := 10, ground := Ground.phase }, { on := 11, ground := Ground.phase }, { on := 12, ground := Ground.phase }, { on := 13, ground := Ground.phase }, { on := 14, ground := Ground.phase }, { on := 15, ground := Ground.phase }, { on := 16, ground := Ground.phase }, { on := 17, ground := Ground.phase }, { on := 18, ground := Ground.phase }, { on := 19, ground := Ground.phase }, { on := 20, ground := Ground.phase }, { on := 21, ground := Ground.phase }, { on := 22, ground := Ground.phase }, { on := 23, ground := Ground.phase }, { on := 24, ground := Ground.phase }, { on := 25, ground := Ground.phase }, { on := 26, ground := Ground.phase }, { on := 27, ground := Ground.phase }, { on := 28, ground := Ground.phase }, { on := 29, ground := Ground.phase }], guard := none }) (v := ?_) rfl (by kernel_rfl) (by kernel_rfl) (by kernel_rfl) (fun _ _ _ h => h) (Or.inl ⟨by rfl, ?_⟩) (by assumption) ?_
        rotate_left
        · intro w hSw
          try dsimp only at hSw
          go_simp
          try with_reducible rfl
        try simp only [Act.put, List.setIfInBounds_toArray, List.set_cons_zero, List.set_cons_succ]
        refine wpAnyH_done (by kernel_rfl) ?_ _
        clear hT7
        have HEq : Hid (layGo g b count (f + 1) i m' = _) := layGo.eq_2 g b count i m' f
        have HE8 := Lib.hid (HE.out.trans HEq.out)
        clear HEq HE ws1 ws2
        generalize dWrite m' ((g.frm : Int) + g.place + i) (mk g.ses g.num i count ((b.drop (i * 48)).take 48)) = q at HL7 hwb HE8 ⊢
        obtain ⟨m8, ec⟩ := q
        dsimp only at hwb HE8 HL7 ⊢
        by_cases hec : ec = 0
        · subst hec
          have HE9 := Lib.hid (HE8.out.trans (if_pos rfl))
          clear HE8
          go_wp2_with fail
          constructor
          · exact ⟨f, i + 1, m8, S7, P7, r7, by go_num, by omega, by omega, by omega, HE9.out, HL7.out⟩
          · show count - ((i : Int) + 1).toNat < count - (i : Int).toNat
            omega
        · have HE9 := Lib.hid (HE8.out.trans (if_neg hec))
          have de : (ec != 0) = true := by simpa using hec
          have hfr6 := HL7.out.lg.frozen 6
          have hc6 := HL7.out.lg.cell 6
          simp only [lgcells] at hc6
          simp at hc6
          have HFin : Hid (RAPost B g.d N A X w (.returned (.int .i64 ec)) (w7.setCell ⟨A, 6, none⟩ (.bool true))) := by
            show RAPost _ _ _ _ _ _ _ _
            rw [HX.out, HE9.out, if_neg hec]
            obtain ⟨t1, t2, t3⟩ := HL7.out.lg.turn (g' := { g with broken := true }) 6 (.bool true) rfl HBA.out (Below.refl B w7)
            exact HL7.out.fin t1 t2 t3 ec
          clear HE8 HE9 HL7 hec hwb
          go_wp2_with fail
          go_ret
          exact HFin.out
      · have hmin : min (k : Int) ((x1 : Int) + 48) = (k : Int) := by omega
        have hmax : max (k : Int) 0 = (k : Int) := by omega
        have hpart := HL.out.rd.cut x1 (k - x1) (by omega)
        have HPl : Hid (((b.drop (i * 48)).take 48).length = k - x1) := by show _ = _; rw [List.length_take, List.length_drop, ← HX1.out]; omega
        have HPart : Hid (Rd wr (some ⟨gb, off + x1, none⟩) (k - x1) ((b.drop (i * 48)).take 48)) := by
          show Rd _ _ _ _
          rw [← HX1.out]
          rw [List.take_of_length_le (by rw [List.length_drop]; omega)] at hpart ⊢
          exact hpart
        have hz : k - x1 ≤ 48 := by omega
        clear hpart hbl
        go_upto_region 11 with fail
        have hbd : Below wr.heap.size wr wr.drew := (Below.refl _ _).drew
        have HLd := Lib.hid (HL.out.more hbd)
        have HSe := Lib.hid (rsector_any HLd.out.lg i count gb (off + x1) (k - x1) (c - x1) ((b.drop (i * 48)).take 48) (HPart.out.below hbd) hz hses hnum (by omega) (by omega))
        have hT : (fun W : World => W.cell? ⟨A, 0, none⟩ = some (.pointer (some ⟨g.d, 0, none⟩)) ∧ W.cell? ⟨A, 1, none⟩ = some (.int .i64 (g.frm : Int)) ∧ W.cell? ⟨A, 3, none⟩ = some (.int .i64 (g.place : Int))) wr.drew := ⟨HLd.out.lg.cell 0, HLd.out.lg.cell 1, HLd.out.lg.cell 3⟩
        clear hbd HL HPart
        refine wp_region_held_drew (S := (fun W : World => W.cell? ⟨A, 0, none⟩ = some (.pointer (some ⟨g.d, 0, none⟩)) ∧ W.cell? ⟨A, 1, none⟩ = some (.int .i64 (g.frm : Int)) ∧ W.cell? ⟨A, 3, none⟩ = some (.int .i64 (g.place : Int)))) (by kernel_rfl) hT (fun hHeld => ?_)
        clear hHeld
        refine wpAnyH_take (i := 0) (oi := { dst := some 30, op := Op.move (Operand.tmp 0), type := 36, pos := "ref.go:135", after := #[], guard := none }) (v := ?_) rfl (by kernel_rfl) (by kernel_rfl) (by kernel_rfl) (fun _ _ _ h => h) (Or.inl ⟨by rfl, ?_⟩) (by assumption) ?_
        rotate_left
        · intro w hSw
          try dsimp only at hSw
          go_simp
          try with_reducible rfl
        try simp only [Act.put, List.setIfInBounds_toArray, List.set_cons_zero, List.set_cons_succ]
        refine wpAnyH_take (i := 1) (oi := { dst := some 31, op := Op.nilCheck (Operand.tmp 30), type := 0, pos := "ref.go:135", after := #[{ on := 0, ground := Ground.data }], guard := none }) (v := ?_) rfl (by kernel_rfl) (by kernel_rfl) (by kernel_rfl) (fun _ _ _ h => h) (Or.inl ⟨by rfl, ?_⟩) (by assumption) ?_
        rotate_left
        · intro w hSw
          try dsimp only at hSw
          go_simp
          try with_reducible rfl
        try simp only [Act.put, List.setIfInBounds_toArray, List.set_cons_zero, List.set_cons_succ]
        refine wpAnyH_take (i := 2) (oi := { dst := some 32, op := Op.fieldAddr 85 (Operand.tmp 31) 0, type := 0, pos := "ref.go:135", after := #[{ on := 1, ground := Ground.data }], guard := none }) (v := ?_) rfl (by kernel_rfl) (by kernel_rfl) (by kernel_rfl) (fun _ _ _ h => h) (Or.inl ⟨by rfl, ?_⟩) (by assumption) ?_
        rotate_left
        · intro w hSw
          try dsimp only at hSw
          go_simp
          try with_reducible rfl
        try simp only [Act.put, List.setIfInBounds_toArray, List.set_cons_zero, List.set_cons_succ]
        refine wpAnyH_take (i := 3) (oi := { dst := some 33, op := Op.load 29 (Operand.tmp 32), type := 29, pos := "ref.go:135", after := #[{ on := 2, ground := Ground.data }], guard := none }) (v := ?_) rfl (by kernel_rfl) (by kernel_rfl) (by kernel_rfl) (fun _ _ _ h => h) (Or.inl ⟨by rfl, ?_⟩) (by assumption) ?_
        rotate_left
        · intro w hSw
          try dsimp only at hSw
          go_simp
          try with_reducible rfl
        try simp only [Act.put, List.setIfInBounds_toArray, List.set_cons_zero, List.set_cons_succ]
        refine wpAnyH_take (i := 4) (oi := { dst := some 34, op := Op.move (Operand.tmp 0), type := 36, pos := "ref.go:135", after := #[], guard := none }) (v := ?_) rfl (by kernel_rfl) (by kernel_rfl) (by kernel_rfl) (fun _ _ _ h => h) (Or.inl ⟨by rfl, ?_⟩) (by assumption) ?_
        rotate_left
        · intro w hSw
          try dsimp only at hSw
          go_simp
          try with_reducible rfl
        try simp only [Act.put, List.setIfInBounds_toArray, List.set_cons_zero, List.set_cons_succ]
        refine wpAnyH_take (i := 5) (oi := { dst := some 35, op := Op.nilCheck (Operand.tmp 34), type := 0, pos := "ref.go:135", after := #[{ on := 4, ground := Ground.data }], guard := none }) (v := ?_) rfl (by kernel_rfl) (by kernel_rfl) (by kernel_rfl) (fun _ _ _ h => h) (Or.inl ⟨by rfl, ?_⟩) (by assumption) ?_
        rotate_left
        · intro w hSw
          try dsimp only at hSw
          go_simp
          try with_reducible rfl
        try simp only [Act.put, List.setIfInBounds_toArray, List.set_cons_zero, List.set_cons_succ]
        refine wpAnyH_take (i := 6) (oi := { dst := some 36, op := Op.fieldAddr 85 (Operand.tmp 35) 1, type := 0, pos := "ref.go:135", after := #[{ on := 5, ground := Ground.data }], guard := none }) (v := ?_) rfl (by kernel_rfl) (by kernel_rfl) (by kernel_rfl) (fun _ _ _ h => h) (Or.inl ⟨by rfl, ?_⟩) (by assumption) ?_
        rotate_left
        · intro w hSw
          try dsimp only at hSw
          go_simp
          try with_reducible rfl
        try simp only [Act.put, List.setIfInBounds_toArray, List.set_cons_zero, List.set_cons_succ]
        refine wpAnyH_take (i := 7) (oi := { dst := some 37, op := Op.load 3 (Operand.tmp 36), type := 3, pos := "ref.go:135", after := #[{ on := 6, ground := Ground.data }], guard := none }) (v := ?_) rfl (by kernel_rfl) (by kernel_rfl) (by kernel_rfl) (fun _ _ _ h => h) (Or.inl ⟨by rfl, ?_⟩) (by assumption) ?_
        rotate_left
        · intro w hSw
          try dsimp only at hSw
          go_simp
          try with_reducible rfl
        try simp only [Act.put, List.setIfInBounds_toArray, List.set_cons_zero, List.set_cons_succ]
        refine wpAnyH_take (i := 8) (oi := { dst := some 38, op := Op.move (Operand.tmp 0), type := 36, pos := "ref.go:135", after := #[], guard := none }) (v := ?_) rfl (by kernel_rfl) (by kernel_rfl) (by kernel_rfl) (fun _ _ _ h => h) (Or.inl ⟨by rfl, ?_⟩) (by assumption) ?_
        rotate_left
        · intro w hSw
          try dsimp only at hSw
          go_simp
          try with_reducible rfl
        try simp only [Act.put, List.setIfInBounds_toArray, List.set_cons_zero, List.set_cons_succ]
        refine wpAnyH_take (i := 9) (oi := { dst := some 39, op := Op.nilCheck (Operand.tmp 38), type := 0, pos := "ref.go:135", after := #[{ on := 8, ground := Ground.data }], guard := none }) (v := ?_) rfl (by kernel_rfl) (by kernel_rfl) (by kernel_rfl) (fun _ _ _ h => h) (Or.inl ⟨by rfl, ?_⟩) (by assumption) ?_
        rotate_left
        · intro w hSw
          try dsimp only at hSw
          go_simp
          try with_reducible rfl
        try simp only [Act.put, List.setIfInBounds_toArray, List.set_cons_zero, List.set_cons_succ]
        refine wpAnyH_take (i := 10) (oi := { dst := some 40, op := Op.fieldAddr 85 (Operand.tmp 39) 3, type := 0, pos := "ref.go:135", after := #[{ on := 9, ground := Ground.data }], guard := none }) (v := ?_) rfl (by kernel_rfl) (by kernel_rfl) (by kernel_rfl) (fun _ _ _ h => h) (Or.inl ⟨by rfl, ?_⟩) (by assumption) ?_
        rotate_left
        · intro w hSw
          try dsimp only at hSw
          go_simp
          try with_reducible rfl
        try simp only [Act.put, List.setIfInBounds_toArray, List.set_cons_zero, List.set_cons_succ]
        refine wpAnyH_take (i := 11) (oi := { dst := some 41, op := Op.load 3 (Operand.tmp 40), type := 3, pos := "ref.go:135", after := #[{ on := 10, ground := Ground.data }], guard := none }) (v := ?_) rfl (by kernel_rfl) (by kernel_rfl) (by kernel_rfl) (fun _ _ _ h => h) (Or.inl ⟨by rfl, ?_⟩) (by assumption) ?_
        rotate_left
        · intro w hSw
          try dsimp only at hSw
          go_simp
          try with_reducible rfl
        try simp only [Act.put, List.setIfInBounds_toArray, List.set_cons_zero, List.set_cons_succ]
        refine wpAnyH_take (i := 12) (oi := { dst := some 42, op := Op.binOp BinOp.add 3 (Operand.tmp 37) (Operand.tmp 41) 3, type := 3, pos := "ref.go:135", after := #[{ on := 7, ground := Ground.data }, { on := 11, ground := Ground.data }], guard := none }) (v := ?_) rfl (by kernel_rfl) (by kernel_rfl) (by kernel_rfl) (fun _ _ _ h => h) (Or.inl ⟨by rfl, ?_⟩) (by assumption) ?_
        rotate_left
        · intro w hSw
          try dsimp only at hSw
          go_simp
          try with_reducible rfl
        try simp only [Act.put, List.setIfInBounds_toArray, List.set_cons_zero, List.set_cons_succ]
        refine wpAnyH_take (i := 13) (oi := { dst := some 43, op := Op.move (Operand.tmp 6), type := 3, pos := "ref.go:135", after := #[], guard := none }) (v := ?_) rfl (by kernel_rfl) (by kernel_rfl) (by kernel_rfl) (fun _ _ _ h => h) (Or.inl ⟨by rfl, ?_⟩) (by assumption) ?_
        rotate_left
        · intro w hSw
          try dsimp only at hSw
          go_simp
          try with_reducible rfl
        try simp only [Act.put, List.setIfInBounds_toArray, List.set_cons_zero, List.set_cons_succ]
        refine wpAnyH_take (i := 14) (oi := { dst := some 44, op := Op.binOp BinOp.add 3 (Operand.tmp 42) (Operand.tmp 43) 3, type := 3, pos := "ref.go:135", after := #[{ on := 12, ground := Ground.data }, { on := 13, ground := Ground.data }], guard := none }) (v := ?_) rfl (by kernel_rfl) (by kernel_rfl) (by kernel_rfl) (fun _ _ _ h => h) (Or.inl ⟨by rfl, ?_⟩) (by assumption) ?_
        rotate_left
        · intro w hSw
          try dsimp only at hSw
          go_simp
          try with_reducible rfl
        try simp only [Act.put, List.setIfInBounds_toArray, List.set_cons_zero, List.set_cons_succ]
        refine wpAnyH_take (i := 15) (oi := { dst := some 45, op := Op.move (Operand.tmp 0), type := 36, pos := "ref.go:135", after := #[], guard := none }) (v := ?_) rfl (by kernel_rfl) (by kernel_rfl) (by kernel_rfl) (fun _ _ _ h => h) (Or.inl ⟨by rfl, ?_⟩) (by assumption) ?_
        rotate_left
        · intro w hSw
          try dsimp only at hSw
          go_simp
          try with_reducible rfl
        try simp only [Act.put, List.setIfInBounds_toArray, List.set_cons_zero, List.set_cons_succ]
        refine wpAnyH_take (i := 16) (oi := { dst := some 46, op := Op.move (Operand.tmp 6), type := 3, pos := "ref.go:135", after := #[], guard := none }) (v := ?_) rfl (by kernel_rfl) (by kernel_rfl) (by kernel_rfl) (fun _ _ _ h => h) (Or.inl ⟨by rfl, ?_⟩) (by assumption) ?_
        rotate_left
        · intro w hSw
          try dsimp only at hSw
          go_simp
          try with_reducible rfl
        try simp only [Act.put, List.setIfInBounds_toArray, List.set_cons_zero, List.set_cons_succ]
        refine wpAnyH_take (i := 17) (oi := { dst := some 47, op := Op.move (Operand.tmp 5), type := 3, pos := "ref.go:135", after := #[], guard := none }) (v := ?_) rfl (by kernel_rfl) (by kernel_rfl) (by kernel_rfl) (fun _ _ _ h => h) (Or.inl ⟨by rfl, ?_⟩) (by assumption) ?_
        rotate_left
        · intro w hSw
          try dsimp only at hSw
          go_simp
          try with_reducible rfl
        try simp only [Act.put, List.setIfInBounds_toArray, List.set_cons_zero, List.set_cons_succ]
        refine wpAnyH_take (i := 18) (oi := { dst := some 48, op := Op.move (Operand.tmp 1), type := 45, pos := "ref.go:135", after := #[], guard := none }) (v := ?_) rfl (by kernel_rfl) (by kernel_rfl) (by kernel_rfl) (fun _ _ _ h => h) (Or.inl ⟨by rfl, ?_⟩) (by assumption) ?_
        rotate_left
        · intro w hSw
          try dsimp only at hSw
          go_simp
          try with_reducible rfl
        try simp only [Act.put, List.setIfInBounds_toArray, List.set_cons_zero, List.set_cons_succ]
        refine wpAnyH_take (i := 19) (oi := { dst := some 49, op := Op.move (Operand.tmp 6), type := 3, pos := "ref.go:135", after := #[], guard := none }) (v := ?_) rfl (by kernel_rfl) (by kernel_rfl) (by kernel_rfl) (fun _ _ _ h => h) (Or.inl ⟨by rfl, ?_⟩) (by assumption) ?_
        rotate_left
        · intro w hSw
          try dsimp only at hSw
          go_simp
          try with_reducible rfl
        try simp only [Act.put, List.setIfInBounds_toArray, List.set_cons_zero, List.set_cons_succ]
        refine wpAnyH_take (i := 20) (oi := { dst := some 50, op := Op.binOp BinOp.mul 3 (Operand.const (Value.int IntKind.i64 48)) (Operand.tmp 49) 3, type := 3, pos := "ref.go:135", after := #[{ on := 19, ground := Ground.data }], guard := none }) (v := ?_) rfl (by kernel_rfl) (by kernel_rfl) (by kernel_rfl) (fun _ _ _ h => h) (Or.inl ⟨by rfl, ?_⟩) (by assumption) ?_
        rotate_left
        · intro w hSw
          try dsimp only at hSw
          go_simp
          try with_reducible rfl
        try simp only [Act.put, List.setIfInBounds_toArray, List.set_cons_zero, List.set_cons_succ]
        refine wpAnyH_take (i := 21) (oi := { dst := some 51, op := Op.move (Operand.tmp 1), type := 45, pos := "ref.go:135", after := #[], guard := none }) (v := ?_) rfl (by kernel_rfl) (by kernel_rfl) (by kernel_rfl) (fun _ _ _ h => h) (Or.inl ⟨by rfl, ?_⟩) (by assumption) ?_
        rotate_left
        · intro w hSw
          try dsimp only at hSw
          go_simp
          try with_reducible rfl
        try simp only [Act.put, List.setIfInBounds_toArray, List.set_cons_zero, List.set_cons_succ]
        refine wpAnyH_take (i := 22) (oi := { dst := some 52, op := Op.call { callee := Callee.builtin Builtin.len, args := #[Operand.tmp 51], argTypes := #[45] }, type := 3, pos := "ref.go:135", after := #[{ on := 21, ground := Ground.data }], guard := none }) (v := ?_) rfl (by kernel_rfl) (by kernel_rfl) (by kernel_rfl) (fun _ _ _ h => h) (Or.inl ⟨by rfl, ?_⟩) (by assumption) ?_
        rotate_left
        · intro w hSw
          try dsimp only at hSw
          go_simp
          try with_reducible rfl
        try simp only [Act.put, List.setIfInBounds_toArray, List.set_cons_zero, List.set_cons_succ]
        refine wpAnyH_take (i := 23) (oi := { dst := some 53, op := Op.move (Operand.tmp 6), type := 3, pos := "ref.go:135", after := #[], guard := none }) (v := ?_) rfl (by kernel_rfl) (by kernel_rfl) (by kernel_rfl) (fun _ _ _ h => h) (Or.inl ⟨by rfl, ?_⟩) (by assumption) ?_
        rotate_left
        · intro w hSw
          try dsimp only at hSw
          go_simp
          try with_reducible rfl
        try simp only [Act.put, List.setIfInBounds_toArray, List.set_cons_zero, List.set_cons_succ]
        refine wpAnyH_take (i := 24) (oi := { dst := some 54, op := Op.binOp BinOp.mul 3 (Operand.const (Value.int IntKind.i64 48)) (Operand.tmp 53) 3, type := 3, pos := "ref.go:135", after := #[{ on := 23, ground := Ground.data }], guard := none }) (v := ?_) rfl (by kernel_rfl) (by kernel_rfl) (by kernel_rfl) (fun _ _ _ h => h) (Or.inl ⟨by rfl, ?_⟩) (by assumption) ?_
        rotate_left
        · intro w hSw
          try dsimp only at hSw
          go_simp
          try with_reducible rfl
        try simp only [Act.put, List.setIfInBounds_toArray, List.set_cons_zero, List.set_cons_succ]
        refine wpAnyH_take (i := 25) (oi := { dst := some 55, op := Op.binOp BinOp.add 3 (Operand.tmp 54) (Operand.const (Value.int IntKind.i64 48)) 3, type := 3, pos := "ref.go:135", after := #[{ on := 24, ground := Ground.data }], guard := none }) (v := ?_) rfl (by kernel_rfl) (by kernel_rfl) (by kernel_rfl) (fun _ _ _ h => h) (Or.inl ⟨by rfl, ?_⟩) (by assumption) ?_
        rotate_left
        · intro w hSw
          try dsimp only at hSw
          go_simp
          try with_reducible rfl
        try simp only [Act.put, List.setIfInBounds_toArray, List.set_cons_zero, List.set_cons_succ]
        refine wpAnyH_take (i := 26) (oi := { dst := some 56, op := Op.call { callee := Callee.builtin Builtin.min, args := #[Operand.tmp 52, Operand.tmp 55], argTypes := #[3, 3] }, type := 3, pos := "ref.go:135", after := #[{ on := 22, ground := Ground.data }, { on := 25, ground := Ground.data }], guard := none }) (v := ?_) rfl (by kernel_rfl) (by kernel_rfl) (by kernel_rfl) (fun _ _ _ h => h) (Or.inl ⟨by rfl, ?_⟩) (by assumption) ?_
        rotate_left
        · intro w hSw
          try dsimp only at hSw
          go_simp
          try with_reducible rfl
        try simp only [Act.put, List.setIfInBounds_toArray, List.set_cons_zero, List.set_cons_succ]
        refine wpAnyH_take (i := 27) (oi := { dst := some 57, op := Op.slice 45 (Operand.tmp 48) (some (Operand.tmp 50)) (some (Operand.tmp 56)) none, type := 45, pos := "ref.go:135", after := #[{ on := 18, ground := Ground.data }, { on := 20, ground := Ground.data }, { on := 26, ground := Ground.data }], guard := none }) (v := ?_) rfl (by kernel_rfl) (by kernel_rfl) (by kernel_rfl) (fun _ _ _ h => h) (Or.inl ⟨by rfl, ?_⟩) (by assumption) ?_
        rotate_left
        · intro w hSw
          try dsimp only at hSw
          go_simp
          try with_reducible rfl
        try simp only [Act.put, List.setIfInBounds_toArray, List.set_cons_zero, List.set_cons_succ]
        refine wpAnyH_ready (rs := [28]) (by kernel_rfl) (by simp) ?_
        refine AllReadyH.cons (o := { dst := some 58, op := Op.call { callee := Callee.value (Operand.func 49), args := #[Operand.tmp 45, Operand.tmp 46, Operand.tmp 47, Operand.tmp 57], argTypes := #[36, 3, 3, 45] }, type := 45, pos := "ref.go:135", after := #[{ on := 15, ground := Ground.data }, { on := 16, ground := Ground.data }, { on := 17, ground := Ground.data }, { on := 27, ground := Ground.data }], guard := none }) rfl (fun K hK => ?_) AllReadyH.nil
        go_simp
        with_reducible refine HSe.out.mono ?_
        clear HSe
        rintro e w5 ⟨p5, c5, rfl, hrd5, hb5⟩
        have HL5 := Lib.hid (HLd.out.more hb5)
        have hT5 : (fun W : World => W.cell? ⟨A, 0, none⟩ = some (.pointer (some ⟨g.d, 0, none⟩)) ∧ W.cell? ⟨A, 1, none⟩ = some (.int .i64 (g.frm : Int)) ∧ W.cell? ⟨A, 3, none⟩ = some (.int .i64 (g.place : Int))) w5 := ⟨HL5.out.lg.cell 0, HL5.out.lg.cell 1, HL5.out.lg.cell 3⟩
        have hW5 := rWrite_like HL5.out.rr HL5.out.l p5 _ c5 _ hrd5 (fun h0 bk o2 e5 => rd_neD HL5.out.rr (by rw [e5] at hrd5; exact hrd5) h0) (by omega) (by omega) ((g.frm : Int) + g.place + i)
        rw [dWrite_hdr _ _ _ _ _ _ _ _ HPl.out hz] at hW5
        have HW5 := Lib.hid hW5
        clear hrd5 hb5 HLd hW5
        try go_wp2_with fail
        refine hK.out _ _ hT5 (fun _ => ?_)
        clear hK K
        try simp only [Act.put, List.setIfInBounds_toArray, List.set_cons_zero, List.set_cons_succ]
        clear hT
        refine wpAnyH_ready (rs := [29]) (by kernel_rfl) (by simp) ?_
        refine AllReadyH.cons (o := { dst := some 59, op := Op.call { callee := Callee.value (Operand.func 20), args := #[Operand.tmp 33, Operand.tmp 44, Operand.tmp 58], argTypes := #[29, 3, 45] }, type := 26, pos := "ref.go:135", after := #[{ on := 3, ground := Ground.data }, { on := 14, ground := Ground.data }, { on := 28, ground := Ground.data }, { on := 28, ground := Ground.chain }], guard := none }) rfl (fun K hK => ?_) AllReadyH.nil
        go_simp
        with_reducible refine HW5.out.mono ?_
        clear HW5
        rintro e w7 ⟨S7, P7, r7, rfl, hr7, hl7, hb7, ht7⟩
        have HL7 := Lib.hid (HL5.out.next hr7 hl7 hb7 ht7)
        have hT7 : (fun W : World => W.cell? ⟨A, 0, none⟩ = some (.pointer (some ⟨g.d, 0, none⟩)) ∧ W.cell? ⟨A, 1, none⟩ = some (.int .i64 (g.frm : Int)) ∧ W.cell? ⟨A, 3, none⟩ = some (.int .i64 (g.place : Int))) w7 := ⟨HL7.out.lg.cell 0, HL7.out.lg.cell 1, HL7.out.lg.cell 3⟩
        have hwb := dWrite_bd m' ((g.frm : Int) + g.place + i) (mk g.ses g.num i count ((b.drop (i * 48)).take 48))
        clear hr7 hl7 hb7 ht7 HL5
        try go_wp2_with fail
        refine hK.out _ _ hT7 (fun _ => ?_)
        clear hK K
        try simp only [Act.put, List.setIfInBounds_toArray, List.set_cons_zero, List.set_cons_succ]
        clear hT5
        refine wpAnyH_take (i := 30) (oi := { dst := some 7, op := Op.assign (Operand.tmp 59), type := 26, pos := "ref.go:135", after := #[{ on := 29, ground := Ground.data }, { on := 29, ground := Ground.chain }, { on := 0, ground := Ground.phase }, { on := 1, ground := Ground.phase }, { on := 2, ground := Ground.phase }, { on := 3, ground := Ground.phase }, { on := 4, ground := Ground.phase }, { on := 5, ground := Ground.phase }, { on := 6, ground := Ground.phase }, { on := 7, ground := Ground.phase }, { on := 8, ground := Ground.phase }, { on := 9, ground := Ground.phase }, { on := 10, ground := Ground.phase }, { on := 11, ground := Ground.phase }, { on := 12, ground := Ground.phase }, { on := 13, ground := Ground.phase }, { on := 14, ground := Ground.phase }, { on := 15, ground := Ground.phase }, { on := 16, ground := Ground.phase }, { on := 17, ground := Ground.phase }, { on := 18, ground := Ground.phase }, { on := 19, ground := Ground.phase }, { on := 20, ground := Ground.phase }, { on := 21, ground := Ground.phase }, { on := 22, ground := Ground.phase }, { on := 23, ground := Ground.phase }, { on := 24, ground := Ground.phase }, { on := 25, ground := Ground.phase }, { on := 26, ground := Ground.phase }, { on := 27, ground := Ground.phase }, { on := 28, ground := Ground.phase }, { on := 29, ground := Ground.phase }], guard := none }) (v := ?_) rfl (by kernel_rfl) (by kernel_rfl) (by kernel_rfl) (fun _ _ _ h => h) (Or.inl ⟨by rfl, ?_⟩) (by assumption) ?_
        rotate_left
        · intro w hSw
          try dsimp only at hSw
          go_simp
          try with_reducible rfl
        try simp only [Act.put, List.setIfInBounds_toArray, List.set_cons_zero, List.set_cons_succ]
        refine wpAnyH_done (by kernel_rfl) ?_ _
        clear hT7
        have HEq : Hid (layGo g b count (f + 1) i m' = _) := layGo.eq_2 g b count i m' f
        have HE8 := Lib.hid (HE.out.trans HEq.out)
        clear HEq HE ws1 ws2
        generalize dWrite m' ((g.frm : Int) + g.place + i) (mk g.ses g.num i count ((b.drop (i * 48)).take 48)) = q at HL7 hwb HE8 ⊢
        obtain ⟨m8, ec⟩ := q
        dsimp only at hwb HE8 HL7 ⊢
        by_cases hec : ec = 0
        · subst hec
          have HE9 := Lib.hid (HE8.out.trans (if_pos rfl))
          clear HE8
          go_wp2_with fail
          constructor
          · exact ⟨f, i + 1, m8, S7, P7, r7, by go_num, by omega, by omega, by omega, HE9.out, HL7.out⟩
          · show count - ((i : Int) + 1).toNat < count - (i : Int).toNat
            omega
        · have HE9 := Lib.hid (HE8.out.trans (if_neg hec))
          have de : (ec != 0) = true := by simpa using hec
          have hfr6 := HL7.out.lg.frozen 6
          have hc6 := HL7.out.lg.cell 6
          simp only [lgcells] at hc6
          simp at hc6
          have HFin : Hid (RAPost B g.d N A X w (.returned (.int .i64 ec)) (w7.setCell ⟨A, 6, none⟩ (.bool true))) := by
            show RAPost _ _ _ _ _ _ _ _
            rw [HX.out, HE9.out, if_neg hec]
            obtain ⟨t1, t2, t3⟩ := HL7.out.lg.turn (g' := { g with broken := true }) 6 (.bool true) rfl HBA.out (Below.refl B w7)
            exact HL7.out.fin t1 t2 t3 ec
          clear HE8 HE9 HL7 hec hwb
          go_wp2_with fail
          go_ret
          exact HFin.out
    · have di : decide ((i : Int) < (count : Int)) = false := decide_eq_false (by omega)
      obtain rfl : f = 0 := by omega
      have c0 := HL.out.lg.cell 0
      simp only [lgcells] at c0
      simp at c0
      have HSy := Lib.hid (rSync_like HL.out.rr HL.out.l (by omega))
      have HE8 : Hid (layGo g b count count 0 m = dSync m') := HE.out
      clear HE
      go_wp2_with fail
      with_reducible refine HSy.out.mono ?_
      clear HSy c0
      rintro e w7 ⟨S7, P7, r7, rfl, hr7, hl7, hb7, ht7⟩
      have HL7 := Lib.hid (HL.out.next hr7 hl7 hb7 ht7)
      clear hr7 hl7 hb7 ht7 HL
      generalize dSync m' = q at HL7 HE8 ⊢
      obtain ⟨m8, ec⟩ := q
      dsimp only at HE8 HL7 ⊢
      by_cases hec : ec = 0
      · subst hec
        have c3 := HL7.out.lg.cell 3
        have c4 := HL7.out.lg.cell 4
        simp only [lgcells] at c3 c4
        simp at c3 c4
        have hf3 := HL7.out.lg.frozen 3
        have hf4 := HL7.out.lg.frozen 4
        have wsp : IntKind.i64.wrap ((g.place : Int) + (count : Int)) = (g.place : Int) + count := by rw [IntKind.wrap_i64]; omega
        have HFin : Hid (RAPost B g.d N A X w (.returned (.int .i64 0)) ((w7.setCell ⟨A, 3, none⟩ (.int .i64 ((g.place : Int) + count))).setCell ⟨A, 4, none⟩ (.int .u32 ((g.num + 1) % 4294967296)))) := by
          show RAPost _ _ _ _ _ _ _ _
          rw [HX.out, HE8.out, if_pos rfl]
          obtain ⟨t1, t2, t3⟩ := HL7.out.lg.turn (g' := { g with place := g.place + count }) 3 (.int .i64 ((g.place : Int) + count)) (by simp [lgcells]) HBA.out (Below.refl B w7)
          obtain ⟨t4, t5, t6⟩ := t1.turn (g' := { g with place := g.place + count, num := (g.num + 1) % 4294967296 }) 4 (.int .u32 ((g.num + 1) % 4294967296)) rfl HBA.out t2
          exact HL7.out.fin t4 t5 (fun k hk => (t6 k hk).trans (t3 k hk)) 0
        clear HE8 HL7
        go_wp2_with fail
        go_ret
        exact HFin.out
      · have de : (ec != 0) = true := by simpa using hec
        have hfr6 := HL7.out.lg.frozen 6
        have hc6 := HL7.out.lg.cell 6
        simp only [lgcells] at hc6
        simp at hc6
        have HFin : Hid (RAPost B g.d N A X w (.returned (.int .i64 ec)) (w7.setCell ⟨A, 6, none⟩ (.bool true))) := by
          show RAPost _ _ _ _ _ _ _ _
          rw [HX.out, HE8.out, if_neg hec]
          obtain ⟨t1, t2, t3⟩ := HL7.out.lg.turn (g' := { g with broken := true }) 6 (.bool true) rfl HBA.out (Below.refl B w7)
          exact HL7.out.fin t1 t2 t3 ec
        clear HE8 HL7 hec
        go_wp2_with fail
        go_ret
        exact HFin.out
end Go.Proofs.Yticiaiiedagalaa.dk
