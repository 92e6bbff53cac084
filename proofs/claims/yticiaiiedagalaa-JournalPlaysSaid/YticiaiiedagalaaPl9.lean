/- The pieces of a part, read; the greatest of a field. -/
import Derived.Test.YticiaiiedagalaaPl7
import Derived.Test.YticiaiiedagalaaPl8
namespace Go.Proofs.Yticiaiiedagalaa.dk
open Go.PlainAid Go.ChangeShapes Go.WideShapes Go.ChangeAt Go.RowKit

def pv (o : Option (List Int)) (g : Nat) : Value := match o with | none => .slice none 0 0 | some _ => .slice (some ⟨g, 0, none⟩) 64 64
def prow (n : Nat) (F : Nat → Option (List Int)) (gs : Nat → Nat) : Array Value := ((List.range n).map fun i => pv (F i) (gs i)).toArray
theorem prow_at {n : Nat} {F : Nat → Option (List Int)} {gs : Nat → Nat} (i : Nat) (hi : i < n) : (prow n F gs)[i]? = some (pv (F i) (gs i)) := by
  unfold prow
  rw [List.getElem?_toArray, List.getElem?_map, List.getElem?_range hi]
  rfl
theorem prow_set {n : Nat} {F : Nat → Option (List Int)} {gs : Nat → Nat} (k : Nat) (o : Option (List Int)) (g : Nat) :
    (prow n F gs).setIfInBounds k (pv o g) = prow n (fun i => if i = k then o else F i) (fun i => if i = k then g else gs i) := by
  apply Array.ext_getElem?
  intro j
  rw [Array.getElem?_setIfInBounds]
  by_cases hj : j < n
  · rw [prow_at j hj]
    by_cases hk : k = j
    · subst hk
      rw [if_pos rfl, if_pos (by simpa [prow] using hj), prow_at k hj, if_pos rfl, if_pos rfl]
    · rw [if_neg hk, prow_at j hj, if_neg (fun e => hk e.symm), if_neg (fun e => hk e.symm)]
  · have h1 : (prow n F gs).size ≤ j := by simp [prow]; omega
    have h2 : (prow n (fun i => if i = k then o else F i) (fun i => if i = k then g else gs i)).size ≤ j := by simp [prow]; omega
    rw [Array.getElem?_eq_none h2]
    split
    · rw [if_neg (by omega)]
    · exact Array.getElem?_eq_none h1
/-- Pieces in memory, in a block of their own: nil stands for one that is none. -/
structure PcAt (B b n : Nat) (F : Nat → Option (List Int)) (gs : Nat → Nat) (W : World) : Prop where
  bB : B ≤ b
  row : W.heap[b]? = some (.cells (prow n F gs) 74 (0, 0))
  el : ∀ i, i < n → ∀ l, F i = some l → RowB (gs i) l W ∧ B ≤ gs i
theorem PcAt.lt {B b n : Nat} {F : Nat → Option (List Int)} {gs : Nat → Nat} {W : World} (h : PcAt B b n F gs W) : b < W.heap.size := (Array.getElem?_eq_some_iff.1 h.row).1
theorem PcAt.cell {B b n : Nat} {F : Nat → Option (List Int)} {gs : Nat → Nat} {W : World} (h : PcAt B b n F gs W) (i : Nat) (hi : i < n) : W.cell? ⟨b, i, none⟩ = some (pv (F i) (gs i)) := by
  rw [cell_of_row _ _ _ _ _ _ h.row, prow_at i hi]
theorem PcAt.frozen {B b n : Nat} {F : Nat → Option (List Int)} {gs : Nat → Nat} {W : World} (h : PcAt B b n F gs W) (i : Nat) : W.frozen? ⟨b, i, none⟩ = false := by
  simp [World.frozen?, h.row]
theorem PcAt.below {B b n : Nat} {F : Nat → Option (List Int)} {gs : Nat → Nat} {W W' : World} (h : PcAt B b n F gs W) (hb : Below W.heap.size W W') : PcAt B b n F gs W' :=
  ⟨h.bB, (hb.block _ h.lt).trans h.row, fun i hi l e => ⟨(h.el i hi l e).1.below hb, (h.el i hi l e).2⟩⟩
/-- A piece may be laid to its place. -/
theorem PcAt.put {B b n : Nat} {F : Nat → Option (List Int)} {gs : Nat → Nat} {W W0 : World} (h : PcAt B b n F gs W) (k : Nat) (l : List Int) (g : Nat) (hg : RowB g l W) (hB : B ≤ g) (hb : Below B W0 W) :
    PcAt B b n (fun i => if i = k then some l else F i) (fun i => if i = k then g else gs i) (W.setCell ⟨b, k, none⟩ (.slice (some ⟨g, 0, none⟩) 64 64)) ∧ Below B W0 (W.setCell ⟨b, k, none⟩ (.slice (some ⟨g, 0, none⟩) 64 64)) := by
  have ho : ∀ x l, RowB x l W → RowB x l (W.setRow b ((prow n F gs).setIfInBounds k (.slice (some ⟨g, 0, none⟩) 64 64))) := fun x l hx => by
    have : x ≠ b := by
      rintro rfl
      have h1 : W.heap[x]? = _ := hx
      rw [h.row] at h1
      injection h1 with h1
      injection h1 with _ ht _
      exact absurd ht (by decide)
    exact (setRow_other W b x _ this).trans hx
  have e : (prow n F gs).setIfInBounds k (.slice (some ⟨g, 0, none⟩) 64 64) = prow n (fun i => if i = k then some l else F i) (fun i => if i = k then g else gs i) := prow_set k (some l) g
  rw [setCell_eq_setRow W b k _ _ _ _ h.row]
  refine ⟨⟨h.bB, ?_, fun i hi l' hl => ?_⟩, below_setRow hb h.bB _⟩
  · rw [e] at *
    exact setRow_heap W b _ _ _ _ h.row
  · by_cases hk : i = k
    · simp only [if_pos hk] at hl ⊢
      cases hl
      exact ⟨ho _ _ hg, hB⟩
    · simp only [if_neg hk] at hl ⊢
      exact ⟨ho _ _ (h.el i hi l' hl).1, (h.el i hi l' hl).2⟩
theorem PcAt.same {B b n : Nat} {F F' : Nat → Option (List Int)} {gs : Nat → Nat} {W : World} (h : PcAt B b n F gs W) (e : ∀ i, i < n → F' i = F i) : PcAt B b n F' gs W := by
  have : prow n F' gs = prow n F gs := by
    unfold prow
    congr 1
    apply List.map_congr_left
    intro i hi
    rw [e i (List.mem_range.1 hi)]
  exact ⟨h.bB, by rw [this]; exact h.row, fun i hi l hl => h.el i hi l (by rw [← e i hi]; exact hl)⟩
theorem infoPiece : (Try.prog.info? 74).map (fun i => (i.zero, i.size, i.bytes)) = some (some (.slice none 0 0), 1, 24) := by kernel_rfl
theorem made_nils (k : Nat) (gs : Nat → Nat) : madeCells #[Value.slice none 0 0] k = prow k (fun _ => none) gs := by
  unfold madeCells prow pv
  apply Array.ext
  · simp
  · intro i h1 h2
    simp [Nat.mod_one]
theorem make_pcs (n : Nat) (h : n ≤ 65536) (gs : Nat → Nat) (W : World) : (Instr.makeSlice 67 (.int .i64 (n : Int)) (.int .i64 (n : Int))).run Try.prog W =
    .ok (.slice (some ⟨W.heap.size, 0, none⟩) n n) (W.alloc (.cells (prow n (fun _ => none) gs) 74)) := by
  obtain ⟨i0, hi, hz0, hz1, hz2⟩ := info_parts infoPiece
  have hm := run_make (P := Try.prog) W 67 74 i0 (.slice none 0 0) Try.underlying67 hi hz0 .i64 .i64 (n : Int) (n : Int) (by omega) (by omega) (by rw [hz2]; omega) (by omega)
  rw [hz1, Nat.mul_one, show ((n : Int)).toNat = n from rfl, show (Value.slice none 0 0).cells = #[Value.slice none 0 0] from rfl, made_nils n gs] at hm
  exact hm
/-- The pieces of a part of a disk. -/
def pcF (now : List Int) (frm : Nat) (i : Nat) : Option (List Int) := pcOf (secOf now (frm + i))
def PartPost (B : Nat) (w : World) (n : Nat) (F : Nat → Option (List Int)) (e : Ending) (w' : World) : Prop := ∃ b gs, e = .returned (.tuple #[.slice (some ⟨b, 0, none⟩) n n, .int .i64 0]) ∧ PcAt B b n F gs w' ∧ Below B w w'
theorem prow_ne {n : Nat} {F : Nat → Option (List Int)} {gs : Nat → Nat} (h : 1 ≤ n) : prow n F gs ≠ #[] := by
  intro e
  have := congrArg Array.size e
  simp [prow] at this
  omega
set_option maxHeartbeats 4000000 in
set_option maxRecDepth 100000 in
theorem readPart_ok {B D L N : Nat} {P : Value} {m : Dk} {w : World} (h : DiskAt B D L N P m w) (hd : m.dead = false) (frm n : Nat) (hn : frm + n ≤ m.n) (hn1 : 1 ≤ n) :
    Calls Try.prog 37 #[.pointer (some ⟨D, 0, none⟩), .int .i64 frm, .int .i64 n] w (PartPost w.heap.size w n (pcF m.now frm)) := by
  have hn2 := h.n2
  have hm := make_pcs n (by omega) (fun _ => 0)
  obtain ⟨zs, hz⟩ : ∃ zs, zs = prow n (fun _ => none) (fun _ => 0) := ⟨_, rfl⟩
  rw [← hz] at hm
  have HZ := Lib.hid hz
  have HD := Lib.hid h
  have HF := Lib.hid hn
  have hmn : m.n ≤ 65536 := hn2
  have hs1 : Hid (∀ i, i < n → (secOf m.now (frm + i)).length = 64) := by
    intro i hi
    unfold secOf; rw [List.length_take, List.length_drop]; have := h.nl; omega
  clear hz h
  go_enter Try.func37, Try.ntmps37
  go_wp2_with fail
  generalize hw1 : w.alloc (.cells zs 74) = w1
  have h1 : PcAt w.heap.size w.heap.size n (fun i => if i < 0 then pcF m.now frm i else none) (fun _ => 0) w1 := by
    refine PcAt.same (F := fun _ => none) ⟨Nat.le_refl _, ?_, fun i hi l hl => by cases hl⟩ (fun i _ => if_neg (by omega))
    rw [← hw1, HZ.out]; exact heap_alloc_new _ _
  have hb1 : Below w.heap.size w w1 := by rw [← hw1]; exact (Below.refl _ _).alloc (Nat.le_refl _) _
  have H1 := Lib.hid h1
  have HB1 := Lib.hid hb1
  clear hw1 hm HZ h1 hb1
  go_loopw [16] (fun i wr => ∃ (j : Nat) (gs : Nat → Nat), i = .int .i64 (j : Int) ∧ j ≤ n ∧ Hid (PcAt w.heap.size w.heap.size n (fun i => if i < j then pcF m.now frm i else none) gs wr) ∧ Hid (Below w.heap.size w wr)) (fun i _ => n - (intOf i).toNat)
  case atStart => exact ⟨0, _, rfl, Nat.zero_le _, H1.out, HB1.out⟩
  case round =>
    clear H1 HB1
    obtain ⟨j, gs, rfl, hj, HP, HB⟩ := hrel
    by_cases hjn : j < n
    · have dj : decide ((j : Int) < n) = true := decide_eq_true (by omega)
      have hR := Read_ok (HD.out.below HB.out) hd (frm + j) (by omega)
      rw [Int.natCast_add] at hR
      have HR := Lib.hid hR
      have hwr := HB.out.size
      clear hR
      go_wp2_with fail
      with_reducible refine HR.out.mono ?_
      clear HR
      rintro e w2 ⟨G, rfl, hG, hg, hd2, hb2⟩
      have hrow : RowB G (secOf m.now (frm + j)) w2 := hg
      have HI := isP_any w2 (some ⟨G, 0, none⟩) 64 64 _ (hrow.rd (hs1.out j hjn)) (by omega)
      have HP2 := Lib.hid (HP.out.below hb2)
      have HB2 := Lib.hid (HB.out.trans (hb2.mono hwr))
      have HG := Lib.hid hrow
      have hGB : w.heap.size ≤ G := by omega
      clear hg hd2 hb2 hrow HP HB
      cases hp : isP (secOf m.now (frm + j)) with
      | true =>
        rw [hp] at HI
        have HI := Lib.hid HI
        have c0 := HP2.out.cell j hjn
        have f0 := HP2.out.frozen j
        have hput := HP2.out.put j _ G HG.out hGB HB2.out
        have E1 := Lib.hid hput.1
        have E2 := Lib.hid hput.2
        have HPp := Lib.hid hp
        clear hput hp
        go_wp2_with (go_at_call 51; with_reducible refine HI.out.mono ?_; rintro e w' ⟨rfl, rfl⟩)
        constructor
        · refine ⟨j + 1, _, by go_num, by omega, PcAt.same E1.out (fun i hi => ?_), E2.out⟩
          show (if i < j + 1 then pcF m.now frm i else none) = if i = j then _ else if i < j then pcF m.now frm i else none
          by_cases h1 : i = j
          · subst h1
            rw [if_pos (by omega), if_pos rfl]
            unfold pcF pcOf
            rw [if_pos HPp.out]
          · rw [if_neg h1]
            by_cases h2 : i < j
            · rw [if_pos (by omega), if_pos h2]
            · rw [if_neg (by omega), if_neg h2]
        · show n - ((j : Int) + 1).toNat < n - (j : Int).toNat
          omega
      | false =>
        rw [hp] at HI
        have HI := Lib.hid HI
        have HPp := Lib.hid hp
        clear hp
        go_wp2_with (go_at_call 51; with_reducible refine HI.out.mono ?_; rintro e w' ⟨rfl, rfl⟩)
        constructor
        · refine ⟨j + 1, _, by go_num, by omega, PcAt.same HP2.out (fun i hi => ?_), HB2.out⟩
          show (if i < j + 1 then pcF m.now frm i else none) = if i < j then pcF m.now frm i else none
          by_cases h1 : i = j
          · subst h1
            rw [if_pos (by omega), if_neg (by omega)]
            unfold pcF pcOf
            rw [if_neg (by rw [HPp.out]; decide)]
          · by_cases h2 : i < j
            · rw [if_pos (by omega), if_pos h2]
            · rw [if_neg (by omega), if_neg h2]
        · show n - ((j : Int) + 1).toNat < n - (j : Int).toNat
          omega
    · have dj : decide ((j : Int) < n) = false := decide_eq_false (by omega)
      go_wp2_with fail
      go_ret2
      exact ⟨_, gs, rfl, PcAt.same HP.out (fun i hi => (if_pos (by omega)).symm), HB.out⟩
/-- A field of a piece, as it is called by a function's value. -/
def gr2 (f : List Int → Int) (F : Nat → Option (List Int)) (n : Nat) : Int := gr f ((List.range n).map F)
theorem gr2_succ (f : List Int → Int) (F : Nat → Option (List Int)) (n : Nat) : gr2 f F (n + 1) = pmax f (gr2 f F n) (F n) := by
  unfold gr2
  rw [List.range_succ, List.map_append, List.map_singleton, gr_snoc]
theorem gr2_bd (f : List Int → Int) (F : Nat → Option (List Int)) (hf : ∀ l, 0 ≤ f l ∧ f l ≤ 4294967295) : ∀ n, 0 ≤ gr2 f F n ∧ gr2 f F n ≤ 4294967295
  | 0 => by simp [gr2, gr]
  | n + 1 => by
    rw [gr2_succ]
    have := gr2_bd f F hf n
    unfold pmax
    split
    · exact this
    · rename_i p _; have := hf p; omega
theorem fS_bd (l : List Int) : 0 ≤ fS l ∧ fS l ≤ 4294967295 := hi_bd _
set_option maxHeartbeats 4000000 in
set_option maxRecDepth 100000 in
theorem greatest_session {B b n : Nat} {F : Nat → Option (List Int)} {gs : Nat → Nat} {w : World} (h : PcAt B b n F gs w) (hF : ∀ i l, F i = some l → l.length = 64 ∧ Bys l) (hn : n ≤ 65536) :
    Calls Try.prog 38 #[.slice (some ⟨b, 0, none⟩) n n, .func (.func 39) #[] #[]] w fun e w' => e = .returned (.int .u32 (gr2 fS F n)) ∧ w = w' := by
  have HP := Lib.hid h
  have HF := Lib.hid hF
  clear h hF
  go_enter Try.func38, Try.ntmps38
  go_wp2_with fail
  go_loop [5, 10] (fun v i => ∃ j : Nat, i = .int .i64 (j : Int) ∧ j ≤ n ∧ v = .int .u32 (gr2 fS F j)) (fun _ i => n - (intOf i).toNat)
  case atStart => exact ⟨0, rfl, Nat.zero_le _, rfl⟩
  case round =>
    obtain ⟨j, rfl, hj, rfl⟩ := hrel
    by_cases hjn : j < n
    · have dj : decide ((j : Int) < n) = true := decide_eq_true (by omega)
      have c0 := HP.out.cell j hjn
      have hg := gr2_bd fS F fS_bd j
      cases hf : F j with
      | none =>
        rw [hf] at c0
        have e : Hid (gr2 fS F (j + 1) = gr2 fS F j) := by
          show gr2 fS F (j + 1) = _
          rw [gr2_succ, hf]; rfl
        unfold pv at c0
        clear hf
        generalize gr2 fS F j = x at e hg ⊢
        go_wp2_with fail
        constructor
        · exact ⟨j + 1, by go_num, by omega, by rw [e.out]⟩
        · show n - ((j : Int) + 1).toNat < n - (j : Int).toNat
          omega
      | some l =>
        rw [hf] at c0
        have e : Hid (gr2 fS F (j + 1) = max (gr2 fS F j) (fS l)) := by
          show gr2 fS F (j + 1) = _
          rw [gr2_succ, hf]; rfl
        have hl := HF.out j l hf
        have HS := Lib.hid (session_any w (gs j) l ((HP.out.el j hjn l hf).1.rd hl.1) hl.2)
        have hb := fS_bd l
        unfold pv at c0
        clear hf hl
        generalize gr2 fS F j = x at e hg ⊢
        generalize fS l = y at e hb HS
        go_wp2_with fail
        with_reducible refine HS.out.mono ?_
        rintro e' w' ⟨rfl, rfl⟩
        go_wp2_with fail
        constructor
        · exact ⟨j + 1, by go_num, by omega, by rw [e.out]; congr 1; split <;> omega⟩
        · show n - ((j : Int) + 1).toNat < n - (j : Int).toNat
          omega
    · have dj : decide ((j : Int) < n) = false := decide_eq_false (by omega)
      have e : Hid (j = n) := Nat.le_antisymm hj (by omega)
      go_wp2_with fail
      go_ret
      exact ⟨by rw [← e.out]; rfl, rfl⟩
theorem fN_bd (l : List Int) : 0 ≤ fN l ∧ fN l ≤ 4294967295 := hi_bd _
set_option maxHeartbeats 4000000 in
set_option maxRecDepth 100000 in
theorem greatest_number {B b n : Nat} {F : Nat → Option (List Int)} {gs : Nat → Nat} {w : World} (h : PcAt B b n F gs w) (hF : ∀ i l, F i = some l → l.length = 64 ∧ Bys l) (hn : n ≤ 65536) :
    Calls Try.prog 38 #[.slice (some ⟨b, 0, none⟩) n n, .func (.func 53) #[] #[]] w fun e w' => e = .returned (.int .u32 (gr2 fN F n)) ∧ w = w' := by
  have HP := Lib.hid h
  have HF := Lib.hid hF
  clear h hF
  go_enter Try.func38, Try.ntmps38
  go_wp2_with fail
  go_loop [5, 10] (fun v i => ∃ j : Nat, i = .int .i64 (j : Int) ∧ j ≤ n ∧ v = .int .u32 (gr2 fN F j)) (fun _ i => n - (intOf i).toNat)
  case atStart => exact ⟨0, rfl, Nat.zero_le _, rfl⟩
  case round =>
    obtain ⟨j, rfl, hj, rfl⟩ := hrel
    by_cases hjn : j < n
    · have dj : decide ((j : Int) < n) = true := decide_eq_true (by omega)
      have c0 := HP.out.cell j hjn
      have hg := gr2_bd fN F fN_bd j
      cases hf : F j with
      | none =>
        rw [hf] at c0
        have e : Hid (gr2 fN F (j + 1) = gr2 fN F j) := by
          show gr2 fN F (j + 1) = _
          rw [gr2_succ, hf]; rfl
        unfold pv at c0
        clear hf
        generalize gr2 fN F j = x at e hg ⊢
        go_wp2_with fail
        constructor
        · exact ⟨j + 1, by go_num, by omega, by rw [e.out]⟩
        · show n - ((j : Int) + 1).toNat < n - (j : Int).toNat
          omega
      | some l =>
        rw [hf] at c0
        have e : Hid (gr2 fN F (j + 1) = max (gr2 fN F j) (fN l)) := by
          show gr2 fN F (j + 1) = _
          rw [gr2_succ, hf]; rfl
        have hl := HF.out j l hf
        have HS := Lib.hid (number_any w (gs j) l ((HP.out.el j hjn l hf).1.rd hl.1) hl.2)
        have hb := fN_bd l
        unfold pv at c0
        clear hf hl
        generalize gr2 fN F j = x at e hg ⊢
        generalize fN l = y at e hb HS
        go_wp2_with fail
        with_reducible refine HS.out.mono ?_
        rintro e' w' ⟨rfl, rfl⟩
        go_wp2_with fail
        constructor
        · exact ⟨j + 1, by go_num, by omega, by rw [e.out]; congr 1; split <;> omega⟩
        · show n - ((j : Int) + 1).toNat < n - (j : Int).toNat
          omega
    · have dj : decide ((j : Int) < n) = false := decide_eq_false (by omega)
      have e : Hid (j = n) := Nat.le_antisymm hj (by omega)
      go_wp2_with fail
      go_ret
      exact ⟨by rw [← e.out]; rfl, rfl⟩
end Go.Proofs.Yticiaiiedagalaa.dk
