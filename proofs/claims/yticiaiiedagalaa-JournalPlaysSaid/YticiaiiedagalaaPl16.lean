/- A disk without a limit, behind a record that is laid. -/
import Derived.Test.YticiaiiedagalaaPl15
namespace Go.Proofs.Yticiaiiedagalaa.dk
open Go.PlainAid Go.ChangeShapes Go.WideShapes Go.ChangeAt Go.RowKit

/-- A disk that lives, without a limit. -/
structure Free (m : Dk) : Prop where
  dead : m.dead = false
  lim : m.limit < 0
  len : m.now.length = m.n * 64
  con : m.now = laidOf m.laid m.pend
  by_ : Bys m.now
theorem spent_free {m : Dk} (h : m.limit < 0) : spent m = { m with writes := m.writes + 1 } := by unfold spent; rw [if_pos h]
theorem pad_full {l : List Int} (h : l.length = 64) : pad l = l := by unfold pad; rw [h]; simp
theorem dWrite_free {m : Dk} (h : Free m) (x : Nat) (l : List Int) (hx : x < m.n) (hl : l.length = 64) : dWrite m (x : Int) l = ({ m with writes := m.writes + 1, now := lay m.now (x * 64) l, pend := m.pend ++ [(x, l)] }, 0) := by
  have hlim := h.lim
  unfold dWrite
  rw [if_neg (by rw [h.dead]; decide), if_neg (by omega), if_neg (by omega), spent_free h.lim, pad_full hl]
  rfl
theorem Bys.lay {l b : List Int} (h : Bys l) (hb : Bys b) (off : Nat) : Bys (lay l off b) := ((h.take _).app hb).app (h.drop _)
theorem Free.wrote {m : Dk} (h : Free m) (x : Nat) (l : List Int) (hx : x < m.n) (hl : l.length = 64) (hb : Bys l) : Free { m with writes := m.writes + 1, now := lay m.now (x * 64) l, pend := m.pend ++ [(x, l)] } where
  dead := h.dead
  lim := h.lim
  len := by show (Go.Proofs.Yticiaiiedagalaa.dk.lay m.now (x * 64) l).length = _; rw [lay_length (by rw [hl, h.len]; omega)]; exact h.len
  con := by show Go.Proofs.Yticiaiiedagalaa.dk.lay m.now (x * 64) l = laidOf m.laid (m.pend ++ [(x, l)]); rw [laidOf_snoc, ← h.con]
  by_ := h.by_.lay hb _
theorem dSync_free {m : Dk} (h : Free m) : dSync m = ({ m with writes := m.writes + 1, laid := m.now, pend := [] }, 0) := by
  have hlim := h.lim
  unfold dSync
  rw [if_neg (by rw [h.dead]; decide), if_neg (by omega), spent_free h.lim, ← h.con]
/-- What a disk holds behind a record's pieces from the i-th one on. -/
structure Laid (g : Lg) (b : List Int) (count f i : Nat) (m m2 : Dk) : Prop where
  free : Free m2
  n : m2.n = m.n
  pend : m2.pend = []
  wr : m2.writes = m.writes + f + 1
  sec : ∀ j, j < m.n → secOf m2.now j = if g.frm + g.place + i ≤ j ∧ j < g.frm + g.place + count then pieceOf g.ses g.num b count (j - (g.frm + g.place)) else secOf m.now j
theorem lay_free (g : Lg) (b : List Int) (count : Nat) (hb : Bys b) : ∀ (f i : Nat) (m : Dk), f + i = count → Free m → g.frm + g.place + count ≤ m.n → (layGo g b count f i m).2 = 0 ∧ Laid g b count f i m (layGo g b count f i m).1
  | 0, i, m, hfi, hm, hn => by
    show (dSync m).2 = 0 ∧ Laid g b count 0 i m (dSync m).1
    rw [dSync_free hm]
    refine ⟨rfl, ⟨⟨hm.dead, hm.lim, hm.len, rfl, hm.by_⟩, rfl, rfl, by show m.writes + 1 = m.writes + 0 + 1; omega, fun j hj => ?_⟩⟩
    rw [if_neg (by omega)]
  | f + 1, i, m, hfi, hm, hn => by
    have hl : (pieceOf g.ses g.num b count i).length = 64 := mk_length _ _ _ _ _ (chunk_len b i)
    have hx : g.frm + g.place + i < m.n := by omega
    have hbp : Bys (pieceOf g.ses g.num b count i) := mk_bys _ _ _ _ _ (chunk_len b i) ((hb.drop _).take _)
    have hw : dWrite m ((g.frm : Int) + g.place + i) (mk g.ses g.num i count ((b.drop (i * 48)).take 48)) = _ := dWrite_free hm (g.frm + g.place + i) (pieceOf g.ses g.num b count i) hx hl
    have ih := lay_free g b count hb f (i + 1) _ (by omega) (hm.wrote (g.frm + g.place + i) _ hx hl hbp) hn
    rw [layGo.eq_2, hw, if_pos rfl]
    refine ⟨ih.1, ⟨ih.2.free, ih.2.n, ih.2.pend, by rw [ih.2.wr]; show m.writes + 1 + f + 1 = m.writes + (f + 1 : Nat) + 1; omega, fun j hj => ?_⟩⟩
    rw [ih.2.sec j hj]
    have e := lay_sec2 (j := j) hl hm.len hx hj
    show (if _ then _ else secOf (lay m.now ((g.frm + g.place + i) * 64) (pieceOf g.ses g.num b count i)) j) = _
    rw [e]
    by_cases h1 : g.frm + g.place + i = j
    · subst h1
      rw [if_neg (by omega), if_pos rfl, if_pos (by omega), show g.frm + g.place + i - (g.frm + g.place) = i by omega]
    · rw [if_neg h1]
      by_cases h2 : g.frm + g.place + (i + 1) ≤ j ∧ j < g.frm + g.place + count
      · rw [if_pos h2, if_pos (by omega)]
      · rw [if_neg h2, if_neg (by omega)]
theorem free_fresh (n : Nat) : Free (fresh n) := ⟨rfl, show (-1 : Int) < 0 by omega, List.length_replicate, rfl, Bys.rep _⟩
theorem pc_zero : pcOf (List.replicate 64 0) = none := by decide
theorem pcF_fresh (n frm i : Nat) (h : frm + i < n) : pcF (fresh n).now frm i = none := by
  unfold pcF
  rw [show secOf (fresh n).now (frm + i) = List.replicate 64 0 from secOf_rep (n * 64) _ (by omega)]
  exact pc_zero
theorem gr_none (f : List Int → Int) (F : Nat → Option (List Int)) : ∀ n, (∀ i, i < n → F i = none) → gr2 f F n = 0
  | 0, _ => rfl
  | n + 1, h => by
    rw [gr2_succ, gr_none f F n (fun i hi => h i (by omega)), h n (by omega)]
    rfl
theorem pc_piece (s nu : Int) (b : List Int) (c i : Nat) : pcOf (pieceOf s nu b c i) = some (pieceOf s nu b c i) := by
  unfold pcOf
  rw [if_pos (show isP (pieceOf s nu b c i) = true from mk_is _ _ _ _ _ (chunk_len b i))]
theorem gr_le (f : List Int → Int) (F : Nat → Option (List Int)) (s : Int) (h0 : 0 ≤ s) : ∀ n, (∀ i p, i < n → F i = some p → f p ≤ s) → gr2 f F n ≤ s
  | 0, _ => by simpa [gr2, gr] using h0
  | n + 1, h => by
    have ih := gr_le f F s h0 n (fun i p hi hp => h i p (by omega) hp)
    rw [gr2_succ]
    match hf : F n with
    | none => exact ih
    | some p => have := h n p (by omega) hf; show max (gr2 f F n) (f p) ≤ s; omega
theorem gr_ge (f : List Int → Int) (F : Nat → Option (List Int)) (i : Nat) (p : List Int) (hp : F i = some p) : ∀ n, i < n → f p ≤ gr2 f F n
  | n + 1, h => by
    rw [gr2_succ]
    by_cases hi : i = n
    · subst hi
      rw [hp]
      show f p ≤ max _ (f p)
      omega
    · have ih := gr_ge f F i p hp n (by omega)
      match hf : F n with
      | none => exact ih
      | some q => show f p ≤ max (gr2 f F n) (f q); omega
theorem piece_S (s nu : Int) (b : List Int) (c i : Nat) (h : 0 ≤ s ∧ s ≤ 4294967295) : fS (pieceOf s nu b c i) = s := mk_S _ _ _ _ _ h.1 h.2
theorem piece_N (s nu : Int) (b : List Int) (c i : Nat) (h : 0 ≤ nu ∧ nu ≤ 4294967295) : fN (pieceOf s nu b c i) = nu := mk_N _ _ _ _ _ h.1 h.2
theorem piece_P (s nu : Int) (b : List Int) (c i : Nat) (h : i ≤ 65535) : fP (pieceOf s nu b c i) = i := mk_P _ _ _ _ _ (by omega) (by omega)
/-- What lies in a fresh part. -/
theorem told_none (now : List Int) (frm n : Nat) (h : ∀ i, i < n → pcF now frm i = none) : toldOf now frm n = (0, 1, []) ∧ sesOf now frm n = 0 := by
  refine ⟨?_, gr_none _ _ n h⟩
  unfold toldOf
  rw [gr_none _ _ n h]
  by_cases hn : n = 0
  · subst hn; rfl
  · exact gath_none _ _ _ _ (h 0 (by omega))
/-- What Append leaves where there is room and no limit. -/
theorem append_free (g : Lg) (m : Dk) (b : List Int) (hb : Bys b) (hm : Free m) (hg : g.broken = false) (hf : g.place + needN b.length ≤ g.n) (hn : g.frm + g.n ≤ m.n) (hbig : needN b.length ≤ 65535) :
    ∃ m2, appendOf g m b = ({ g with place := g.place + needN b.length, num := (g.num + 1) % 4294967296 }, m2, 0) ∧ Laid g b (needN b.length) (needN b.length) 0 m m2 := by
  obtain ⟨h1, h2⟩ := lay_free g b (needN b.length) hb (needN b.length) 0 m rfl hm (by omega)
  refine ⟨_, ?_, h2⟩
  unfold appendOf
  rw [if_neg (by rw [hg]; decide), if_neg (by omega), if_neg (by omega), if_pos h1]
theorem xd_fresh {B D L N : Nat} {P : Value} {m : Dk} {w : World} (h : DiskAt B D L N P m w) {g : Nat} (hg : w.heap.size ≤ g) : ¬ Xd D L N P g := by
  have hl := h.lt
  rintro (e | e | e | e)
  · omega
  · omega
  · omega
  · have := (h.hP.lt g e).2; omega
end Go.Proofs.Yticiaiiedagalaa.dk
/- The document's example of the journal: awake answers true. -/
namespace Go.Proofs.Yticiaiiedagalaa.dk
open Go.PlainAid Go.ChangeShapes Go.WideShapes Go.ChangeAt Go.RowKit

theorem RecAt.get {B n cc : Nat} {p : Option Addr} {R : List (List Int)} {vs : List Value} {W : World} (h : RecAt B (.slice p n cc) R vs W) (i : Nat) (hi : i < R.length) : ∃ g q c2, p = some ⟨g, 0, none⟩ ∧ W.cell? ⟨g, i, none⟩ = some (.slice q (R.getD i []).length c2) ∧ Rd W q (R.getD i []).length (R.getD i []) := by
  obtain ⟨q, c2, e, ho⟩ := h.el i hi
  rcases h.own.2 with ⟨hv, h0⟩ | ⟨g, cap, cur, hv, _⟩
  · omega
  · injection hv with hp _ _
    refine ⟨g, q, c2, hp, ?_, owned_rd ho⟩
    have := h.own.cells (g := g) (by rw [hp]; rfl) i _ e
    rw [add_off, Nat.zero_add] at this
    exact this
theorem strOf_97 : strOf [97] = ⟨#[97]⟩ := by rfl
theorem strOf_98 : strOf [98] = ⟨#[98]⟩ := by rfl
theorem src_one {B D L N : Nat} {P : Value} {m : Dk} {w w2 : World} {x : Int} (h : DiskAt B D L N P m w) (hs : w2.heap.size = w.heap.size + 1) (hc : w2.cell? ⟨w.heap.size, 0, none⟩ = some (.int .u8 x)) : Src D L N P w2 (some ⟨w.heap.size, 0, none⟩) 1 [x] :=
  ⟨⟨rfl, fun _ => ⟨_, _, rfl, by omega, fun j hj => by
    obtain rfl : j = 0 := by omega
    exact hc⟩⟩, fun g off e _ => by
    injection e with e
    injection e with e1 e2
    rw [← e1]
    exact xd_fresh h (Nat.le_refl _)⟩
theorem logOf_fresh (D n frm k : Nat) (h : frm + k ≤ n) : logOf D frm k (fresh n).now = { d := D, frm := frm, n := k, place := 0, num := 1, ses := 1, broken := false } := by
  obtain ⟨h1, h2⟩ := told_none (fresh n).now frm k (fun i hi => pcF_fresh n frm i (by omega))
  unfold logOf
  rw [h1, h2]
  rfl
theorem Laid.at_ {D frm n pl : Nat} {nu s : Int} {br : Bool} {b : List Int} {count f i : Nat} {m m2 : Dk} (h : Laid { d := D, frm := frm, n := n, place := pl, num := nu, ses := s, broken := br } b count f i m m2) (j : Nat) (hj : j < m.n) :
    secOf m2.now j = if frm + pl + i ≤ j ∧ j < frm + pl + count then pieceOf s nu b count (j - (frm + pl)) else secOf m.now j := h.sec j hj
/-- What two records that are appended are told as. -/
theorem told_two (D : Nat) (m1 m2 : Dk) (h1 : Laid { d := D, frm := 1, n := 6, place := 0, num := 1, ses := 1, broken := false } [97] 1 1 0 (fresh 8) m1) (h2 : Laid { d := D, frm := 1, n := 6, place := 1, num := 2, ses := 1, broken := false } [98] 1 1 0 m1 m2) :
    (toldOf m2.now 1 6).2.2 = [[97], [98]] ∧ sesOf m2.now 1 6 ≠ 4294967295 := by
  have hn1 : m1.n = 8 := h1.n
  have s1 : secOf m2.now 1 = pieceOf 1 1 [97] 1 0 := by
    rw [h2.at_ 1 (by omega), if_neg (by omega), h1.at_ 1 (by decide), if_pos (by omega)]
  have s2 : secOf m2.now 2 = pieceOf 1 2 [98] 1 0 := by
    rw [h2.at_ 2 (by omega), if_pos (by omega)]
  have s3 : ∀ i, 2 ≤ i → i < 6 → pcF m2.now 1 i = none := fun i h i6 => by
    unfold pcF
    rw [h2.at_ (1 + i) (by omega), if_neg (by omega), h1.at_ (1 + i) (by show 1 + i < 8; omega), if_neg (by omega)]
    exact pcF_fresh 8 1 i (by omega)
  have f0 : pcF m2.now 1 0 = some (pieceOf 1 1 [97] 1 0) := by unfold pcF; rw [s1]; exact pc_piece _ _ _ _ _
  have f1 : pcF m2.now 1 1 = some (pieceOf 1 2 [98] 1 0) := by unfold pcF; rw [s2]; exact pc_piece _ _ _ _ _
  have r0 : RecHere (pcF m2.now 1) 6 0 1 1 [97] := ⟨by decide, by decide, by decide, by decide, fun i hi => by
    obtain rfl : i = 0 := by have : needN ([97] : List Int).length = 1 := rfl; omega
    exact f0⟩
  have r1 : RecHere (pcF m2.now 1) 6 1 1 2 [98] := ⟨by decide, by decide, by decide, by decide, fun i hi => by
    obtain rfl : i = 0 := by have : needN ([98] : List Int).length = 1 := rfl; omega
    exact f1⟩
  refine ⟨?_, ?_⟩
  · have e0 := gath_rec r0 5 ((gr2 fN (pcF m2.now 1) 6 + 1) % 4294967296) none [] rfl
    have e1 := gath_rec r1 4 2 (some (pieceOf 1 1 [97] 1 0)) [[97]] (by decide)
    have e2 := gath_none (n := 6) 4 3 (some (pieceOf 1 2 [98] 1 0)) [[97], [98]] (s3 2 (by omega) (by omega))
    have e : toldOf m2.now 1 6 = (2, 3, [[97], [98]]) := e0.trans (e1.trans e2)
    rw [e]
  · have := gr_le fS (pcF m2.now 1) 1 (by omega) 6 (fun i p hi hp => by
      rcases (show i = 0 ∨ i = 1 ∨ 2 ≤ i by omega) with rfl | rfl | h
      · rw [f0] at hp; cases hp; exact Int.le_of_eq (piece_S _ _ _ _ _ (by decide))
      · rw [f1] at hp; cases hp; exact Int.le_of_eq (piece_S _ _ _ _ _ (by decide))
      · rw [s3 i h hi] at hp; cases hp)
    unfold sesOf
    omega
theorem Append_at {B D L N A : Nat} {P : Value} {m : Dk} {w : World} {frm n pl : Nat} {nu s : Int} {br : Bool} (h : DiskAt B D L N P m w) (hg : LogAt A { d := D, frm := frm, n := n, place := pl, num := nu, ses := s, broken := br } w) (hBA : B ≤ A) (gb off k c : Nat) (b : List Int) (hS : Src D L N P w (some ⟨gb, off, none⟩) k b) (hkc : k ≤ c) (hc : c ≤ 100000000)
    (hfp : frm + pl ≤ 1000000) (hn : n ≤ 100000) (hw : m.writes < 800000) (hp : m.pend.length ≤ 800000) (hnum : 0 ≤ nu ∧ nu ≤ 4294967295) (hses : 0 ≤ s ∧ s ≤ 4294967295) :
    Calls Try.prog 27 #[.pointer (some ⟨A, 0, none⟩), .slice (some ⟨gb, off, none⟩) k c] w (AppPost B D L N P A (appendOf { d := D, frm := frm, n := n, place := pl, num := nu, ses := s, broken := br } m b) w) :=
  Append_any h hg rfl hBA _ k c b hS hkc hc (fun h => by cases h) (fun a h => by cases h; rfl) hfp hn hw hp hnum hses
theorem append_free_at {D frm n pl : Nat} {nu s : Int} {m : Dk} {b : List Int} (hb : Bys b) (hm : Free m) (hf : pl + needN b.length ≤ n) (hn : frm + n ≤ m.n) (hbig : needN b.length ≤ 65535) :
    ∃ m2, appendOf { d := D, frm := frm, n := n, place := pl, num := nu, ses := s, broken := false } m b = ({ d := D, frm := frm, n := n, place := pl + needN b.length, num := (nu + 1) % 4294967296, ses := s, broken := false }, m2, 0) ∧ Laid { d := D, frm := frm, n := n, place := pl, num := nu, ses := s, broken := false } b (needN b.length) (needN b.length) 0 m m2 :=
  append_free _ m b hb hm rfl hf hn hbig
set_option maxHeartbeats 4000000 in
set_option maxRecDepth 100000 in
theorem awake_any (w : World) :
    Calls Try.prog 9 #[] w fun e w' => e = .returned (.bool true) ∧ Below w.heap.size w w' := by
  have hN := New_any 8 w (by omega) (by omega)
  rw [show ((8 : Nat) : Int) = 8 from rfl] at hN
  go_enter Try.func9, Try.ntmps9
  go_wp2_with fail
  with_reducible refine hN.mono ?_
  clear hN
  rintro e w1 ⟨D, L, N, rfl, h1, hb1⟩
  have H1 := Lib.hid h1
  have HB1 := Lib.hid hb1
  have hO : Calls Try.prog 13 #[.pointer (some ⟨D, 0, none⟩), .int .i64 1, .int .i64 6] w1 (OpenPost w1 D 1 6 (fresh 8).now) := Open_ok h1 rfl (free_fresh 8).by_ 1 6 (by omega) (by decide) (by rw [(told_none (fresh 8).now 1 6 (fun i hi => pcF_fresh 8 1 i (by omega))).2]; decide)
  have HO := Lib.hid hO
  clear h1 hb1 hO
  go_wp2_with fail
  with_reducible refine HO.out.mono ?_
  clear HO
  rintro e w2 ⟨A, p2, cc2, vs2, rfl, hA, hl2, _, hb2⟩
  rw [logOf_fresh D 8 1 6 (by omega)] at hl2
  have e2 : Hid ((toldOf (fresh 8).now 1 6).2.2 = []) := by
    show (toldOf (fresh 8).now 1 6).2.2 = []
    rw [(told_none (fresh 8).now 1 6 (fun i hi => pcF_fresh 8 1 i (by omega))).1]
  rw [e2.out]
  have hd2 := H1.out.below hb2
  have hB2 := HB1.out.trans (hb2.mono HB1.out.size)
  have hwA : w.heap.size ≤ A := Nat.le_trans HB1.out.size hA
  obtain ⟨w3, hcz, hz3, hcl, hb3⟩ := conv_lit w2 97
  have hd3 := hd2.below hb3
  have hl3 := hl2.below hb3
  have hB3 := hB2.trans (hb3.mono hB2.size)
  have hS3 := src_one hd2 hz3 hcl
  have ha3 : Calls Try.prog 27 #[.pointer (some ⟨A, 0, none⟩), .slice (some ⟨w2.heap.size, 0, none⟩) 1 1] w3 (AppPost w.heap.size D L N (.slice none 0 0) A (appendOf { d := D, frm := 1, n := 6, place := 0, num := 1, ses := 1, broken := false } (fresh 8) [97]) w3) :=
    Append_at hd3 hl3 hwA _ 0 1 1 [97] hS3 (by omega) (by omega) (by omega) (by omega) (by decide) (by decide) (by omega) (by omega)
  obtain ⟨m1, em1, hm1⟩ := append_free_at (D := D) (frm := 1) (n := 6) (pl := 0) (nu := 1) (s := 1) (m := fresh 8) (b := [97]) (Bys.cons (by omega) Bys.nil) (free_fresh 8) (by decide) (by decide) (by decide)
  rw [em1] at ha3
  have HA3 := Lib.hid ha3
  have HB3 := Lib.hid hB3
  have HM1 := Lib.hid hm1
  clear hl2 hd2 hB2 hz3 hcl hb3 hd3 hl3 hB3 hS3 ha3 em1 hm1 hb2 H1 HB1
  go_wp2_with fail
  with_reducible refine HA3.out.mono ?_
  clear HA3
  rintro e w4 ⟨P4, rfl, hd4, hl4, hf4⟩
  have hB4 := HB3.out.trans hf4.below
  obtain ⟨w5, hcz5, hz5, hcl5, hb5⟩ := conv_lit w4 98
  have hd5 := hd4.below hb5
  have hl5 : LogAt A { d := D, frm := 1, n := 6, place := 1, num := 2, ses := 1, broken := false } w5 := hl4.below hb5
  have hB5 := hB4.trans (hb5.mono hB4.size)
  have hS5 := src_one hd4 hz5 hcl5
  have hwr : m1.writes = 2 := HM1.out.wr
  have hpe : m1.pend = [] := HM1.out.pend
  have hnn : m1.n = 8 := HM1.out.n
  have ha5 : Calls Try.prog 27 #[.pointer (some ⟨A, 0, none⟩), .slice (some ⟨w4.heap.size, 0, none⟩) 1 1] w5 (AppPost w.heap.size D L N P4 A (appendOf { d := D, frm := 1, n := 6, place := 1, num := 2, ses := 1, broken := false } m1 [98]) w5) :=
    Append_at hd5 hl5 hwA _ 0 1 1 [98] hS5 (by omega) (by omega) (by omega) (by omega) (by rw [hwr]; decide) (by rw [hpe]; decide) (by omega) (by omega)
  obtain ⟨m2, em2, hm2⟩ := append_free_at (D := D) (frm := 1) (n := 6) (pl := 1) (nu := 2) (s := 1) (m := m1) (b := [98]) (Bys.cons (by omega) Bys.nil) HM1.out.free (by decide) (by rw [hnn]; decide) (by decide)
  rw [em2] at ha5
  have HA5 := Lib.hid ha5
  have HB5 := Lib.hid hB5
  have hTT := told_two D m1 m2 HM1.out hm2
  have HM2 := Lib.hid hm2
  have HTT := Lib.hid hTT
  clear hd4 hl4 hf4 hB4 hz5 hcl5 hb5 hd5 hl5 hB5 hS5 hwr hpe ha5 em2 hm2 HB3 hTT
  go_wp2_with fail
  with_reducible refine HA5.out.mono ?_
  clear HA5
  rintro e w6 ⟨P6, rfl, hd6, _, hf6⟩
  have hO6 : Calls Try.prog 13 #[.pointer (some ⟨D, 0, none⟩), .int .i64 1, .int .i64 6] w6 (OpenPost w6 D 1 6 m2.now) := Open_ok hd6 HM2.out.free.dead HM2.out.free.by_ 1 6 (by omega) (by show 1 + 6 ≤ m2.n; rw [HM2.out.n, hnn]; decide) HTT.out.2
  have HO6 := Lib.hid hO6
  have HB6 := Lib.hid (HB5.out.trans hf6.below)
  clear hd6 hf6 hO6 HB5
  go_wp2_with fail
  with_reducible refine HO6.out.mono ?_
  clear HO6
  rintro e w7 ⟨A7, p7, cc7, vs7, rfl, _, _, hr7, hb7⟩
  have HB7 := Lib.hid (HB6.out.trans (hb7.mono HB6.out.size))
  rw [HTT.out.1] at hr7 ⊢
  obtain ⟨g0, q0, c0, e0, k0, r0⟩ := hr7.get 0 (by decide)
  obtain ⟨g1, q1, c1, e1, k1, r1⟩ := hr7.get 1 (by decide)
  subst e0
  obtain rfl : g0 = g1 := by injection e1 with e1; injection e1
  have v0 := conv_rd (c := c0) r0
  have v1 := conv_rd (c := c1) r1
  have HNd := Lib.hid (Need_any w7 49 (by omega))
  rw [show strOf (([[97], [98]] : List (List Int)).getD 0 []) = ⟨#[97]⟩ from strOf_97] at v0
  rw [show strOf (([[97], [98]] : List (List Int)).getD 1 []) = ⟨#[98]⟩ from strOf_98] at v1
  rw [show (([[97], [98]] : List (List Int)).getD 0 []).length = 1 from rfl] at v0 k0
  rw [show (([[97], [98]] : List (List Int)).getD 1 []).length = 1 from rfl] at v1 k1
  rw [show ([[97], [98]] : List (List Int)).length = 2 from rfl]
  rw [show need 49 = 2 from rfl] at HNd
  clear hr7 hb7 e1 r0 r1
  go_wp2_with (go_at_call 32; with_reducible refine HNd.out.mono ?_; rintro e w' ⟨rfl, rfl⟩)
  go_ret
  exact ⟨rfl, HB7.out⟩
end Go.Proofs.Yticiaiiedagalaa.dk
