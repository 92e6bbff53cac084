/- A disk without a limit, behind a record that is laid. -/
import Derived.Test.YticiaiiedagalaaJT
namespace Go.Proofs.Yticiaiiedagalaa.dk
open Go.PlainAid Go.ChangeShapes Go.WideShapes Go.ChangeAt Go.RowKit

/-- A disk that lives, without a limit. -/
structure Free (m : Dk) : Prop where
  dead : m.dead = false
  lim : m.limit < 0
  len : m.now.length = m.n * 64
  con : m.now = laidOf m.laid m.pend
  by_ : Bys m.now
theorem spent_free {m : Dk} (h : m.limit < 0) : spent m = { m with writes := m.writes + 1 } := by unfold spent; rw [if_pos h]
theorem pad_full {l : List Int} (h : l.length = 64) : pad l = l := by unfold pad; rw [h]; simp
theorem dWrite_free {m : Dk} (h : Free m) (x : Nat) (l : List Int) (hx : x < m.n) (hl : l.length = 64) : dWrite m (x : Int) l = ({ m with writes := m.writes + 1, now := lay m.now (x * 64) l, pend := m.pend ++ [(x, l)] }, 0) := by
  have hlim := h.lim
  unfold dWrite
  rw [if_neg (by rw [h.dead]; decide), if_neg (by omega), if_neg (by omega), spent_free h.lim, pad_full hl]
  rfl
theorem Bys.lay {l b : List Int} (h : Bys l) (hb : Bys b) (off : Nat) : Bys (lay l off b) := ((h.take _).app hb).app (h.drop _)
theorem Free.wrote {m : Dk} (h : Free m) (x : Nat) (l : List Int) (hx : x < m.n) (hl : l.length = 64) (hb : Bys l) : Free { m with writes := m.writes + 1, now := lay m.now (x * 64) l, pend := m.pend ++ [(x, l)] } where
  dead := h.dead
  lim := h.lim
  len := by show (Go.Proofs.Yticiaiiedagalaa.dk.lay m.now (x * 64) l).length = _; rw [lay_length (by rw [hl, h.len]; omega)]; exact h.len
  con := by show Go.Proofs.Yticiaiiedagalaa.dk.lay m.now (x * 64) l = laidOf m.laid (m.pend ++ [(x, l)]); rw [laidOf_snoc, ← h.con]
  by_ := h.by_.lay hb _
theorem dSync_free {m : Dk} (h : Free m) : dSync m = ({ m with writes := m.writes + 1, laid := m.now, pend := [] }, 0) := by
  have hlim := h.lim
  unfold dSync
  rw [if_neg (by rw [h.dead]; decide), if_neg (by omega), spent_free h.lim, ← h.con]
/-- What a disk holds behind a record's pieces from the i-th one on. -/
structure Laid (g : Lg) (b : List Int) (count f i : Nat) (m m2 : Dk) : Prop where
  free : Free m2
  n : m2.n = m.n
  pend : m2.pend = []
  wr : m2.writes = m.writes + f + 1
  sec : ∀ j, j < m.n → secOf m2.now j = if g.frm + g.place + i ≤ j ∧ j < g.frm + g.place + count then pieceOf g.ses g.num b count (j - (g.frm + g.place)) else secOf m.now j
theorem lay_free (g : Lg) (b : List Int) (count : Nat) (hb : Bys b) : ∀ (f i : Nat) (m : Dk), f + i = count → Free m → g.frm + g.place + count ≤ m.n → (layGo g b count f i m).2 = 0 ∧ Laid g b count f i m (layGo g b count f i m).1
  | 0, i, m, hfi, hm, hn => by
    show (dSync m).2 = 0 ∧ Laid g b count 0 i m (dSync m).1
    rw [dSync_free hm]
    refine ⟨rfl, ⟨⟨hm.dead, hm.lim, hm.len, rfl, hm.by_⟩, rfl, rfl, by show m.writes + 1 = m.writes + 0 + 1; omega, fun j hj => ?_⟩⟩
    rw [if_neg (by omega)]
  | f + 1, i, m, hfi, hm, hn => by
    have hl : (pieceOf g.ses g.num b count i).length = 64 := mk_length _ _ _ _ _ (chunk_len b i)
    have hx : g.frm + g.place + i < m.n := by omega
    have hbp : Bys (pieceOf g.ses g.num b count i) := mk_bys _ _ _ _ _ (chunk_len b i) ((hb.drop _).take _)
    have hw : dWrite m ((g.frm : Int) + g.place + i) (mk g.ses g.num i count ((b.drop (i * 48)).take 48)) = _ := dWrite_free hm (g.frm + g.place + i) (pieceOf g.ses g.num b count i) hx hl
    have ih := lay_free g b count hb f (i + 1) _ (by omega) (hm.wrote (g.frm + g.place + i) _ hx hl hbp) hn
    rw [layGo.eq_2, hw, if_pos rfl]
    refine ⟨ih.1, ⟨ih.2.free, ih.2.n, ih.2.pend, by rw [ih.2.wr]; show m.writes + 1 + f + 1 = m.writes + (f + 1 : Nat) + 1; omega, fun j hj => ?_⟩⟩
    rw [ih.2.sec j hj]
    have e := lay_sec2 (j := j) hl hm.len hx hj
    show (if _ then _ else secOf (lay m.now ((g.frm + g.place + i) * 64) (pieceOf g.ses g.num b count i)) j) = _
    rw [e]
    by_cases h1 : g.frm + g.place + i = j
    · subst h1
      rw [if_neg (by omega), if_pos rfl, if_pos (by omega), show g.frm + g.place + i - (g.frm + g.place) = i by omega]
    · rw [if_neg h1]
      by_cases h2 : g.frm + g.place + (i + 1) ≤ j ∧ j < g.frm + g.place + count
      · rw [if_pos h2, if_pos (by omega)]
      · rw [if_neg h2, if_neg (by omega)]
theorem free_fresh (n : Nat) : Free (fresh n) := ⟨rfl, show (-1 : Int) < 0 by omega, List.length_replicate, rfl, Bys.rep _⟩
theorem pc_zero : pcOf (List.replicate 64 0) = none := by decide
theorem pcF_fresh (n frm i : Nat) (h : frm + i < n) : pcF (fresh n).now frm i = none := by
  unfold pcF
  rw [show secOf (fresh n).now (frm + i) = List.replicate 64 0 from secOf_rep (n * 64) _ (by omega)]
  exact pc_zero
theorem gr_none (f : List Int → Int) (F : Nat → Option (List Int)) : ∀ n, (∀ i, i < n → F i = none) → gr2 f F n = 0
  | 0, _ => rfl
  | n + 1, h => by
    rw [gr2_succ, gr_none f F n (fun i hi => h i (by omega)), h n (by omega)]
    rfl
theorem pc_piece (s nu : Int) (b : List Int) (c i : Nat) : pcOf (pieceOf s nu b c i) = some (pieceOf s nu b c i) := by
  unfold pcOf
  rw [if_pos (show isP (pieceOf s nu b c i) = true from mk_is _ _ _ _ _ (chunk_len b i))]
theorem gr_le (f : List Int → Int) (F : Nat → Option (List Int)) (s : Int) (h0 : 0 ≤ s) : ∀ n, (∀ i p, i < n → F i = some p → f p ≤ s) → gr2 f F n ≤ s
  | 0, _ => by simpa [gr2, gr] using h0
  | n + 1, h => by
    have ih := gr_le f F s h0 n (fun i p hi hp => h i p (by omega) hp)
    rw [gr2_succ]
    match hf : F n with
    | none => exact ih
    | some p => have := h n p (by omega) hf; show max (gr2 f F n) (f p) ≤ s; omega
theorem gr_ge (f : List Int → Int) (F : Nat → Option (List Int)) (i : Nat) (p : List Int) (hp : F i = some p) : ∀ n, i < n → f p ≤ gr2 f F n
  | n + 1, h => by
    rw [gr2_succ]
    by_cases hi : i = n
    · subst hi
      rw [hp]
      show f p ≤ max _ (f p)
      omega
    · have ih := gr_ge f F i p hp n (by omega)
      match hf : F n with
      | none => exact ih
      | some q => show f p ≤ max (gr2 f F n) (f q); omega
theorem piece_S (s nu : Int) (b : List Int) (c i : Nat) (h : 0 ≤ s ∧ s ≤ 4294967295) : fS (pieceOf s nu b c i) = s := mk_S _ _ _ _ _ h.1 h.2
theorem piece_N (s nu : Int) (b : List Int) (c i : Nat) (h : 0 ≤ nu ∧ nu ≤ 4294967295) : fN (pieceOf s nu b c i) = nu := mk_N _ _ _ _ _ h.1 h.2
theorem piece_P (s nu : Int) (b : List Int) (c i : Nat) (h : i ≤ 65535) : fP (pieceOf s nu b c i) = i := mk_P _ _ _ _ _ (by omega) (by omega)
/-- What lies in a fresh part. -/
theorem told_none (now : List Int) (frm n : Nat) (h : ∀ i, i < n → pcF now frm i = none) : toldOf now frm n = (0, 1, []) ∧ sesOf now frm n = 0 := by
  refine ⟨?_, gr_none _ _ n h⟩
  unfold toldOf
  rw [gr_none _ _ n h]
  by_cases hn : n = 0
  · subst hn; rfl
  · exact gath_none _ _ _ _ (h 0 (by omega))
/-- What Append leaves where there is room and no limit. -/
theorem append_free (g : Lg) (m : Dk) (b : List Int) (hb : Bys b) (hm : Free m) (hg : g.broken = false) (hf : g.place + needN b.length ≤ g.n) (hn : g.frm + g.n ≤ m.n) (hbig : needN b.length ≤ 65535) :
    ∃ m2, appendOf g m b = ({ g with place := g.place + needN b.length, num := (g.num + 1) % 4294967296 }, m2, 0) ∧ Laid g b (needN b.length) (needN b.length) 0 m m2 := by
  obtain ⟨h1, h2⟩ := lay_free g b (needN b.length) hb (needN b.length) 0 m rfl hm (by omega)
  refine ⟨_, ?_, h2⟩
  unfold appendOf
  rw [if_neg (by rw [hg]; decide), if_neg (by omega), if_neg (by omega), if_pos h1]
theorem xd_fresh {B D L N : Nat} {P : Value} {m : Dk} {w : World} (h : DiskAt B D L N P m w) {g : Nat} (hg : w.heap.size ≤ g) : ¬ Xd D L N P g := by
  have hl := h.lt
  rintro (e | e | e | e)
  · omega
  · omega
  · omega
  · have := (h.hP.lt g e).2; omega
end Go.Proofs.Yticiaiiedagalaa.dk
