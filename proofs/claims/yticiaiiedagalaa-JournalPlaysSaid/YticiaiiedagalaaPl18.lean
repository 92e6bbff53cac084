/- A record that is laid under a limit: laid whole, or torn. -/
import Derived.Test.YticiaiiedagalaaPl17
namespace Go.Proofs.Yticiaiiedagalaa.dk
open Go.PlainAid Go.ChangeShapes Go.WideShapes Go.ChangeAt Go.RowKit

/-- A disk that lives, with nothing pending. -/
structure Liv (m : Dk) : Prop where
  dead : m.dead = false
  nl : m.now.length = m.n * 64
  ll : m.laid.length = m.n * 64
  pend : m.pend = []
  con : ∀ j, j < m.n → secOf m.now j = secOf m.laid j
  bn : Bys m.now
  bl : Bys m.laid
def pcsOf (g : Lg) (b : List Int) (c k : Nat) : List (Nat × List Int) := (List.range k).map fun t => (g.frm + g.place + t, pieceOf g.ses g.num b c t)
theorem pcsOf_succ (g : Lg) (b : List Int) (c k : Nat) : pcsOf g b c (k + 1) = pcsOf g b c k ++ [(g.frm + g.place + k, pieceOf g.ses g.num b c k)] := by
  unfold pcsOf; rw [List.range_succ, List.map_append]; rfl
theorem pcsOf_len (g : Lg) (b : List Int) (c k : Nat) : (pcsOf g b c k).length = k := by simp [pcsOf]
/-- Behind k pieces of a record, which are pending. -/
structure Mid (g : Lg) (b : List Int) (c k : Nat) (m0 m : Dk) : Prop where
  n : m.n = m0.n
  laid : m.laid = m0.laid
  pend : m.pend = pcsOf g b c k
  nl : m.now.length = m.n * 64
  sec : ∀ j, j < m0.n → secOf m.now j = if g.frm + g.place ≤ j ∧ j < g.frm + g.place + k then pieceOf g.ses g.num b c (j - (g.frm + g.place)) else secOf m0.now j
  bn : Bys m.now
  wr : m.writes = m0.writes + k
theorem piece_len (s nu : Int) (b : List Int) (c i : Nat) : (pieceOf s nu b c i).length = 64 := mk_length _ _ _ _ _ (chunk_len b i)
theorem piece_bys (s nu : Int) (b : List Int) (c i : Nat) (hb : Bys b) : Bys (pieceOf s nu b c i) := mk_bys _ _ _ _ _ (chunk_len b i) ((hb.drop _).take _)
theorem laid_pcs (g : Lg) (b : List Int) (c : Nat) (l : List Int) (n : Nat) (hl : l.length = n * 64) : ∀ k, g.frm + g.place + k ≤ n → (laidOf l (pcsOf g b c k)).length = n * 64 ∧ ∀ j, j < n → secOf (laidOf l (pcsOf g b c k)) j = if g.frm + g.place ≤ j ∧ j < g.frm + g.place + k then pieceOf g.ses g.num b c (j - (g.frm + g.place)) else secOf l j
  | 0, _ => ⟨hl, fun j _ => by rw [if_neg (by omega)]; rfl⟩
  | k + 1, hk => by
    obtain ⟨h1, h2⟩ := laid_pcs g b c l n hl k (by omega)
    rw [pcsOf_succ, laidOf_snoc]
    refine ⟨by rw [lay_length (by rw [piece_len, h1]; show (g.frm + g.place + k) * 64 + 64 ≤ n * 64; omega)]; exact h1, fun j hj => ?_⟩
    rw [lay_sec2 (piece_len _ _ _ _ _) h1 (by show g.frm + g.place + k < n; omega) hj, h2 j hj]
    show (if g.frm + g.place + k = j then _ else _) = _
    by_cases h : g.frm + g.place + k = j
    · subst h
      rw [if_pos rfl, if_pos (by omega), show g.frm + g.place + k - (g.frm + g.place) = k by omega]
    · rw [if_neg h]
      by_cases h3 : g.frm + g.place ≤ j ∧ j < g.frm + g.place + k
      · rw [if_pos h3, if_pos (by omega)]
      · rw [if_neg h3, if_neg (by omega)]
/-- Laid whole. -/
structure Whole (g : Lg) (b : List Int) (c : Nat) (m0 m : Dk) : Prop where
  liv : Liv m
  n : m.n = m0.n
  sec : ∀ j, j < m0.n → secOf m.now j = if g.frm + g.place ≤ j ∧ j < g.frm + g.place + c then pieceOf g.ses g.num b c (j - (g.frm + g.place)) else secOf m0.now j
  lim : m.limit = m0.limit - (c + 1)
  wr : m.writes = m0.writes + c + 1
/-- Torn behind k pieces: the disk is dead. -/
structure Torn (g : Lg) (b : List Int) (c k : Nat) (m0 m : Dk) : Prop where
  dead : m.dead = true
  mid : Mid g b c k m0 m
  kc : k ≤ c
theorem lay_lim (g : Lg) (b : List Int) (c : Nat) (hb : Bys b) (m0 : Dk) (h0 : Liv m0) (hl0 : 0 ≤ m0.limit) (hn : g.frm + g.place + c ≤ m0.n) : ∀ (f i : Nat) (m : Dk), f + i = c → Mid g b c i m0 m → m.dead = false → m.limit = m0.limit - i → 0 ≤ m.limit →
    ((layGo g b c f i m).2 = 0 ∧ Whole g b c m0 (layGo g b c f i m).1 ∧ (c : Int) + 1 ≤ m0.limit) ∨ ((layGo g b c f i m).2 = 10 ∧ Torn g b c m0.limit.toNat m0 (layGo g b c f i m).1 ∧ m0.limit ≤ c)
  | 0, i, m, hfi, hm, hd, hl, hlp => by
    obtain rfl : i = c := by omega
    show ((dSync m).2 = 0 ∧ Whole g b i m0 (dSync m).1 ∧ _) ∨ ((dSync m).2 = 10 ∧ Torn g b i _ m0 (dSync m).1 ∧ _)
    unfold dSync
    rw [if_neg (by rw [hd]; decide)]
    by_cases h1 : m.limit = 0
    · rw [if_pos h1]
      right
      refine ⟨rfl, ⟨rfl, ?_, by omega⟩, by omega⟩
      rw [show m0.limit.toNat = i by omega]
      exact { hm with }
    · rw [if_neg h1]
      left
      obtain ⟨l1, l2⟩ := laid_pcs g b i m0.laid m0.n h0.ll i (by omega)
      have hlen : m.now.length = m.n * 64 := hm.nl
      have hla : (laidOf m.laid m.pend) = laidOf m0.laid (pcsOf g b i i) := by rw [hm.laid, hm.pend]
      refine ⟨rfl, ⟨⟨hd, hlen, by show (laidOf m.laid m.pend).length = m.n * 64; rw [hla, l1, hm.n], rfl, fun j hj => ?_, hm.bn, ?_⟩, hm.n, hm.sec, ?_, ?_⟩, by omega⟩
      · have hj' : j < m0.n := by have := hm.n; have hj2 : j < m.n := hj; omega
        show secOf m.now j = secOf (laidOf m.laid m.pend) j
        rw [hla, hm.sec j hj', l2 j hj', h0.con j hj']
      · show Bys (laidOf m.laid m.pend)
        rw [hla]
        have : ∀ k, Bys (laidOf m0.laid (pcsOf g b i k)) := fun k => by
          induction k with
          | zero => exact h0.bl
          | succ k ih => rw [pcsOf_succ, laidOf_snoc]; exact ih.lay (piece_bys _ _ _ _ _ hb) _
        exact this i
      · show (if m.limit < 0 then m.limit else m.limit - 1) = _
        rw [if_neg (by omega)]; omega
      · show m.writes + 1 = _
        rw [hm.wr]
  | f + 1, i, m, hfi, hm, hd, hl, hlp => by
    rw [layGo.eq_2]
    have hx : ¬ ((g.frm : Int) + g.place + i < 0 ∨ (m.n : Int) ≤ (g.frm : Int) + g.place + i ∨ 64 < (mk g.ses g.num i c ((b.drop (i * 48)).take 48)).length) := by
      rw [show (mk g.ses g.num i c ((b.drop (i * 48)).take 48)).length = 64 from piece_len g.ses g.num b c i, hm.n]; omega
    by_cases h1 : m.limit = 0
    · have hw : dWrite m ((g.frm : Int) + g.place + i) (mk g.ses g.num i c ((b.drop (i * 48)).take 48)) = ({ m with dead := true }, 10) := by
        unfold dWrite
        rw [if_neg (by rw [hd]; decide), if_neg hx, if_pos h1]
      rw [hw, if_neg (show ¬ (10 : Int) = 0 by decide)]
      right
      refine ⟨rfl, ⟨rfl, ?_, by omega⟩, by omega⟩
      rw [show m0.limit.toNat = i by omega]
      exact { hm with }
    · have hpl := piece_len g.ses g.num b c i
      have hw : dWrite m ((g.frm : Int) + g.place + i) (mk g.ses g.num i c ((b.drop (i * 48)).take 48)) = ({ m with limit := m.limit - 1, writes := m.writes + 1, now := lay m.now ((g.frm + g.place + i) * 64) (pieceOf g.ses g.num b c i), pend := m.pend ++ [(g.frm + g.place + i, pieceOf g.ses g.num b c i)] }, 0) := by
        unfold dWrite
        rw [if_neg (by rw [hd]; decide), if_neg hx, if_neg h1]
        unfold spent
        rw [if_neg (show ¬ m.limit < 0 by omega)]
        have ex : ((g.frm : Int) + g.place + i).toNat = g.frm + g.place + i := by omega
        rw [ex, show pad (mk g.ses g.num i c ((b.drop (i * 48)).take 48)) = pieceOf g.ses g.num b c i from pad_full hpl]
      rw [hw, if_pos rfl]
      refine lay_lim g b c hb m0 h0 hl0 hn f (i + 1) _ (by omega) ?_ hd (by show m.limit - 1 = _; omega) (by show 0 ≤ m.limit - 1; omega)
      exact {
        n := hm.n
        laid := hm.laid
        pend := by show m.pend ++ _ = _; rw [hm.pend, pcsOf_succ]
        nl := by
          show (lay m.now ((g.frm + g.place + i) * 64) _).length = _
          rw [lay_length (by rw [hpl, hm.nl, hm.n]; omega)]; exact hm.nl
        sec := fun j hj => by
          show secOf (lay m.now ((g.frm + g.place + i) * 64) _) j = _
          rw [lay_sec2 hpl (by rw [hm.nl, hm.n]) (by omega) hj, hm.sec j hj]
          by_cases h : g.frm + g.place + i = j
          · subst h
            rw [if_pos rfl, if_pos (by omega), show g.frm + g.place + i - (g.frm + g.place) = i by omega]
          · rw [if_neg h]
            by_cases h3 : g.frm + g.place ≤ j ∧ j < g.frm + g.place + i
            · rw [if_pos h3, if_pos (by omega)]
            · rw [if_neg h3, if_neg (by omega)]
        bn := hm.bn.lay (piece_bys _ _ _ _ _ hb) _
        wr := by show m.writes + 1 = _; rw [hm.wr]; omega }
theorem mid_zero (g : Lg) (b : List Int) (c : Nat) (m0 : Dk) (h : Liv m0) : Mid g b c 0 m0 m0 :=
  ⟨rfl, rfl, h.pend, h.nl, fun j _ => by rw [if_neg (by omega)], h.bn, by omega⟩
/-- What Append does under a limit, where there is room. -/
theorem append_lim {D frm n pl : Nat} {nu s : Int} {m : Dk} {b : List Int} (hb : Bys b) (hm : Liv m) (hl : 0 ≤ m.limit) (hf : pl + needN b.length ≤ n) (hn : frm + n ≤ m.n) (hbig : needN b.length ≤ 65535) :
    (∃ m2, appendOf { d := D, frm := frm, n := n, place := pl, num := nu, ses := s, broken := false } m b = ({ d := D, frm := frm, n := n, place := pl + needN b.length, num := (nu + 1) % 4294967296, ses := s, broken := false }, m2, 0) ∧ Whole { d := D, frm := frm, n := n, place := pl, num := nu, ses := s, broken := false } b (needN b.length) m m2 ∧ (needN b.length : Int) + 1 ≤ m.limit) ∨
    (∃ m2, appendOf { d := D, frm := frm, n := n, place := pl, num := nu, ses := s, broken := false } m b = ({ d := D, frm := frm, n := n, place := pl, num := nu, ses := s, broken := true }, m2, 10) ∧ Torn { d := D, frm := frm, n := n, place := pl, num := nu, ses := s, broken := false } b (needN b.length) m.limit.toNat m m2 ∧ m.limit ≤ needN b.length) := by
  have h := lay_lim { d := D, frm := frm, n := n, place := pl, num := nu, ses := s, broken := false } b (needN b.length) hb m hm hl (by show frm + pl + _ ≤ _; omega) (needN b.length) 0 m rfl (mid_zero _ _ _ _ hm) hm.dead (by omega) hl
  unfold appendOf
  rw [if_neg (show ¬ (false = true) by decide), if_neg (by omega), if_neg (by show ¬ n < pl + _; omega)]
  generalize layGo { d := D, frm := frm, n := n, place := pl, num := nu, ses := s, broken := false } b (needN b.length) (needN b.length) 0 m = r at h ⊢
  obtain ⟨m1, ec⟩ := r
  dsimp only at h ⊢
  rcases h with ⟨rfl, h2, h3⟩ | ⟨rfl, h2, h3⟩
  · exact .inl ⟨_, rfl, h2, h3⟩
  · exact .inr ⟨_, rfl, h2, h3⟩
end Go.Proofs.Yticiaiiedagalaa.dk
/- What a torn record leaves behind a crash. -/
namespace Go.Proofs.Yticiaiiedagalaa.dk
open Go.PlainAid Go.ChangeShapes Go.WideShapes Go.ChangeAt Go.RowKit

theorem now_like (n : Nat) (l : List Int) (hl : l.length = n * 64) (k : Nat) (hk : k < n) : ∀ (p : List (Nat × List Int)) (now : List Int), now.length = n * 64 → (∀ x ∈ p, x.1 < n) → ((∃ x ∈ p, x.1 = k) ∨ secOf now k = secOf l k) → (nowOf l now p).length = n * 64 ∧ secOf (nowOf l now p) k = secOf l k
  | [], now, hn, _, h => by
    rcases h with ⟨x, hx, _⟩ | h
    · cases hx
    · exact ⟨hn, h⟩
  | x :: p, now, hn, hf, h => by
    have hx := hf x (by simp)
    have hsl : (secOf l x.1).length = 64 := by unfold secOf; rw [List.length_take, List.length_drop]; omega
    show (nowOf l (lay now (x.1 * 64) (secOf l x.1)) p).length = n * 64 ∧ secOf (nowOf l (lay now (x.1 * 64) (secOf l x.1)) p) k = secOf l k
    refine now_like n l hl k hk p _ (by rw [lay_length (by rw [hsl, hn]; omega)]; exact hn) (fun y hy => hf y (by simp [hy])) ?_
    rw [lay_sec2 hsl hn hx hk]
    by_cases hxk : x.1 = k
    · right; rw [if_pos hxk, hxk]
    · rw [if_neg hxk]
      rcases h with ⟨y, hy, hyk⟩ | h
      · rcases List.mem_cons.1 hy with rfl | hy
        · exact absurd hyk hxk
        · exact .inl ⟨y, hy, hyk⟩
      · exact .inr h
theorem kept_pcs (kb : List Bool) (g : Lg) (b : List Int) (c : Nat) (l : List Int) (n : Nat) (hl : l.length = n * 64) : ∀ k, g.frm + g.place + k ≤ n → (keptOf kb l (pcsOf g b c k)).length = n * 64 ∧
    ∀ j, j < n → secOf (keptOf kb l (pcsOf g b c k)) j = if (g.frm + g.place ≤ j ∧ j < g.frm + g.place + k) ∧ kb.getD (j - (g.frm + g.place)) false = true then pieceOf g.ses g.num b c (j - (g.frm + g.place)) else secOf l j
  | 0, _ => ⟨hl, fun j _ => by rw [if_neg (by omega)]; rfl⟩
  | k + 1, hk => by
    obtain ⟨h1, h2⟩ := kept_pcs kb g b c l n hl k (by omega)
    rw [pcsOf_succ, keptOf_snoc, pcsOf_len]
    by_cases hkb : kb.getD k false = true
    · rw [if_pos hkb]
      refine ⟨by rw [lay_length (by rw [piece_len, h1]; show (g.frm + g.place + k) * 64 + 64 ≤ n * 64; omega)]; exact h1, fun j hj => ?_⟩
      rw [lay_sec2 (piece_len _ _ _ _ _) h1 (by show g.frm + g.place + k < n; omega) hj, h2 j hj]
      show (if g.frm + g.place + k = j then _ else _) = _
      by_cases h : g.frm + g.place + k = j
      · subst h
        have e : g.frm + g.place + k - (g.frm + g.place) = k := by omega
        rw [if_pos rfl, e, if_pos ⟨by omega, hkb⟩]
      · rw [if_neg h]
        by_cases h3 : (g.frm + g.place ≤ j ∧ j < g.frm + g.place + k) ∧ kb.getD (j - (g.frm + g.place)) false = true
        · rw [if_pos h3, if_pos ⟨by omega, h3.2⟩]
        · rw [if_neg h3, if_neg (fun x => h3 ⟨by omega, x.2⟩)]
    · rw [if_neg hkb]
      refine ⟨h1, fun j hj => ?_⟩
      rw [h2 j hj]
      by_cases h : g.frm + g.place + k = j
      · subst h
        have e : g.frm + g.place + k - (g.frm + g.place) = k := by omega
        rw [if_neg (by omega), e, if_neg (fun x => hkb x.2)]
      · by_cases h3 : (g.frm + g.place ≤ j ∧ j < g.frm + g.place + k) ∧ kb.getD (j - (g.frm + g.place)) false = true
        · rw [if_pos h3, if_pos ⟨by omega, h3.2⟩]
        · rw [if_neg h3, if_neg (fun x => h3 ⟨by omega, x.2⟩)]
theorem kept_bys (kb : List Bool) (g : Lg) (b : List Int) (c : Nat) (hb : Bys b) (l : List Int) (hl : Bys l) : ∀ k, Bys (keptOf kb l (pcsOf g b c k))
  | 0 => hl
  | k + 1 => by
    rw [pcsOf_succ, keptOf_snoc]
    split
    · exact (kept_bys kb g b c hb l hl k).lay (piece_bys _ _ _ _ _ hb) _
    · exact kept_bys kb g b c hb l hl k
theorem nowOf_bys (l : List Int) (hl : Bys l) : ∀ (p : List (Nat × List Int)) (now : List Int), Bys now → Bys (nowOf l now p)
  | [], _, h => h
  | _ :: p, _, h => nowOf_bys l hl p _ (h.lay ((hl.drop _).take _) _)
/-- A disk behind a crash. -/
structure Again (m0 m : Dk) (S : Nat → List Int) : Prop where
  liv : Liv m
  n : m.n = m0.n
  lim : m.limit = -1
  wr : m.writes ≤ m0.writes + 70000
  sec : ∀ j, j < m0.n → secOf m.now j = S j
theorem torn_reopen {g : Lg} {b : List Int} {c k : Nat} {m0 m : Dk} (h : Torn g b c k m0 m) (h0 : Liv m0) (hb : Bys b) (hn : g.frm + g.place + c ≤ m0.n) (hc : c ≤ 65535) (kb : List Bool) :
    Again m0 (reopened kb m) (fun j => if (g.frm + g.place ≤ j ∧ j < g.frm + g.place + k) ∧ kb.getD (j - (g.frm + g.place)) false = true then pieceOf g.ses g.num b c (j - (g.frm + g.place)) else secOf m0.now j) := by
  have hk := h.kc
  have hm := h.mid
  obtain ⟨k1, k2⟩ := kept_pcs kb g b c m0.laid m0.n h0.ll k (by omega)
  have elaid : (reopened kb m).laid = keptOf kb m0.laid (pcsOf g b c k) := by show keptOf kb m.laid m.pend = _; rw [hm.laid, hm.pend]
  have enow : (reopened kb m).now = nowOf (keptOf kb m0.laid (pcsOf g b c k)) m.now (pcsOf g b c k) := by show nowOf (keptOf kb m.laid m.pend) m.now m.pend = _; rw [hm.laid, hm.pend]
  have hfit : ∀ x ∈ pcsOf g b c k, x.1 < m0.n := fun x hx => by
    obtain ⟨t, ht, rfl⟩ := List.mem_map.1 hx
    have := List.mem_range.1 ht
    show g.frm + g.place + t < m0.n
    omega
  have hnow : ∀ j, j < m0.n → (nowOf (keptOf kb m0.laid (pcsOf g b c k)) m.now (pcsOf g b c k)).length = m0.n * 64 ∧ secOf (nowOf (keptOf kb m0.laid (pcsOf g b c k)) m.now (pcsOf g b c k)) j = secOf (keptOf kb m0.laid (pcsOf g b c k)) j := fun j hj => by
    refine now_like m0.n _ k1 j hj _ m.now (by rw [hm.nl, hm.n]) hfit ?_
    by_cases hr : g.frm + g.place ≤ j ∧ j < g.frm + g.place + k
    · refine .inl ⟨(g.frm + g.place + (j - (g.frm + g.place)), pieceOf g.ses g.num b c (j - (g.frm + g.place))), List.mem_map.2 ⟨j - (g.frm + g.place), List.mem_range.2 (by omega), rfl⟩, ?_⟩
      show g.frm + g.place + (j - (g.frm + g.place)) = j
      omega
    · right
      rw [hm.sec j hj, if_neg hr, k2 j hj, if_neg (fun x => hr x.1), h0.con j hj]
  have hnl : (reopened kb m).now.length = m0.n * 64 := by
    rw [enow]
    by_cases hz : 0 < m0.n
    · exact (hnow 0 hz).1
    · have hk0 : k = 0 := by omega
      subst hk0
      show m.now.length = _
      rw [hm.nl, hm.n]
  have hsec : ∀ j, j < m0.n → secOf (reopened kb m).now j = secOf (reopened kb m).laid j := fun j hj => by rw [enow, elaid]; exact (hnow j hj).2
  exact {
    liv := ⟨rfl, by show (reopened kb m).now.length = m.n * 64; rw [hnl, hm.n], by show (reopened kb m).laid.length = m.n * 64; rw [elaid, k1, hm.n], rfl, fun j hj => hsec j (by have := hm.n; have h2 : j < m.n := hj; omega),
      by rw [enow]; exact nowOf_bys _ (kept_bys kb g b c hb _ h0.bl k) _ _ hm.bn, by rw [elaid]; exact kept_bys kb g b c hb _ h0.bl k⟩
    n := hm.n
    lim := rfl
    wr := by show m.writes ≤ _; rw [hm.wr]; omega
    sec := fun j hj => by
      rw [hsec j hj, elaid, k2 j hj]
      by_cases hr : (g.frm + g.place ≤ j ∧ j < g.frm + g.place + k) ∧ kb.getD (j - (g.frm + g.place)) false = true
      · rw [if_pos hr, if_pos hr]
      · rw [if_neg hr, if_neg hr, h0.con j hj] }
theorem liv_reopen {m : Dk} (h : Liv m) (kb : List Bool) : Again m (reopened kb m) (fun j => secOf m.now j) := by
  have e1 : (reopened kb m).laid = m.laid := by show keptOf kb m.laid m.pend = _; rw [h.pend]; rfl
  have e2 : (reopened kb m).now = m.now := by show nowOf _ m.now m.pend = _; rw [h.pend]; rfl
  exact {
    liv := ⟨rfl, by rw [e2]; exact h.nl, by rw [e1]; exact h.ll, rfl, fun j hj => by rw [e1, e2]; exact h.con j hj, by rw [e2]; exact h.bn, by rw [e1]; exact h.bl⟩
    n := rfl
    lim := rfl
    wr := by show m.writes ≤ _; omega
    sec := fun j _ => by rw [e2] }
theorem liv_fresh (n : Nat) : Liv (fresh n) := ⟨rfl, List.length_replicate, List.length_replicate, rfl, fun _ _ => rfl, Bys.rep _, Bys.rep _⟩
theorem liv_limit {m : Dk} (h : Liv m) (k : Int) : Liv { m with limit := k } := { h with }
end Go.Proofs.Yticiaiiedagalaa.dk
