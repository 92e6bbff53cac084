/- A record that may be torn, over what is left of another one: plain facts. -/
import Derived.Test.YticiaiiedagalaaPl20
namespace Go.Proofs.Yticiaiiedagalaa.dk
open Go.PlainAid Go.ChangeShapes Go.WideShapes Go.ChangeAt Go.RowKit

/-- The pieces of a record that K names lie over what lay there. -/
structure Over (F F2 : Nat → Option (List Int)) (pl : Nat) (s nu : Int) (b : List Int) (K : Nat → Bool) : Prop where
  at_ : ∀ i, i < 16 → F2 i = if (pl ≤ i ∧ i < pl + needN b.length) ∧ K (i - pl) = true then some (pieceOf s nu b (needN b.length) (i - pl)) else F i
  un : pl + needN b.length ≤ 16 ∨ ∀ i, K i = false
theorem all_or (K : Nat → Bool) : ∀ n, (∀ i, i < n → K i = true) ∨ ∃ i, i < n ∧ K i = false
  | 0 => .inl fun i h => absurd h (by omega)
  | n + 1 => by
    rcases all_or K n with h | ⟨i, hi, h⟩
    · by_cases hk : K n = true
      · left
        intro i hi
        by_cases e : i = n
        · subst e; exact hk
        · exact h i (by omega)
      · exact .inr ⟨n, Nat.lt_succ_self n, by simpa using hk⟩
    · exact .inr ⟨i, by omega, h⟩
theorem pcF_lk {m m2 : Dk} {n : Nat} (h : ∀ j, j < n → secOf m2.now j = secOf m.now j) (i : Nat) (hi : i < n) : pcF m2.now 0 i = pcF m.now 0 i := by
  unfold pcF
  rw [h _ (by omega)]
theorem laid_over {D pl : Nat} {nu s : Int} {m : Dk} {b : List Int} (hb : Bys b) (hm : Liv m) (hl : 0 ≤ m.limit) (hn : m.n = 16) (hbig : needN b.length ≤ 11) (kb : List Bool) :
    ∃ g2 m2 e K, appendOf { d := D, frm := 0, n := 16, place := pl, num := nu, ses := s, broken := false } m b = (g2, m2, e) ∧ (e = 0 → ∀ i, i < needN b.length → K i = true) ∧ m2.pend.length ≤ 16 ∧ m2.n = 16 ∧ m2.writes ≤ m.writes + 12 ∧ Liv (reopened kb m2) ∧ Over (pcF m.now 0) (pcF (reopened kb m2).now 0) pl s nu b K := by
  by_cases hf : pl + needN b.length ≤ 16
  · rcases append_lim (D := D) (frm := 0) (nu := nu) (s := s) hb hm hl hf (by omega) (by omega) with ⟨m2, e, h, _⟩ | ⟨m2, e, h, _⟩
    · have hmn := h.n
      refine ⟨_, m2, 0, fun _ => true, e, fun _ _ _ => rfl, by rw [h.liv.pend]; decide, hmn.trans hn, by rw [h.wr]; omega, (liv_reopen h.liv kb).liv, ⟨fun i hi => ?_, .inl hf⟩⟩
      unfold pcF
      rw [(liv_reopen h.liv kb).sec (0 + i) (by omega), h.sec (0 + i) (by omega)]
      show pcOf (if 0 + pl ≤ 0 + i ∧ 0 + i < 0 + pl + needN b.length then pieceOf s nu b (needN b.length) (0 + i - (0 + pl)) else secOf m.now (0 + i)) = _
      by_cases hr : pl ≤ i ∧ i < pl + needN b.length
      · rw [if_pos (by omega), if_pos ⟨hr, rfl⟩, show 0 + i - (0 + pl) = i - pl by omega]
        exact pc_piece _ _ _ _ _
      · rw [if_neg (by omega), if_neg (fun z => hr z.1)]
    · have hmn := h.mid.n
      have hkc := h.kc
      refine ⟨_, m2, 10, fun i => decide (i < m.limit.toNat) && kb.getD i false, e, fun z => absurd z (by decide), by rw [h.mid.pend, pcsOf_len]; omega, hmn.trans hn, by rw [h.mid.wr]; omega, (torn_reopen h hm hb (by show 0 + pl + _ ≤ m.n; omega) (by omega) kb).liv, ⟨fun i hi => ?_, .inl hf⟩⟩
      unfold pcF
      rw [(torn_reopen h hm hb (by show 0 + pl + _ ≤ m.n; omega) (by omega) kb).sec (0 + i) (by omega)]
      show pcOf (if (0 + pl ≤ 0 + i ∧ 0 + i < 0 + pl + m.limit.toNat) ∧ kb.getD (0 + i - (0 + pl)) false = true then pieceOf s nu b (needN b.length) (0 + i - (0 + pl)) else secOf m.now (0 + i)) = _
      rw [show 0 + i - (0 + pl) = i - pl by omega]
      by_cases hr : (pl ≤ i ∧ i < pl + m.limit.toNat) ∧ kb.getD (i - pl) false = true
      · rw [if_pos ⟨by omega, hr.2⟩, if_pos ⟨by omega, by rw [hr.2, decide_eq_true (by omega)]; rfl⟩]
        exact pc_piece _ _ _ _ _
      · rw [if_neg (fun z => hr ⟨by omega, z.2⟩), if_neg]
        rintro ⟨z1, z2⟩
        simp only [Bool.and_eq_true, decide_eq_true_eq] at z2
        exact hr ⟨by omega, z2.2⟩
  · refine ⟨_, m, 5, fun _ => false, append_full _ _ _ rfl (by omega) (by show 16 < pl + _; omega), fun z => absurd z (by decide), by rw [hm.pend]; decide, hn, by omega, (liv_reopen hm kb).liv, ⟨fun i hi => ?_, .inr fun _ => rfl⟩⟩
    rw [if_neg (fun z => by cases z.2)]
    exact pcF_lk (n := 16) (fun j hj => (liv_reopen hm kb).sec j (by omega)) i hi
theorem gath_bad {F : Nat → Option (List Int)} {n pl : Nat} (f : Nat) (num : Int) (last : Option (List Int)) (out : List (List Int)) (p : List Int) (h : F pl = some p) (i : Nat) (hi : i < (fC p).toNat) (hn : pl + i < n) (ho : okAt p (fC p).toNat i (F (pl + i)) = false) : gathF F n f pl num last out = (pl, num, out) := by
  cases f with
  | zero => rfl
  | succ f =>
    rw [gathF.eq_2]
    split
    · rw [wholeF_bad (F := fun i => F (pl + i)) (by omega) h i hi (by omega) ho, if_pos rfl]
    · rfl
theorem ok_ses {p q : List Int} {c i : Nat} (h : fS q ≠ fS p) : okAt p c i (some q) = false := by simp [okAt, h]
theorem piece_C (s nu : Int) (b : List Int) (c i : Nat) (h : c ≤ 65535) : (fC (pieceOf s nu b c i)).toNat = c := by
  rw [show fC (pieceOf s nu b c i) = (c : Int) from mk_C _ _ _ _ _ (by omega) (by omega)]; omega
def tell (F : Nat → Option (List Int)) : Nat × Int × List (List Int) := gathF F 16 16 0 ((gr2 fN F 16 + 1) % 4294967296) none []
/-- Behind the first record. -/
theorem told_first {x : List Int} {F F1 : Nat → Option (List Int)} {K : Nat → Bool} (hF : ∀ i, i < 16 → F i = none) (h : Over F F1 0 1 1 x K) (hx : needN x.length ≤ 11) :
    (tell F1 = (needN x.length, 2, [x]) ∧ (∀ i, i < needN x.length → K i = true) ∧ gr2 fS F1 16 = 1) ∨
    ∃ nu, tell F1 = (0, nu, []) ∧ (nu = 1 ∨ nu = 2) ∧ (∃ i, i < needN x.length ∧ K i = false) ∧ (gr2 fS F1 16 = 1 ∨ (gr2 fS F1 16 = 0 ∧ ∀ i, i < needN x.length → K i = false)) := by
  have hnd := needN_bd x.length
  have hnd1 : 1 ≤ needN x.length := by omega
  have at1 : ∀ i, i < 16 → F1 i = if i < needN x.length ∧ K i = true then some (pieceOf 1 1 x (needN x.length) i) else none := fun i hi => by
    rw [h.at_ i hi, hF i hi, Nat.sub_zero]
    by_cases hr : i < needN x.length ∧ K i = true
    · rw [if_pos ⟨by omega, hr.2⟩, if_pos hr]
    · rw [if_neg (fun z => hr ⟨by omega, z.2⟩), if_neg hr]
  have hS1 : gr2 fS F1 16 ≤ 1 := gr_le fS F1 1 (by omega) 16 (fun i p hi hp => by
    rw [at1 i hi] at hp
    split at hp
    · cases hp; exact Int.le_of_eq (piece_S _ _ _ _ _ (by omega))
    · cases hp)
  have hN1 : gr2 fN F1 16 ≤ 1 := gr_le fN F1 1 (by omega) 16 (fun i p hi hp => by
    rw [at1 i hi] at hp
    split at hp
    · cases hp; exact Int.le_of_eq (piece_N _ _ _ _ _ (by omega))
    · cases hp)
  have hS0 := gr2_bd fS F1 fS_bd 16
  have hN0 := gr2_bd fN F1 fN_bd 16
  have hge : ∀ i, i < needN x.length → K i = true → gr2 fS F1 16 = 1 := fun i hi hk => by
    have := gr_ge fS F1 i (pieceOf 1 1 x (needN x.length) i) (by rw [at1 i (by omega), if_pos ⟨hi, hk⟩]) 16 (by omega)
    rw [piece_S _ _ _ _ _ (by omega)] at this
    omega
  rcases all_or K (needN x.length) with hall | ⟨i, hi, hk⟩
  · left
    refine ⟨?_, hall, hge 0 (by omega) (hall 0 (by omega))⟩
    have r : RecHere F1 16 0 1 1 x := ⟨by omega, by omega, by omega, by omega, fun i hi => by rw [Nat.zero_add, at1 i (by omega), if_pos ⟨hi, hall i hi⟩]⟩
    have e := gath_rec r 15 ((gr2 fN F1 16 + 1) % 4294967296) none [] rfl
    have e2 := gath_none (n := 16) (F := F1) (pl := 0 + needN x.length) 15 2 (some (pieceOf 1 1 x (needN x.length) 0)) [x] (by rw [at1 _ (by omega), if_neg (by omega)])
    have : tell F1 = (0 + needN x.length, 2, [x]) := e.trans e2
    rw [this, Nat.zero_add]
  · right
    have e := gath_torn (F := F1) (n := 16) (pl := 0) (c := needN x.length) (s := 1) (nu := 1) (b := x) (by omega) (by omega) (by
      rw [at1 0 (by omega)]
      by_cases hr : 0 < needN x.length ∧ K 0 = true
      · rw [if_pos hr]; exact .inr rfl
      · rw [if_neg hr]; exact .inl rfl) i hi (by rw [Nat.zero_add, at1 i (by omega), if_neg (fun z => by rw [hk] at z; cases z.2)]) 16 ((gr2 fN F1 16 + 1) % 4294967296) none []
    refine ⟨_, e, by omega, ⟨i, hi, hk⟩, ?_⟩
    by_cases hs : gr2 fS F1 16 = 1
    · exact .inl hs
    · right
      refine ⟨by omega, fun j hj => ?_⟩
      cases hkj : K j with
      | false => rfl
      | true => exact absurd (hge j hj hkj) hs
theorem over_ses {y : List Int} {F1 F2 : Nat → Option (List Int)} {pl : Nat} {s nu : Int} {K2 : Nat → Bool} (hs : 0 ≤ s ∧ s ≤ 2) (h1 : gr2 fS F1 16 ≤ 1) (h2 : Over F1 F2 pl s nu y K2) : gr2 fS F2 16 ≤ 2 :=
  gr_le fS F2 2 (by omega) 16 (fun i p hi hp => by
    rw [h2.at_ i hi] at hp
    split at hp
    · cases hp
      rw [piece_S _ _ _ _ _ (by omega)]
      exact hs.2
    · have := gr_ge fS F1 i p hp 16 hi
      omega)
/-- Behind the second one, where the first one was kept. -/
theorem told_both {x y : List Int} {F F1 F2 : Nat → Option (List Int)} {K K2 : Nat → Bool} (hF : ∀ i, i < 16 → F i = none) (h : Over F F1 0 1 1 x K) (hx : needN x.length ≤ 11) (hK : ∀ i, i < needN x.length → K i = true) (hy : needN y.length ≤ 11) (h2 : Over F1 F2 (needN x.length) 2 2 y K2) :
    (tell F2).2.2 = [x, y] ∨ ((tell F2).2.2 = [x] ∧ ∃ i, i < needN y.length ∧ K2 i = false) := by
  have hnx := needN_bd x.length
  have hny := needN_bd y.length
  have hnd1 : 1 ≤ needN x.length := by omega
  have hnd2 : 1 ≤ needN y.length := by omega
  have at1 : ∀ i, i < 16 → F1 i = if i < needN x.length then some (pieceOf 1 1 x (needN x.length) i) else none := fun i hi => by
    rw [h.at_ i hi, hF i hi, Nat.sub_zero]
    by_cases hr : i < needN x.length
    · rw [if_pos ⟨by omega, hK i hr⟩, if_pos hr]
    · rw [if_neg (fun z => hr (by omega)), if_neg hr]
  have r : RecHere F2 16 0 1 1 x := ⟨by omega, by omega, by omega, by omega, fun i hi => by rw [Nat.zero_add, h2.at_ i (by omega), if_neg (by omega), at1 i (by omega), if_pos hi]⟩
  have e := gath_rec r 15 ((gr2 fN F2 16 + 1) % 4294967296) none [] rfl
  rw [Nat.zero_add] at e
  have et : tell F2 = gathF F2 16 15 (needN x.length) 2 (some (pieceOf 1 1 x (needN x.length) 0)) [x] := e
  rw [et]
  rcases all_or K2 (needN y.length) with hall | ⟨i, hi, hk⟩
  · left
    have hun : needN x.length + needN y.length ≤ 16 := by
      rcases h2.un with hu | hu
      · exact hu
      · have := hall 0 (by omega); rw [hu 0] at this; cases this
    have r2 : RecHere F2 16 (needN x.length) 2 2 y := ⟨by omega, by omega, by omega, by omega, fun i hi => by rw [h2.at_ _ (by omega), if_pos ⟨by omega, by rw [Nat.add_sub_cancel_left]; exact hall i hi⟩, Nat.add_sub_cancel_left]⟩
    have e2 := gath_rec r2 14 2 (some (pieceOf 1 1 x (needN x.length) 0)) [x] (by
      simp only [stopAt, piece_N _ _ _ _ _ (show (0 : Int) ≤ 2 ∧ (2 : Int) ≤ 4294967295 by omega), piece_S _ _ _ _ _ (show (0 : Int) ≤ 2 ∧ (2 : Int) ≤ 4294967295 by omega), piece_S _ _ _ _ _ (show (0 : Int) ≤ 1 ∧ (1 : Int) ≤ 4294967295 by omega)]
      decide)
    rw [e2]
    by_cases ho : needN x.length + needN y.length < 16
    · rw [gath_none _ _ _ _ (by rw [h2.at_ _ ho, if_neg (by omega), at1 _ ho, if_neg (by omega)])]
      rfl
    · rw [gath_out _ _ _ _ (by omega)]
      rfl
  · right
    refine ⟨?_, i, hi, hk⟩
    have atn : ∀ j, needN x.length + j < 16 → K2 j = false → F2 (needN x.length + j) = none := fun j hj hkj => by
      rw [h2.at_ _ hj, if_neg (fun z => by rw [Nat.add_sub_cancel_left, hkj] at z; cases z.2), at1 _ hj, if_neg (by omega)]
    cases hk0 : K2 0 with
    | false => rw [gath_none _ _ _ _ (show F2 (needN x.length) = none from atn 0 (by omega) hk0)]
    | true =>
      have hun : needN x.length + needN y.length ≤ 16 := by
        rcases h2.un with hu | hu
        · exact hu
        · rw [hu 0] at hk0; cases hk0
      rw [gath_torn (c := needN y.length) (s := 2) (nu := 2) (b := y) (by omega) hun (.inr (by rw [h2.at_ _ (by omega), if_pos ⟨by omega, by rw [Nat.sub_self]; exact hk0⟩, Nat.sub_self])) i hi (atn i (by omega) hk)]
/-- Behind the second one, where the first one was not kept. -/
theorem told_over2 {x y : List Int} {F F1 F2 : Nat → Option (List Int)} {K K2 : Nat → Bool} {s nu : Int} (hF : ∀ i, i < 16 → F i = none) (h : Over F F1 0 1 1 x K) (hx : needN x.length ≤ 11) (i0 : Nat) (hi0 : i0 < needN x.length) (hK : K i0 = false) (hy : needN y.length ≤ 11) (hnu : nu = 1 ∨ nu = 2) (hs : s = 2 ∨ (s = 1 ∧ ∀ i, i < needN x.length → K i = false)) (h2 : Over F1 F2 0 s nu y K2) :
    (tell F2).2.2 = [y] ∨ ((tell F2).2.2 = [] ∧ ∃ i, i < needN y.length ∧ K2 i = false) := by
  have hny := needN_bd y.length
  have hnd2 : 1 ≤ needN y.length := by omega
  have at1 : ∀ i, i < 16 → F1 i = if i < needN x.length ∧ K i = true then some (pieceOf 1 1 x (needN x.length) i) else none := fun i hi => by
    rw [h.at_ i hi, hF i hi, Nat.sub_zero]
    by_cases hr : i < needN x.length ∧ K i = true
    · rw [if_pos ⟨by omega, hr.2⟩, if_pos hr]
    · rw [if_neg (fun z => hr ⟨by omega, z.2⟩), if_neg hr]
  have at2 : ∀ i, i < 16 → F2 i = if i < needN y.length ∧ K2 i = true then some (pieceOf s nu y (needN y.length) i) else F1 i := fun i hi => by
    rw [h2.at_ i hi, Nat.sub_zero]
    by_cases hr : i < needN y.length ∧ K2 i = true
    · rw [if_pos ⟨by omega, hr.2⟩, if_pos hr]
    · rw [if_neg (fun z => hr ⟨by omega, z.2⟩), if_neg hr]
  have hsb : 0 ≤ s ∧ s ≤ 4294967295 := by rcases hs with h | ⟨h, _⟩ <;> omega
  have pS : ∀ i, fS (pieceOf s nu y (needN y.length) i) = s := fun i => piece_S _ _ _ _ _ hsb
  have pX : ∀ i, fS (pieceOf 1 1 x (needN x.length) i) = 1 := fun i => piece_S _ _ _ _ _ (by omega)
  have hs2 : ∀ i, i < needN x.length → K i = true → s = 2 := fun i hi hk => by
    rcases hs with h | ⟨_, h⟩
    · exact h
    · rw [h i hi] at hk; cases hk
  rcases all_or K2 (needN y.length) with hall | ⟨i, hi, hk⟩
  · left
    have r : RecHere F2 16 0 s nu y := ⟨by omega, by omega, hsb, by omega, fun i hi => by rw [Nat.zero_add, at2 i (by omega), if_pos ⟨hi, hall i hi⟩]⟩
    have e := gath_rec r 15 ((gr2 fN F2 16 + 1) % 4294967296) none [] rfl
    rw [Nat.zero_add] at e
    have et : (tell F2).2.2 = (gathF F2 16 15 (needN y.length) ((nu + 1) % 4294967296) (some (pieceOf s nu y (needN y.length) 0)) [y]).2.2 := congrArg (fun z => z.2.2) e
    rw [et]
    have e1 : F2 (needN y.length) = F1 (needN y.length) := by rw [at2 _ (by omega), if_neg (by omega)]
    by_cases hr : needN y.length < needN x.length ∧ K (needN y.length) = true
    · rw [gath_mid _ _ _ _ (pieceOf 1 1 x (needN x.length) (needN y.length)) (by rw [e1, at1 _ (by omega), if_pos hr]) (by rw [piece_P _ _ _ _ _ (by omega)]; omega)]
    · rw [gath_none _ _ _ _ (by rw [e1, at1 _ (by omega), if_neg hr])]
  · right
    refine ⟨?_, i, hi, hk⟩
    unfold tell
    cases hk0 : K2 0 with
    | true =>
      rw [gath_bad _ _ _ _ (pieceOf s nu y (needN y.length) 0) (by rw [at2 0 (by omega), if_pos ⟨by omega, hk0⟩]) i (by rw [piece_C _ _ _ _ _ (by omega)]; exact hi) (by omega) (by
        rw [Nat.zero_add, at2 i (by omega), if_neg (fun z => by rw [hk] at z; cases z.2), at1 i (by omega)]
        by_cases hr : i < needN x.length ∧ K i = true
        · rw [if_pos hr]
          refine ok_ses ?_
          rw [pX, pS, hs2 i hr.1 hr.2]
          decide
        · rw [if_neg hr]; rfl)]
    | false =>
      have e0 : F2 0 = F1 0 := by rw [at2 0 (by omega), if_neg (fun z => by rw [hk0] at z; cases z.2)]
      by_cases hr : 0 < needN x.length ∧ K 0 = true
      · rw [gath_bad _ _ _ _ (pieceOf 1 1 x (needN x.length) 0) (by rw [e0, at1 0 (by omega), if_pos hr]) i0 (by rw [piece_C _ _ _ _ _ (by omega)]; exact hi0) (by omega) (by
          rw [Nat.zero_add, at2 i0 (by omega)]
          by_cases hq : i0 < needN y.length ∧ K2 i0 = true
          · rw [if_pos hq]
            refine ok_ses ?_
            rw [pX, pS, hs2 0 hr.1 hr.2]
            decide
          · rw [if_neg hq, at1 i0 (by omega), if_neg (fun z => by rw [hK] at z; cases z.2)]
            rfl)]
      · rw [gath_none _ _ _ _ (by rw [e0, at1 0 (by omega), if_neg hr])]
end Go.Proofs.Yticiaiiedagalaa.dk
