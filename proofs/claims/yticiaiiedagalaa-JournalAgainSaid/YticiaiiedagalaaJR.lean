/- Reset; what two records one over the other are told as. -/
import Derived.Test.YticiaiiedagalaaJQ
namespace Go.Proofs.Yticiaiiedagalaa.dk
open Go.PlainAid Go.ChangeShapes Go.WideShapes Go.ChangeAt Go.RowKit

theorem Reset_any {B A : Nat} {g : Lg} {w : World} (hg : LogAt A g w) (hBA : B ≤ A) :
    Calls Try.prog 25 #[.pointer (some ⟨A, 0, none⟩)] w fun e w' => e = .returned (.tuple #[]) ∧ LogAt A { g with place := 0 } w' ∧ Below B w w' ∧ Fr A w w' := by
  have c3 := hg.cell 3
  simp only [lgcells] at c3
  simp at c3
  have f3 := hg.frozen 3
  have HT := Lib.hid (hg.turn (g' := { g with place := 0 }) 3 (.int .i64 0) rfl hBA (Below.refl B w))
  clear hg
  go_enter Try.func25, Try.ntmps25
  go_wp2_with fail
  go_end0
  exact ⟨rfl, HT.out⟩
theorem Reset_nil (w : World) :
    Calls Try.prog 25 #[.pointer none] w fun e w' => e = .returned (.tuple #[]) ∧ w = w' := by
  go_enter Try.func25, Try.ntmps25
  go_wp2_with fail
  go_end0
  exact ⟨rfl, rfl⟩
theorem Append_nil (w : World) (p : Option Addr) (k c : Nat) (hk : k ≤ 100000000) :
    Calls Try.prog 27 #[.pointer none, .slice p k c] w fun e w' => e = .returned (.int .i64 10) ∧ w = w' := by
  have HN := Lib.hid (Need_any w (k : Int) (by omega))
  go_enter Try.func27, Try.ntmps27
  go_wp2_with (go_at_call 32; with_reducible refine HN.out.mono ?_; rintro e w' ⟨rfl, rfl⟩)
  go_ret
  exact ⟨rfl, rfl⟩
theorem Src.lk {B D L N A : Nat} {P P' : Value} {w w' : World} {p : Option Addr} {n : Nat} {b : List Int} (h : Src D L N P w p n b) (k : LkF B D L N P A w P' w') (hA : ∀ g off, p = some ⟨g, off, none⟩ → g ≠ A) : Src D L N P' w' p n b := by
  obtain ⟨h1, h2⟩ := h
  refine ⟨⟨h1.1, fun h0 => ?_⟩, fun g off e h0 => ?_⟩
  · obtain ⟨g, off, e, hlt, hc⟩ := h1.2 h0
    refine ⟨g, off, e, Nat.lt_of_lt_of_le hlt k.below.size, fun i hi => ?_⟩
    rw [World.cell?_of_block (a := ⟨g, off + i, none⟩) (k.fr g hlt (h2 g off e h0) (hA g off e))]
    exact hc i hi
  · obtain ⟨g', off', e', hlt, _⟩ := h1.2 h0
    have : g = g' := by rw [e] at e'; injection e' with e'; injection e'
    subst this
    have hx := h2 g off e h0
    rintro (e1 | e1 | e1 | e1)
    · exact hx (.inl e1)
    · exact hx (.inr (.inl e1))
    · exact hx (.inr (.inr (.inl e1)))
    · rcases k.nw g e1 with h1 | h1
      · exact hx (.inr (.inr (.inr h1)))
      · omega
theorem append_full (g : Lg) (m : Dk) (b : List Int) (hg : g.broken = false) (hbig : needN b.length ≤ 65535) (hf : g.n < g.place + needN b.length) : appendOf g m b = (g, m, 5) := by
  unfold appendOf
  rw [if_neg (by rw [hg]; decide), if_neg (by omega), if_pos hf]
/-- A record over what is left of another one. -/
theorem told_over {D n N : Nat} {x y : List Int} {nu : Int} {cx : Nat} {m1 m2 : Dk} (h1 : ∀ i, i < n → pcF m1.now 0 i = if i < cx then some (pieceOf 1 1 x cx i) else none) (hN : m1.n = N) (hn : n ≤ N)
    (hnu : 0 ≤ nu ∧ nu ≤ 4294967294) (h2 : Laid { d := D, frm := 0, n := n, place := 0, num := nu, ses := 1, broken := false } y (needN y.length) (needN y.length) 0 m1 m2) (hc : needN y.length ≤ n) (hb : needN y.length ≤ 65535) :
    (toldOf m2.now 0 n).2.2 = [y] ∧ sesOf m2.now 0 n ≠ 4294967295 := by
  have hNd := needN_bd y.length
  have at2 : ∀ i, i < n → pcF m2.now 0 i = if i < needN y.length then some (pieceOf 1 nu y (needN y.length) i) else pcF m1.now 0 i := fun i hi => by
    unfold pcF
    rw [h2.at_ (0 + i) (by omega)]
    by_cases h : i < needN y.length
    · rw [if_pos (by omega), if_pos h, show 0 + i - (0 + 0) = i by omega]
      exact pc_piece _ _ _ _ _
    · rw [if_neg (by omega), if_neg h]
  have r : RecHere (pcF m2.now 0) n 0 1 nu y := ⟨by omega, hb, by omega, by omega, fun i hi => by rw [Nat.zero_add, at2 i (by omega), if_pos hi]⟩
  refine ⟨?_, ?_⟩
  · obtain ⟨k, rfl⟩ : ∃ k, n = k + 1 := ⟨n - 1, by omega⟩
    have e0 := gath_rec r k ((gr2 fN (pcF m2.now 0) (k + 1) + 1) % 4294967296) none [] rfl
    rw [Nat.zero_add] at e0
    have e : (toldOf m2.now 0 (k + 1)).2.2 = (gathF (pcF m2.now 0) (k + 1) k (needN y.length) ((nu + 1) % 4294967296) (some (pieceOf 1 nu y (needN y.length) 0)) ([] ++ [y])).2.2 := congrArg (fun z => z.2.2) e0
    rw [e]
    by_cases hk : needN y.length < k + 1
    · by_cases hx : needN y.length < cx
      · rw [gath_mid _ _ _ _ (pieceOf 1 1 x cx (needN y.length)) (by rw [at2 _ hk, if_neg (by omega), h1 _ hk, if_pos hx]) (by rw [piece_P _ _ _ _ _ (by omega)]; omega)]
        rfl
      · rw [gath_none _ _ _ _ (by rw [at2 _ hk, if_neg (by omega), h1 _ hk, if_neg hx])]
        rfl
    · rw [gath_out _ _ _ _ (by omega)]
      rfl
  · have := gr_le fS (pcF m2.now 0) 1 (by omega) n (fun i p hi hp => by
      rw [at2 i hi, h1 i hi] at hp
      split at hp
      · cases hp; exact Int.le_of_eq (piece_S _ _ _ _ _ (by omega))
      · split at hp
        · cases hp; exact Int.le_of_eq (piece_S _ _ _ _ _ (by omega))
        · cases hp)
    unfold sesOf
    omega
end Go.Proofs.Yticiaiiedagalaa.dk
