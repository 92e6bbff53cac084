/- The document's answer: Next is what the program's is. -/
import Derived.Test.YtbajejhhmacflaaDoorUtfRF
import Derived.Test.YtbajejhhmacflaaDoorUtfRG
import Derived.Test.YtbajejhhmacflaaDoorUtfML
namespace Go.Proofs.YtbajejhhmacflaaDoor.utf
open Go.PlainAid Go.ChangeShapes Go.WideShapes Go.ChangeAt Go.RowKit

theorem ch_is_rune {n b0 b1 b2 b3 r m : Int} (h0 : 0 ≤ b0) (h : Ch n b0 b1 b2 b3 r m) : IsRune r := by unfold Ch at h; unfold IsRune; omega
theorem fin_case {l : List Int} (hO : Oct l) (x : Int) (k : Nat) (hC : ∀ r m, Ch l.length (gl l 0) (gl l 1) (gl l 2) (gl l 3) r m → r = x ∧ m = (k : Int)) :
    (nxl l = (x, (k : Int)) ∧ k ≤ l.length ∧ okRune x = true ∧ decide (l.take (enc x).length = enc x) = true ∧ (enc x).length = k) ∨
    (nxl l = (0, 0) ∧ (okRune x = true → decide (l.take (enc x).length = enc x) = false)) := by
  rcases nxl_is hO with h | ⟨h, _⟩
  · obtain ⟨h1, h2⟩ := hC _ _ h
    have hl := ch_len h
    have ht := take_enc hO h
    have hr := ch_is_rune (hO.gl 0).1 h
    rw [h1] at ht hr
    rw [h2] at ht hl
    have ht : l.take k = enc x := by simpa using ht
    have hk : (enc x).length = k := by rw [← ht, List.length_take]; omega
    refine .inl ⟨Prod.ext h1 h2, by omega, decide_eq_true (show 0 ≤ x ∧ (x < 55296 ∨ 57343 < x) ∧ x ≤ 1114111 from hr), decide_eq_true (by rw [hk]; exact ht), hk⟩
  · refine .inr ⟨h, fun hr => decide_eq_false fun e => ?_⟩
    have := nxl_of_take (of_decide_eq_true (p := 0 ≤ x ∧ (x < 55296 ∨ 57343 < x) ∧ x ≤ 1114111) hr) e
    rw [h] at this
    injection this with _ this
    have := enc_len x
    omega

theorem RNext_any (b off n c : Nat) (l : List Int) (w : World) (hO : Oct l) (hB : Bs w (.slice (some ⟨b, off, none⟩) n c) l) (h0 : 0 < n) (hn : n ≤ 140737488351232) :
    Calls Tryd.prog 13 #[.slice (some ⟨b, off, none⟩) n c] w fun e w' => e = .returned (.tuple #[.int .i32 (nxl l).1, .int .i64 (nxl l).2]) ∧ Below w.heap.size w w' := by
  have hl := (Bs_news hB).1
  have g0 := hO.gl 0
  have g1 := hO.gl 1
  have g2 := hO.gl 2
  have g3 := hO.gl 3
  by_cases a : gl l 0 < 128
  · have e : nxl l = (gl l 0, 1) := by
      rcases nxl_is hO with h | ⟨_, h⟩
      · refine Prod.ext ?_ ?_ <;> unfold Ch at h <;> show _ = _ <;> omega
      · exact absurd (Or.inl ⟨rfl, by omega, a, rfl⟩) (h (gl l 0) 1)
    rw [e]
    exact RNext_1a b off n c l _ w rfl hB h0 hn g0.1 a
  by_cases a1 : gl l 0 < 192
  · have e : nxl l = (0, 0) := by
      rcases nxl_is hO with h | ⟨h, _⟩
      · exfalso; unfold Ch at h; omega
      · exact h
    rw [e]
    exact RNext_1b b off n c l _ w rfl hB h0 hn (by omega) a1
  by_cases a2 : gl l 0 < 224
  · rcases fin_case hO (gl l 0 % 32 * 64 + gl l 1 % 64) 2 (fun r m h => by unfold Ch at h; omega) with ⟨e, hs, hok, hq, hlen⟩ | ⟨e, h⟩
    · rw [e]
      exact RNext_2_yes b off n c l _ _ _ w rfl rfl g0 g1 rfl hB h0 hn (by omega) a2 (by omega) hok hq hlen
    · rw [e]
      by_cases hs : n < 2
      · exact RNext_2_short b off n c l _ w rfl g0 hB h0 hn (by omega) a2 hs
      cases hok : okRune (gl l 0 % 32 * 64 + gl l 1 % 64)
      · exact RNext_2_bad b off n c l _ _ _ w rfl rfl g0 g1 rfl hB h0 hn (by omega) a2 (by omega) hok
      · exact RNext_2_no b off n c l _ _ _ w rfl rfl g0 g1 rfl hB h0 hn (by omega) a2 (by omega) hok (h hok)
  by_cases a3 : gl l 0 < 240
  · rcases fin_case hO ((gl l 0 % 16 * 64 + gl l 1 % 64) * 64 + gl l 2 % 64) 3 (fun r m h => by unfold Ch at h; omega) with ⟨e, hs, hok, hq, hlen⟩ | ⟨e, h⟩
    · rw [e]
      exact RNext_3_yes b off n c l _ _ _ _ _ w rfl rfl rfl g0 g1 g2 rfl rfl hB h0 hn (by omega) a3 (by omega) hok hq hlen
    · rw [e]
      by_cases hs : n < 3
      · exact RNext_3_short b off n c l _ w rfl g0 hB h0 hn (by omega) a3 hs
      cases hok : okRune ((gl l 0 % 16 * 64 + gl l 1 % 64) * 64 + gl l 2 % 64)
      · exact RNext_3_bad b off n c l _ _ _ _ _ w rfl rfl rfl g0 g1 g2 rfl rfl hB h0 hn (by omega) a3 (by omega) hok
      · exact RNext_3_no b off n c l _ _ _ _ _ w rfl rfl rfl g0 g1 g2 rfl rfl hB h0 hn (by omega) a3 (by omega) hok (h hok)
  · rcases fin_case hO (((gl l 0 % 8 * 64 + gl l 1 % 64) * 64 + gl l 2 % 64) * 64 + gl l 3 % 64) 4 (fun r m h => by unfold Ch at h; omega) with ⟨e, hs, hok, hq, hlen⟩ | ⟨e, h⟩
    · rw [e]
      exact RNext_4_yes b off n c l _ _ _ _ _ _ _ w rfl rfl rfl rfl g0 g1 g2 g3 rfl rfl rfl hB h0 hn (by omega) (by omega) (by omega) hok hq hlen
    · rw [e]
      by_cases hs : n < 4
      · exact RNext_4_short b off n c l _ w rfl g0 hB h0 hn (by omega) (by omega) hs
      cases hok : okRune (((gl l 0 % 8 * 64 + gl l 1 % 64) * 64 + gl l 2 % 64) * 64 + gl l 3 % 64)
      · exact RNext_4_bad b off n c l _ _ _ _ _ _ _ w rfl rfl rfl rfl g0 g1 g2 g3 rfl rfl rfl hB h0 hn (by omega) (by omega) (by omega) hok
      · exact RNext_4_no b off n c l _ _ _ _ _ _ _ w rfl rfl rfl rfl g0 g1 g2 g3 rfl rfl rfl hB h0 hn (by omega) (by omega) (by omega) hok (h hok)
end Go.Proofs.YtbajejhhmacflaaDoor.utf
