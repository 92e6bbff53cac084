/- DecBack answers true for every number and every text. -/
import Derived.Test.YtpnhgggdjlglnaaDoorM3
import Derived.Test.YtpnhgggdjlglnaaDoorL6
namespace Go.Proofs.YtpnhgggdjlglnaaDoor.dk
open Go.PlainAid Go.ChangeShapes Go.WideShapes Go.ChangeAt Go.RowKit

theorem parse_ok {s : ByteArray} {x : Nm} {c : Int} (h : parseP s = (x, c)) (hc : c = 0) : x.ok = true ∧ s.size ≤ 1000 := by
  unfold parseP at h
  split at h
  · injection h with _ h2
    rw [hc] at h2
    exact absurd h2 (by decide)
  · rename_i hs
    refine ⟨?_, by omega⟩
    unfold parseR2 at h
    split at h
    · injection h with _ h2
      rw [hc] at h2
      exact absurd h2 (by decide)
    · rename_i neg wh pt ex _
      rcases told_cases (fmN neg (wh ++ pt) (ex - (pt.size : Int))) with ⟨h1, h2⟩ | ⟨h1, h2⟩
      · rw [h2] at h
        injection h with h3 _
        rw [← h3]
        exact h1
      · rw [h2] at h
        injection h with _ h3
        rw [hc] at h3
        exact absurd h3 (by decide)
theorem back_any (n : Bool) (dg : ByteArray) (ex : Int) (s : ByteArray) (w : World) (ht : TabB w) :
    Calls Tryd.prog 4 #[.agg #[.bool n, .string dg, .int .i64 ex], .string s] w fun e w' => e = .returned (.bool true) ∧ Below w.heap.size w w' := by
  by_cases hl : 200 < dg.size
  · exact back_long1 w n dg ex s hl ht
  by_cases hs : 1000 < s.size
  · exact back_long2 w n dg ex s hl hs ht
  obtain ⟨⟨⟨tn, td, te⟩, cc⟩, ha⟩ : ∃ p, parseP s = p := ⟨_, rfl⟩
  have hT : cc = 0 → (⟨tn, td, te⟩ : Nm).ok = true := fun h => (parse_ok ha h).1
  have hD : dsane n (unstr dg) ex = true → ngd (ngd n dg ex) dg ex = n ∧ parseP (printT n dg ex) = (⟨n, dg, ex⟩, 0) ∧ (printT n dg ex).size ≤ 1000 := fun h => by
    have hO : (⟨n, dg, ex⟩ : Nm).ok = true := h
    have h1 := negN_negN hO
    have h2 := print_back hO
    injection h1 with h3 _ _
    exact ⟨h3, h2, (parse_ok h2 rfl).2⟩
  have hN : dsane n (unstr dg) ex = false → printT n dg ex = ⟨#[]⟩ := fun h => by
    unfold printT
    rw [if_neg (by rw [h]; decide)]
  by_cases hc : cc = 0
  · have k1 := hT hc
    subst hc
    have a2 := print_back k1
    have zT := (parse_ok a2 rfl).2
    cases k2 : dsane n (unstr dg) ex with
    | true =>
      obtain ⟨q2, a3, zD⟩ := hD k2
      exact back_y_y w n dg ex s hl hs tn td te ha k1 (Nm.small k1) a2 zT k2 _ rfl q2 a3 zD ht
    | false => exact back_y_n w n dg ex s hl hs tn td te ha k1 (Nm.small k1) a2 zT k2 (hN k2) ht
  · cases k2 : dsane n (unstr dg) ex with
    | true =>
      obtain ⟨q2, a3, zD⟩ := hD k2
      exact back_n_y w n dg ex s hl hs tn td te cc ha hc k2 _ rfl q2 a3 zD ht
    | false => exact back_n_n w n dg ex s hl hs tn td te cc ha hc k2 (hN k2) ht
end Go.Proofs.YtpnhgggdjlglnaaDoor.dk
