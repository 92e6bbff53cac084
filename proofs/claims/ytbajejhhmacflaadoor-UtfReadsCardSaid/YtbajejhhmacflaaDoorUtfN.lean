/- Plain facts about what bytes begin with: the four shapes of a character, and back. -/
import Derived.Test.YtbajejhhmacflaaDoorUtfM
namespace Go.Proofs.YtbajejhhmacflaaDoor.utf
open Go.RowKit

/-- The bytes b0 .. (n of them there) begin with the character r, of m bytes. -/
def Ch (n b0 b1 b2 b3 r m : Int) : Prop :=
  (m = 1 ∧ 1 ≤ n ∧ b0 < 128 ∧ r = b0) ∨
  (m = 2 ∧ 2 ≤ n ∧ 194 ≤ b0 ∧ b0 ≤ 223 ∧ 128 ≤ b1 ∧ b1 ≤ 191 ∧ r = (b0 - 192) * 64 + (b1 - 128)) ∨
  (m = 3 ∧ 3 ≤ n ∧ 224 ≤ b0 ∧ b0 ≤ 239 ∧ 128 ≤ b1 ∧ b1 ≤ 191 ∧ 128 ≤ b2 ∧ b2 ≤ 191 ∧ (b0 = 224 → 160 ≤ b1) ∧ (b0 = 237 → b1 ≤ 159) ∧ r = (b0 - 224) * 4096 + (b1 - 128) * 64 + (b2 - 128)) ∨
  (m = 4 ∧ 4 ≤ n ∧ 240 ≤ b0 ∧ b0 ≤ 244 ∧ 128 ≤ b1 ∧ b1 ≤ 191 ∧ 128 ≤ b2 ∧ b2 ≤ 191 ∧ 128 ≤ b3 ∧ b3 ≤ 191 ∧ (b0 = 240 → 144 ≤ b1) ∧ (b0 = 244 → b1 ≤ 143) ∧ r = (b0 - 240) * 262144 + (b1 - 128) * 4096 + (b2 - 128) * 64 + (b3 - 128))

theorem cont_iff (b : Int) : cont b = true ↔ 128 ≤ b ∧ b ≤ 191 := by simp [cont]
theorem cont_not (b : Int) : cont b = false ↔ ¬ (128 ≤ b ∧ b ≤ 191) := by rw [← cont_iff]; simp

theorem body_two (n b0 b1 b2 b3 low high : Int) : body n b0 b1 b2 b3 2 low high = (if 2 ≤ n ∧ low ≤ b1 ∧ b1 ≤ high ∧ cont b1 = true then (b0 % 32 * 64 + b1 % 64, 2) else (0, 0)) := by
  unfold body
  by_cases h1 : n < 2
  · rw [if_pos h1, if_neg (by omega)]
  by_cases h2 : b1 < low
  · rw [if_neg h1, if_pos h2, if_neg (by omega)]
  by_cases h3 : high < b1
  · rw [if_neg h1, if_neg h2, if_pos h3, if_neg (by omega)]
  rw [if_neg h1, if_neg h2, if_neg h3]
  by_cases h4 : cont b1 = true
  · rw [if_neg (by rw [h4]; decide), if_pos rfl, if_pos ⟨by omega, by omega, by omega, h4⟩]
  · rw [if_pos (by simpa using h4), if_neg (fun h => h4 h.2.2.2)]
theorem body_three (n b0 b1 b2 b3 low high : Int) : body n b0 b1 b2 b3 3 low high = (if 3 ≤ n ∧ low ≤ b1 ∧ b1 ≤ high ∧ cont b1 = true ∧ cont b2 = true then ((b0 % 16 * 64 + b1 % 64) * 64 + b2 % 64, 3) else (0, 0)) := by
  unfold body
  by_cases h1 : n < 3
  · rw [if_pos h1, if_neg (by omega)]
  by_cases h2 : b1 < low
  · rw [if_neg h1, if_pos h2, if_neg (by omega)]
  by_cases h3 : high < b1
  · rw [if_neg h1, if_neg h2, if_pos h3, if_neg (by omega)]
  rw [if_neg h1, if_neg h2, if_neg h3]
  by_cases h4 : cont b1 = true
  · by_cases h5 : cont b2 = true
    · rw [if_neg (by rw [h4]; decide), if_neg (by decide), if_neg (by rw [h5]; decide), if_pos rfl, if_pos ⟨by omega, by omega, by omega, h4, h5⟩]
    · rw [if_neg (by rw [h4]; decide), if_neg (by decide), if_pos (by simpa using h5), if_neg (fun h => h5 h.2.2.2.2)]
  · rw [if_pos (by simpa using h4), if_neg (fun h => h4 h.2.2.2.1)]
theorem body_four (n b0 b1 b2 b3 low high : Int) : body n b0 b1 b2 b3 4 low high = (if 4 ≤ n ∧ low ≤ b1 ∧ b1 ≤ high ∧ cont b1 = true ∧ cont b2 = true ∧ cont b3 = true then (((b0 % 8 * 64 + b1 % 64) * 64 + b2 % 64) * 64 + b3 % 64, 4) else (0, 0)) := by
  unfold body
  by_cases h1 : n < 4
  · rw [if_pos h1, if_neg (by omega)]
  by_cases h2 : b1 < low
  · rw [if_neg h1, if_pos h2, if_neg (by omega)]
  by_cases h3 : high < b1
  · rw [if_neg h1, if_neg h2, if_pos h3, if_neg (by omega)]
  rw [if_neg h1, if_neg h2, if_neg h3]
  by_cases h4 : cont b1 = true
  · by_cases h5 : cont b2 = true
    · by_cases h6 : cont b3 = true
      · rw [if_neg (by rw [h4]; decide), if_neg (by decide), if_neg (by rw [h5]; decide), if_neg (by decide), if_neg (by rw [h6]; decide), if_pos ⟨by omega, by omega, by omega, h4, h5, h6⟩]
      · rw [if_neg (by rw [h4]; decide), if_neg (by decide), if_neg (by rw [h5]; decide), if_neg (by decide), if_pos (by simpa using h6), if_neg (fun h => h6 h.2.2.2.2.2)]
    · rw [if_neg (by rw [h4]; decide), if_neg (by decide), if_pos (by simpa using h5), if_neg (fun h => h5 h.2.2.2.2.1)]
  · rw [if_pos (by simpa using h4), if_neg (fun h => h4 h.2.2.2.1)]

theorem scan_step (n b0 b1 b2 b3 lead last size low high : Int) (fs : List (Int × Int × Int × Int × Int)) :
    scan n b0 b1 b2 b3 ((lead, last, size, low, high) :: fs) = if lead ≤ b0 ∧ b0 ≤ last then body n b0 b1 b2 b3 size low high else scan n b0 b1 b2 b3 fs := by
  show (if b0 < lead then _ else if last < b0 then _ else _) = _
  by_cases h1 : b0 < lead
  · rw [if_pos h1, if_neg (by omega)]
  · by_cases h2 : last < b0
    · rw [if_neg h1, if_pos h2, if_neg (by omega)]
    · rw [if_neg h1, if_neg h2, if_pos (by omega)]

theorem ite_ok {P : Int × Int → Prop} {c : Prop} [Decidable c] {a b : Int × Int} (ha : c → P a) (hb : ¬ c → P b) : P (if c then a else b) := by
  by_cases h : c
  · rw [if_pos h]; exact ha h
  · rw [if_neg h]; exact hb h

/-- v is what the bytes begin with: a character, or none. -/
def Begins (n b0 b1 b2 b3 : Int) (v : Int × Int) : Prop := Ch n b0 b1 b2 b3 v.1 v.2 ∨ (v = (0, 0) ∧ ∀ r m, ¬ Ch n b0 b1 b2 b3 r m)

/-- What 'nx' says is a character is one; else it says (0, 0) and there is none. -/
theorem nx_is (n b0 b1 b2 b3 : Int) (h0 : 0 ≤ b0) (h1 : b0 ≤ 255) : Begins n b0 b1 b2 b3 (nx n b0 b1 b2 b3) := by
  unfold nx
  refine ite_ok (fun hn => .inr ⟨rfl, fun r m h => by unfold Ch at h; omega⟩) (fun hn => ?_)
  refine ite_ok (fun ha => .inl (.inl ⟨rfl, by omega, ha, rfl⟩)) (fun ha => ?_)
  unfold fcell
  simp only [scan_step, body_two, body_three, body_four]
  simp only [cont_iff]
  repeat' (refine ite_ok (fun _ => ?_) (fun _ => ?_))
  all_goals first
    | exact .inl (.inr (.inl ⟨rfl, by omega, by omega, by omega, by omega, by omega, by show _ * 64 + _ = _; omega⟩))
    | exact .inl (.inr (.inr (.inl ⟨rfl, by omega, by omega, by omega, by omega, by omega, by omega, by omega, by omega, by omega, by show _ * 64 + _ = _; omega⟩)))
    | exact .inl (.inr (.inr (.inr ⟨rfl, by omega, by omega, by omega, by omega, by omega, by omega, by omega, by omega, by omega, by omega, by omega, by show _ * 64 + _ = _; omega⟩)))
    | exact .inr ⟨rfl, fun r m h => by unfold Ch at h; omega⟩

/-- The bytes say which character. -/
theorem ch_one {n b0 b1 b2 b3 r m r' m' : Int} (h : Ch n b0 b1 b2 b3 r m) (h' : Ch n b0 b1 b2 b3 r' m') : r = r' ∧ m = m' := by
  unfold Ch at h h'; omega
theorem nx_ch {n b0 b1 b2 b3 r m : Int} (h0 : 0 ≤ b0) (h1 : b0 ≤ 255) (h : Ch n b0 b1 b2 b3 r m) : nx n b0 b1 b2 b3 = (r, m) := by
  rcases nx_is n b0 b1 b2 b3 h0 h1 with h' | ⟨_, h'⟩
  · obtain ⟨e, f⟩ := ch_one h' h
    rw [← e, ← f]
  · exact absurd h (h' r m)
theorem ch_len {n b0 b1 b2 b3 r m : Int} (h : Ch n b0 b1 b2 b3 r m) : 1 ≤ m ∧ m ≤ 4 ∧ m ≤ n := by unfold Ch at h; omega
end Go.Proofs.YtbajejhhmacflaaDoor.utf
