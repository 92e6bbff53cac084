/- Plain facts about digits of sixteen. -/
import Derived.Test.YtbajejhhmacflaaDoorUtfH
import Derived.Test.YtbajejhhmacflaaDoorUtfJM
namespace Go.Proofs.YtbajejhhmacflaaDoor.utf
open Go.PlainAid Go.ChangeShapes Go.WideShapes Go.ChangeAt Go.RowKit

/-- A digit's byte. -/
def hx (g : Bool) (d : Int) : Int := if d < 10 then 48 + d else (if g then 55 else 87) + d
theorem hexv_hx (g : Bool) (d : Int) (h0 : 0 ≤ d) (h1 : d < 16) : hexv (hx g d) = d := by
  unfold hx
  by_cases h : d < 10
  · rw [if_pos h]; unfold hexv; rw [if_pos (by omega)]; omega
  · rw [if_neg h]
    cases g
    · rw [if_neg (by decide)]; unfold hexv; rw [if_neg (by omega), if_pos (by omega)]; omega
    · rw [if_pos rfl]; unfold hexv; rw [if_neg (by omega), if_neg (by omega), if_pos (by omega)]; omega
theorem hx_range (g : Bool) (d : Int) (h0 : 0 ≤ d) (h1 : d < 16) : 0 ≤ hx g d ∧ hx g d ≤ 255 := by
  unfold hx
  by_cases h : d < 10
  · rw [if_pos h]; omega
  · rw [if_neg h]
    cases g
    · rw [if_neg (by decide)]; omega
    · rw [if_pos rfl]; omega
/-- u and four digits. -/
def ub (g : Bool) (u : Int) : List Int := [117, hx g (u / 4096 % 16), hx g (u / 256 % 16), hx g (u / 16 % 16), hx g (u % 16)]
theorem ub_oct (g : Bool) (u : Int) : Oct (ub g u) := by
  intro x h
  unfold ub at h
  simp only [List.mem_cons, List.not_mem_nil, or_false] at h
  rcases h with rfl | rfl | rfl | rfl | rfl
  · omega
  all_goals exact hx_range _ _ (by omega) (by omega)
theorem dig_ub (g : Bool) (u : Int) (h0 : 0 ≤ u) (h1 : u ≤ 65535) (rest : List Int) : dig (ub g u ++ rest) = (u, true) := by
  have e1 : gl (ub g u ++ rest) 1 = hx g (u / 4096 % 16) := rfl
  have e2 : gl (ub g u ++ rest) 2 = hx g (u / 256 % 16) := rfl
  have e3 : gl (ub g u ++ rest) 3 = hx g (u / 16 % 16) := rfl
  have e4 : gl (ub g u ++ rest) 4 = hx g (u % 16) := rfl
  have v1 := hexv_hx g (u / 4096 % 16) (by omega) (by omega)
  have v2 := hexv_hx g (u / 256 % 16) (by omega) (by omega)
  have v3 := hexv_hx g (u / 16 % 16) (by omega) (by omega)
  have v4 := hexv_hx g (u % 16) (by omega) (by omega)
  have k1 : hxk (ub g u ++ rest) 1 = some (u / 4096 % 16) := by
    simp only [hxk, e1, v1, Option.bind_some]; rw [if_neg (by omega)]; congr 1; omega
  have k2 : hxk (ub g u ++ rest) 2 = some (u / 4096 % 16 * 16 + u / 256 % 16) := by
    show (hxk _ 1).bind _ = _
    simp only [k1, e2, v2, Option.bind_some]; rw [if_neg (by omega)]
  have k3 : hxk (ub g u ++ rest) 3 = some ((u / 4096 % 16 * 16 + u / 256 % 16) * 16 + u / 16 % 16) := by
    show (hxk _ 2).bind _ = _
    simp only [k2, e3, v3, Option.bind_some]; rw [if_neg (by omega)]
  have k4 : hxk (ub g u ++ rest) 4 = some u := by
    show (hxk _ 3).bind _ = _
    simp only [k3, e4, v4, Option.bind_some]; rw [if_neg (by omega)]; congr 1; omega
  have hl : (ub g u ++ rest).length = 5 + rest.length := by unfold ub; simp; omega
  have h5 : gl (ub g u ++ rest) 0 = 117 := rfl
  unfold dig
  rw [if_neg (by omega), if_neg (by rw [h5]; decide), k4]

/-- The two tables of digits. -/
def hs (g : Bool) : ByteArray := if g then ⟨#[48, 49, 50, 51, 52, 53, 54, 55, 56, 57, 65, 66, 67, 68, 69, 70]⟩ else ⟨#[48, 49, 50, 51, 52, 53, 54, 55, 56, 57, 97, 98, 99, 100, 101, 102]⟩
theorem index_hs_any (g : Bool) (d : Int) (h0 : 0 ≤ d) (h1 : d < 16) (w : World) : (Instr.index 9 (.string (hs g)) (.int .i64 d)).run Tryd.prog w = .ok (.int .u8 (hx g d)) w := by
  have hd : d = 0 ∨ d = 1 ∨ d = 2 ∨ d = 3 ∨ d = 4 ∨ d = 5 ∨ d = 6 ∨ d = 7 ∨ d = 8 ∨ d = 9 ∨ d = 10 ∨ d = 11 ∨ d = 12 ∨ d = 13 ∨ d = 14 ∨ d = 15 := by omega
  rcases hd with rfl | rfl | rfl | rfl | rfl | rfl | rfl | rfl | rfl | rfl | rfl | rfl | rfl | rfl | rfl | rfl <;> cases g <;> (clear h0 h1; show _ = _; kernel_rfl)
theorem index_false (d : Int) (h0 : 0 ≤ d) (h1 : d < 16) (w : World) : (Instr.index 9 (.string ⟨#[48, 49, 50, 51, 52, 53, 54, 55, 56, 57, 97, 98, 99, 100, 101, 102]⟩) (.int .i64 d)).run Tryd.prog w = .ok (.int .u8 (hx false d)) w := index_hs_any false d h0 h1 w
theorem index_true (d : Int) (h0 : 0 ≤ d) (h1 : d < 16) (w : World) : (Instr.index 9 (.string ⟨#[48, 49, 50, 51, 52, 53, 54, 55, 56, 57, 65, 66, 67, 68, 69, 70]⟩) (.int .i64 d)).run Tryd.prog w = .ok (.int .u8 (hx true d)) w := index_hs_any true d h0 h1 w
theorem byte_false (d : Int) (h0 : 0 ≤ d) (h1 : d < 16) (h : d.toNat < (⟨#[48, 49, 50, 51, 52, 53, 54, 55, 56, 57, 97, 98, 99, 100, 101, 102]⟩ : ByteArray).size) : (((⟨#[48, 49, 50, 51, 52, 53, 54, 55, 56, 57, 97, 98, 99, 100, 101, 102]⟩ : ByteArray)[d.toNat]'h).toNat : Int) = hx false d := by
  have hd : d = 0 ∨ d = 1 ∨ d = 2 ∨ d = 3 ∨ d = 4 ∨ d = 5 ∨ d = 6 ∨ d = 7 ∨ d = 8 ∨ d = 9 ∨ d = 10 ∨ d = 11 ∨ d = 12 ∨ d = 13 ∨ d = 14 ∨ d = 15 := by omega
  rcases hd with rfl | rfl | rfl | rfl | rfl | rfl | rfl | rfl | rfl | rfl | rfl | rfl | rfl | rfl | rfl | rfl <;> rfl
theorem byte_true (d : Int) (h0 : 0 ≤ d) (h1 : d < 16) (h : d.toNat < (⟨#[48, 49, 50, 51, 52, 53, 54, 55, 56, 57, 65, 66, 67, 68, 69, 70]⟩ : ByteArray).size) : (((⟨#[48, 49, 50, 51, 52, 53, 54, 55, 56, 57, 65, 66, 67, 68, 69, 70]⟩ : ByteArray)[d.toNat]'h).toNat : Int) = hx true d := by
  have hd : d = 0 ∨ d = 1 ∨ d = 2 ∨ d = 3 ∨ d = 4 ∨ d = 5 ∨ d = 6 ∨ d = 7 ∨ d = 8 ∨ d = 9 ∨ d = 10 ∨ d = 11 ∨ d = 12 ∨ d = 13 ∨ d = 14 ∨ d = 15 := by omega
  rcases hd with rfl | rfl | rfl | rfl | rfl | rfl | rfl | rfl | rfl | rfl | rfl | rfl | rfl | rfl | rfl | rfl <;> rfl
end Go.Proofs.YtbajejhhmacflaaDoor.utf
