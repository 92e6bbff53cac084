/- Of: a whole number. -/
import Derived.Test.YtpnhgggdjlglnaaDoorS
import Derived.Test.YtpnhgggdjlglnaaDoorShelfP
import Derived.Test.YtpnhgggdjlglnaaDoorJ
namespace Go.Proofs.YtpnhgggdjlglnaaDoor.dk
open Go.PlainAid Go.ChangeShapes Go.WideShapes Go.ChangeAt Go.RowKit

/-- A whole number's digits, without its sign. -/
def itd (n : Int) : ByteArray := ⟨(Lib.trimPrefix (Lib.itoa n) [45]).toArray⟩
theorem itd_le (n : Int) (h0 : -9223372036854775808 ≤ n) (h1 : n ≤ 9223372036854775807) : (itd n).size ≤ 21 := by
  have h2 := Lib.itoa_length_le n h0 h1
  show (List.toArray _).size ≤ 21
  rw [List.size_toArray]
  unfold Lib.trimPrefix
  split
  · rw [List.length_drop]
    omega
  · exact h2
set_option maxRecDepth 100000 in
set_option maxHeartbeats 1000000 in
theorem Of_any (w : World) (n : Int) (h0 : -9223372036854775808 ≤ n) (h1 : n ≤ 9223372036854775807) (ht : TabB w) :
    Calls Tryd.prog 21 #[.int .i64 n] w fun e w' => e = .returned (.agg (fmd (decide (n < 0)) (itd n) 0)) ∧ Below w.heap.size w w' := by
  obtain ⟨wa, hwa⟩ : ∃ wa, wa = w.alloc (.cells #[.bool false, .string ⟨#[]⟩, .int .i64 0] 23) := ⟨_, rfl⟩
  have hst : wa.heap[w.heap.size]? = some (.cells #[.bool false, .string ⟨#[]⟩, .int .i64 0] 23 (0, 0)) := by rw [hwa]; exact heap_alloc_new _ _
  have hba : Below w.heap.size w wa := by rw [hwa]; exact (Below.refl _ _).alloc (Nat.le_refl _) _
  have hI := Tryd.strconv_Itoa n h0 h1 wa (TabB.at ht hba)
  have hI2 : Calls Tryd.prog 42 #[.int .i64 n] wa fun e w' => e = .returned (.string ⟨(Lib.itoa n).toArray⟩) ∧ Below wa.heap.size wa w' := hI.mono fun e w' hq => by
    obtain ⟨rfl, k, os, rfl⟩ := hq
    exact ⟨rfl, Lib.below_grow _ _ (Nat.le_refl _) k os⟩
  have hP : ∀ v, Calls Tryd.prog 43 #[.string ⟨(Lib.itoa n).toArray⟩, .string ⟨#[45]⟩] v fun e w' => e = .returned (.string (itd n)) ∧ w' = v := fun v => by
    have := Tryd.strings_TrimPrefix ⟨(Lib.itoa n).toArray⟩ ⟨#[45]⟩ v
    exact this
  have hle := itd_le n h0 h1
  have hF := fun v => formed_any v (decide (n < 0)) (itd n) 0 (by omega) (by omega) (by omega)
  rw [fmd_eq] at hF ⊢
  generalize fneg (decide (n < 0)) (itd n) = en at hF ⊢
  generalize fdig (itd n) = ed at hF ⊢
  generalize fexp (itd n) 0 = ee at hF ⊢
  generalize itd n = it at hP hF
  generalize (⟨(Lib.itoa n).toArray⟩ : ByteArray) = is at hI2 hP
  have HW := Lib.hid hwa
  have HB := Lib.hid hba
  have H1 := Lib.hid hst
  have HI := Lib.hid hI2
  have HP := Lib.hid hP
  have HF := Lib.hid hF
  clear hwa hst hba hI hI2 hP hF hle ht
  go_enter Tryd.func21, Tryd.ntmps21
  go_wp2_with fail
  rw [← HW.out]
  with_reducible refine HI.out.mono ?_
  rintro e w2 ⟨rfl, hb2⟩
  go_wp2_with fail
  with_reducible refine (HP.out _).mono ?_
  rintro e w3 ⟨rfl, rfl⟩
  go_wp2_with fail
  with_reducible refine (HF.out _).mono ?_
  rintro e w4 ⟨rfl, hb4⟩
  have k2 := (hb2.block _ (lt_of_block H1.out)).trans H1.out
  have k4 := (hb4.block _ (lt_of_block k2)).trans k2
  have hb5 := HB.out.trans ((hb2.trans (hb4.mono hb2.size)).mono HB.out.size)
  obtain ⟨⟨x0, x1, x2⟩, y0, y1, y2⟩ := row3 k4
  have hS := set3 (v0 := .bool en) (v1 := .string ed) (v2 := .int .i64 ee) k4 (Nat.le_refl _) hb5
  have HS := Lib.hid hS
  clear hS k2 k4 hb5 hb2 hb4 HI HP HF HW
  go_wp2_with fail
  refine bodyPost_ret (results_cell_row rfl _ _ w.heap.size _ _ _ _ rfl HS.out.1 Tryd.underlying23 rfl (by kernel_rfl)) rfl ⟨rfl, HS.out.2⟩
end Go.Proofs.YtpnhgggdjlglnaaDoor.dk
