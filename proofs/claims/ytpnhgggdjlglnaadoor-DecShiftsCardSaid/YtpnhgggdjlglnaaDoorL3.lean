/- DecShifts answers true for every number and every exponent. -/
import Derived.Test.YtpnhgggdjlglnaaDoorL2
namespace Go.Proofs.YtpnhgggdjlglnaaDoor.dk
open Go.PlainAid Go.ChangeShapes Go.WideShapes Go.ChangeAt Go.RowKit


theorem shifts_any (n : Bool) (dg : ByteArray) (ex x1 : Int) (w : World) (ht : TabB w) :
    Calls Tryd.prog 8 #[.agg #[.bool n, .string dg, .int .i64 ex], .int .i64 x1] w fun e w' => e = .returned (.bool true) ∧ Below w.heap.size w w' := by
  cases hok : dsane n (unstr dg) ex with
  | false => exact shifts_no w n dg ex x1 hok ht
  | true =>
    have hO : (⟨n, dg, ex⟩ : Nm).ok = true := hok
    have hL : -440 ≤ ex ∧ ex ≤ 400 ∧ dg.size ≤ 40 := Nm.ok_low hO
    obtain ⟨k, hk⟩ : ∃ k, IntKind.i64.wrap (bits .and .i64 x1 255 - 128) = k := ⟨_, rfl⟩
    have hk2 := hk
    rw [andm255, IntKind.wrap_i64] at hk2
    have k1 : -128 ≤ k := by omega
    have k2 : k ≤ 127 := by omega
    have hm := mulP_ten hO (k := k) (by omega) (by omega)
    have h1 := mulP_one hO
    have h0 := mulP_zero hO
    by_cases hz : dg.size = 0
    · have e := nm_zero hO hz
      injection e with e1 e2 e3
      subst e1 e2 e3
      exact shifts_zero w x1 k hk (hm.trans (told_ok zero_ok)) h1 h0 ht
    · have hs : shiftN ⟨n, dg, ex⟩ k = ⟨n, dg, ex + k⟩ := by
        show (⟨n, dg, if dg.size = 0 then ex else ex + k⟩ : Nm) = _
        rw [if_neg hz]
      rw [hs] at hm
      cases hw : dsane n (unstr dg) (ex + k) with
      | true => exact shifts_full w n dg ex x1 k hok hz hL.1 hL.2.1 hk k1 k2 (hm.trans (told_ok hw)) h1 h0 hw ht
      | false => exact shifts_far w n dg ex x1 k hok hz hL.1 hL.2.1 hk k1 k2 (hm.trans (told_no hw)) h1 h0 hw ht
end Go.Proofs.YtpnhgggdjlglnaaDoor.dk
