/- Print of what may not be, and of 0. -/
import Derived.Test.YtpnhgggdjlglnaaDoorP
namespace Go.Proofs.YtpnhgggdjlglnaaDoor.dk
open Go.PlainAid Go.ChangeShapes Go.WideShapes Go.ChangeAt Go.RowKit
set_option maxRecDepth 100000 in
set_option maxHeartbeats 1000000 in
theorem Print_zero (w : World) (neg : Bool) (dg : ByteArray) (ex : Int) (hs : dg.size ≤ 1000000) (hn : dsane neg (unstr dg) ex = false ∨ dg.size = 0) :
    Calls Tryd.prog 18 #[.agg #[.bool neg, .string dg, .int .i64 ex]] w fun e w' => e = .returned (.string (if dsane neg (unstr dg) ex = true then ⟨#[48]⟩ else ⟨#[]⟩)) ∧ Below w.heap.size w w' := by
  have hb : Below w.heap.size w (w.alloc (.cells #[.bool neg, .string dg, .int .i64 ex] 23)) := (Below.refl _ _).alloc (Nat.le_refl _) _
  have h1 : (w.alloc (.cells #[.bool neg, .string dg, .int .i64 ex] 23)).heap[w.heap.size]? = some (.cells #[.bool neg, .string dg, .int .i64 ex] 23 (0, 0)) := heap_alloc_new _ _
  have HB := Lib.hid hb
  have H1 := Lib.hid h1
  have HS := Lib.hid (fun (v : World) => Sane_any v neg dg ex (by omega))
  clear hb h1
  generalize dsane neg (unstr dg) ex = ok at HS hn ⊢
  have HQ := Lib.hid hn
  clear hn
  go_enter Tryd.func18, Tryd.ntmps18
  go_wp2_with fail
  with_reducible refine (HS.out _).mono ?_
  rintro e w2 ⟨rfl, hb2⟩
  have k1 := (hb2.block _ (lt_of_block H1.out)).trans H1.out
  obtain ⟨⟨x0, x1, x2⟩, _⟩ := row3 k1
  have HB2 := Lib.hid (HB.out.trans (hb2.mono HB.out.size))
  clear k1 hb2 HS HB
  cases ok with
  | false =>
    go_wp2_with fail
    go_ret
    exact ⟨rfl, HB2.out⟩
  | true =>
    rcases HQ.out with h | h
    · cases h
    obtain rfl := ba_nil h
    go_wp2_with fail
    go_ret
    exact ⟨rfl, HB2.out⟩
end Go.Proofs.YtpnhgggdjlglnaaDoor.dk
