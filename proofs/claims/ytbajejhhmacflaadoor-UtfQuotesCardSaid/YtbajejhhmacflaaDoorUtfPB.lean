/- Put behind any bytes: the walks. -/
import Derived.Test.YtbajejhhmacflaaDoorUtfPA
namespace Go.Proofs.YtbajejhhmacflaaDoor.utf
open Go.PlainAid Go.ChangeShapes Go.WideShapes Go.ChangeAt Go.RowKit

set_option maxHeartbeats 4000000 in
theorem PutB_1 (p : Option Addr) (n c : Nat) (l : List Int) (r : Int) (w : World) (hB : Bs w (.slice p n c) l) (hl : l.length = n) (hn : n ≤ 140737488351232) (h0 : 0 ≤ r) (h1 : r < 128) :
    Calls Tryd.prog 22 #[.slice p n c, .int .i32 r] w fun e w' => e = .returned (.slice (some ⟨w.heap.size, 0, none⟩) (n + 1) (n + 1)) ∧ Below w.heap.size w w' ∧ Bs w' (.slice (some ⟨w.heap.size, 0, none⟩) (n + 1) (n + 1)) (l ++ enc r) := by
  obtain ⟨W0, W1, hmk, hcp, hb, hsz, hrow⟩ := put_frame w p n c 1 l ((n : Int) + 1) (by omega) hB hl hn (by omega)
  have c0 : W1.cell? ⟨w.heap.size, n, none⟩ = some (.int .u8 0) := by have := hrow.cell 0; rw [hl] at this; exact this
  have f0 : W1.frozen? ⟨w.heap.size, n, none⟩ = false := hrow.frozen (n)
  have e1 : IntKind.i64.wrap ((n : Int) + 1) = (n : Int) + 1 := IntWalk.i64_in _ (by omega)
  have HRow := Lib.hid hrow
  have HB1 := Lib.hid hb
  clear hrow hB hb
  go_enter Tryd.func22, Tryd.ntmps22
  go_wp2
  go_ret
  refine ⟨rfl, ((HRow.out).below n _ HB1.out (Nat.le_refl _)), ?_⟩
  have hel : (enc r).length = 1 := by
    unfold enc
    rw [if_pos (show r < 128 by omega)]; rfl
  refine RowAt.bs (RowAt.of (RowAt.store' hl HRow.out 0 _) ?_) (by omega) (by simpa using hsz) _ (by rw [List.length_append, hl, hel])
  unfold enc
  rw [if_pos (show r < 128 by omega)]
  rfl

set_option maxHeartbeats 4000000 in
theorem PutB_2 (p : Option Addr) (n c : Nat) (l : List Int) (r : Int) (w : World) (hB : Bs w (.slice p n c) l) (hl : l.length = n) (hn : n ≤ 140737488351232) (h0 : 128 ≤ r) (h1 : r < 2048) :
    Calls Tryd.prog 22 #[.slice p n c, .int .i32 r] w fun e w' => e = .returned (.slice (some ⟨w.heap.size, 0, none⟩) (n + 2) (n + 2)) ∧ Below w.heap.size w w' ∧ Bs w' (.slice (some ⟨w.heap.size, 0, none⟩) (n + 2) (n + 2)) (l ++ enc r) := by
  obtain ⟨W0, W1, hmk, hcp, hb, hsz, hrow⟩ := put_frame w p n c 2 l ((n : Int) + 2) (by omega) hB hl hn (by omega)
  have c0 : W1.cell? ⟨w.heap.size, n, none⟩ = some (.int .u8 0) := by have := hrow.cell 0; rw [hl] at this; exact this
  have f0 : W1.frozen? ⟨w.heap.size, n, none⟩ = false := hrow.frozen (n)
  have c1 : W1.cell? ⟨w.heap.size, n + 1, none⟩ = some (.int .u8 0) := by have := hrow.cell 1; rw [hl] at this; exact this
  have f1 : W1.frozen? ⟨w.heap.size, n + 1, none⟩ = false := hrow.frozen (n + 1)
  have e1 : IntKind.i64.wrap ((n : Int) + 1) = (n : Int) + 1 := IntWalk.i64_in _ (by omega)
  have e2 : IntKind.i64.wrap ((n : Int) + 2) = (n : Int) + 2 := IntWalk.i64_in _ (by omega)
  have HRow := Lib.hid hrow
  have HB1 := Lib.hid hb
  clear hrow hB hb
  go_enter Tryd.func22, Tryd.ntmps22
  go_wp2
  go_rounds 2
  go_ret
  refine ⟨rfl, (((RowAt.store' hl HRow.out 1 _)).below n _ ((HRow.out).below (n + 1) _ HB1.out (Nat.le_refl _)) (Nat.le_refl _)), ?_⟩
  have hel : (enc r).length = 2 := by
    unfold enc
    rw [if_neg (show ¬ r < 128 by omega), if_pos (show r < 2048 by omega)]; rfl
  refine RowAt.bs (RowAt.of (RowAt.store' hl (RowAt.store' hl HRow.out 1 _) 0 _) ?_) (by omega) (by simpa using hsz) _ (by rw [List.length_append, hl, hel])
  unfold enc
  rw [if_neg (show ¬ r < 128 by omega), if_pos (show r < 2048 by omega)]
  rw [tail_byte r (by omega) (by omega)]
  rfl

set_option maxHeartbeats 4000000 in
theorem PutB_3lo (p : Option Addr) (n c : Nat) (l : List Int) (r : Int) (w : World) (hB : Bs w (.slice p n c) l) (hl : l.length = n) (hn : n ≤ 140737488351232) (h0 : 2048 ≤ r) (hv : r < 55296) :
    Calls Tryd.prog 22 #[.slice p n c, .int .i32 r] w fun e w' => e = .returned (.slice (some ⟨w.heap.size, 0, none⟩) (n + 3) (n + 3)) ∧ Below w.heap.size w w' ∧ Bs w' (.slice (some ⟨w.heap.size, 0, none⟩) (n + 3) (n + 3)) (l ++ enc r) := by
  obtain ⟨W0, W1, hmk, hcp, hb, hsz, hrow⟩ := put_frame w p n c 3 l ((n : Int) + 3) (by omega) hB hl hn (by omega)
  have c0 : W1.cell? ⟨w.heap.size, n, none⟩ = some (.int .u8 0) := by have := hrow.cell 0; rw [hl] at this; exact this
  have f0 : W1.frozen? ⟨w.heap.size, n, none⟩ = false := hrow.frozen (n)
  have c1 : W1.cell? ⟨w.heap.size, n + 1, none⟩ = some (.int .u8 0) := by have := hrow.cell 1; rw [hl] at this; exact this
  have f1 : W1.frozen? ⟨w.heap.size, n + 1, none⟩ = false := hrow.frozen (n + 1)
  have c2 : W1.cell? ⟨w.heap.size, n + 2, none⟩ = some (.int .u8 0) := by have := hrow.cell 2; rw [hl] at this; exact this
  have f2 : W1.frozen? ⟨w.heap.size, n + 2, none⟩ = false := hrow.frozen (n + 2)
  have e1 : IntKind.i64.wrap ((n : Int) + 1) = (n : Int) + 1 := IntWalk.i64_in _ (by omega)
  have e2 : IntKind.i64.wrap ((n : Int) + 2) = (n : Int) + 2 := IntWalk.i64_in _ (by omega)
  have e3 : IntKind.i64.wrap ((n : Int) + 3) = (n : Int) + 3 := IntWalk.i64_in _ (by omega)
  have HRow := Lib.hid hrow
  have HB1 := Lib.hid hb
  clear hrow hB hb
  go_enter Tryd.func22, Tryd.ntmps22
  go_wp2
  go_rounds 3
  go_ret
  refine ⟨rfl, (((RowAt.store' hl (RowAt.store' hl HRow.out 2 _) 1 _)).below n _ (((RowAt.store' hl HRow.out 2 _)).below (n + 1) _ ((HRow.out).below (n + 2) _ HB1.out (Nat.le_refl _)) (Nat.le_refl _)) (Nat.le_refl _)), ?_⟩
  have hel : (enc r).length = 3 := by
    unfold enc
    rw [if_neg (show ¬ r < 128 by omega), if_neg (show ¬ r < 2048 by omega), if_pos (show r < 65536 by omega)]; rfl
  refine RowAt.bs (RowAt.of (RowAt.store' hl (RowAt.store' hl (RowAt.store' hl HRow.out 2 _) 1 _) 0 _) ?_) (by omega) (by simpa using hsz) _ (by rw [List.length_append, hl, hel])
  unfold enc
  rw [if_neg (show ¬ r < 128 by omega), if_neg (show ¬ r < 2048 by omega), if_pos (show r < 65536 by omega)]
  rw [tail_byte (r / 64) (by omega) (by omega), tail_byte r (by omega) (by omega), show r / 64 / 64 = r / 4096 by omega]
  rfl

set_option maxHeartbeats 4000000 in
theorem PutB_3hi (p : Option Addr) (n c : Nat) (l : List Int) (r : Int) (w : World) (hB : Bs w (.slice p n c) l) (hl : l.length = n) (hn : n ≤ 140737488351232) (hv : 57343 < r) (h1 : r < 65536) :
    Calls Tryd.prog 22 #[.slice p n c, .int .i32 r] w fun e w' => e = .returned (.slice (some ⟨w.heap.size, 0, none⟩) (n + 3) (n + 3)) ∧ Below w.heap.size w w' ∧ Bs w' (.slice (some ⟨w.heap.size, 0, none⟩) (n + 3) (n + 3)) (l ++ enc r) := by
  obtain ⟨W0, W1, hmk, hcp, hb, hsz, hrow⟩ := put_frame w p n c 3 l ((n : Int) + 3) (by omega) hB hl hn (by omega)
  have c0 : W1.cell? ⟨w.heap.size, n, none⟩ = some (.int .u8 0) := by have := hrow.cell 0; rw [hl] at this; exact this
  have f0 : W1.frozen? ⟨w.heap.size, n, none⟩ = false := hrow.frozen (n)
  have c1 : W1.cell? ⟨w.heap.size, n + 1, none⟩ = some (.int .u8 0) := by have := hrow.cell 1; rw [hl] at this; exact this
  have f1 : W1.frozen? ⟨w.heap.size, n + 1, none⟩ = false := hrow.frozen (n + 1)
  have c2 : W1.cell? ⟨w.heap.size, n + 2, none⟩ = some (.int .u8 0) := by have := hrow.cell 2; rw [hl] at this; exact this
  have f2 : W1.frozen? ⟨w.heap.size, n + 2, none⟩ = false := hrow.frozen (n + 2)
  have e1 : IntKind.i64.wrap ((n : Int) + 1) = (n : Int) + 1 := IntWalk.i64_in _ (by omega)
  have e2 : IntKind.i64.wrap ((n : Int) + 2) = (n : Int) + 2 := IntWalk.i64_in _ (by omega)
  have e3 : IntKind.i64.wrap ((n : Int) + 3) = (n : Int) + 3 := IntWalk.i64_in _ (by omega)
  have d1 : decide (r < 55296) = false := decide_eq_false (by omega)
  have d2 : decide (57343 < r) = true := decide_eq_true (by omega)
  have HRow := Lib.hid hrow
  have HB1 := Lib.hid hb
  clear hrow hB hb
  go_enter Tryd.func22, Tryd.ntmps22
  go_wp2
  go_rounds 3
  go_ret
  refine ⟨rfl, (((RowAt.store' hl (RowAt.store' hl HRow.out 2 _) 1 _)).below n _ (((RowAt.store' hl HRow.out 2 _)).below (n + 1) _ ((HRow.out).below (n + 2) _ HB1.out (Nat.le_refl _)) (Nat.le_refl _)) (Nat.le_refl _)), ?_⟩
  have hel : (enc r).length = 3 := by
    unfold enc
    rw [if_neg (show ¬ r < 128 by omega), if_neg (show ¬ r < 2048 by omega), if_pos (show r < 65536 by omega)]; rfl
  refine RowAt.bs (RowAt.of (RowAt.store' hl (RowAt.store' hl (RowAt.store' hl HRow.out 2 _) 1 _) 0 _) ?_) (by omega) (by simpa using hsz) _ (by rw [List.length_append, hl, hel])
  unfold enc
  rw [if_neg (show ¬ r < 128 by omega), if_neg (show ¬ r < 2048 by omega), if_pos (show r < 65536 by omega)]
  rw [tail_byte (r / 64) (by omega) (by omega), tail_byte r (by omega) (by omega), show r / 64 / 64 = r / 4096 by omega]
  rfl

set_option maxHeartbeats 4000000 in
theorem PutB_4 (p : Option Addr) (n c : Nat) (l : List Int) (r : Int) (w : World) (hB : Bs w (.slice p n c) l) (hl : l.length = n) (hn : n ≤ 140737488351232) (h0 : 65536 ≤ r) (h1 : r ≤ 1114111) :
    Calls Tryd.prog 22 #[.slice p n c, .int .i32 r] w fun e w' => e = .returned (.slice (some ⟨w.heap.size, 0, none⟩) (n + 4) (n + 4)) ∧ Below w.heap.size w w' ∧ Bs w' (.slice (some ⟨w.heap.size, 0, none⟩) (n + 4) (n + 4)) (l ++ enc r) := by
  obtain ⟨W0, W1, hmk, hcp, hb, hsz, hrow⟩ := put_frame w p n c 4 l ((n : Int) + 4) (by omega) hB hl hn (by omega)
  have c0 : W1.cell? ⟨w.heap.size, n, none⟩ = some (.int .u8 0) := by have := hrow.cell 0; rw [hl] at this; exact this
  have f0 : W1.frozen? ⟨w.heap.size, n, none⟩ = false := hrow.frozen (n)
  have c1 : W1.cell? ⟨w.heap.size, n + 1, none⟩ = some (.int .u8 0) := by have := hrow.cell 1; rw [hl] at this; exact this
  have f1 : W1.frozen? ⟨w.heap.size, n + 1, none⟩ = false := hrow.frozen (n + 1)
  have c2 : W1.cell? ⟨w.heap.size, n + 2, none⟩ = some (.int .u8 0) := by have := hrow.cell 2; rw [hl] at this; exact this
  have f2 : W1.frozen? ⟨w.heap.size, n + 2, none⟩ = false := hrow.frozen (n + 2)
  have c3 : W1.cell? ⟨w.heap.size, n + 3, none⟩ = some (.int .u8 0) := by have := hrow.cell 3; rw [hl] at this; exact this
  have f3 : W1.frozen? ⟨w.heap.size, n + 3, none⟩ = false := hrow.frozen (n + 3)
  have e1 : IntKind.i64.wrap ((n : Int) + 1) = (n : Int) + 1 := IntWalk.i64_in _ (by omega)
  have e2 : IntKind.i64.wrap ((n : Int) + 2) = (n : Int) + 2 := IntWalk.i64_in _ (by omega)
  have e3 : IntKind.i64.wrap ((n : Int) + 3) = (n : Int) + 3 := IntWalk.i64_in _ (by omega)
  have e4 : IntKind.i64.wrap ((n : Int) + 4) = (n : Int) + 4 := IntWalk.i64_in _ (by omega)
  have d1 : decide (r < 55296) = false := decide_eq_false (by omega)
  have d2 : decide (57343 < r) = true := decide_eq_true (by omega)
  have HRow := Lib.hid hrow
  have HB1 := Lib.hid hb
  clear hrow hB hb
  go_enter Tryd.func22, Tryd.ntmps22
  go_wp2
  go_rounds 4
  go_ret
  refine ⟨rfl, (((RowAt.store' hl (RowAt.store' hl (RowAt.store' hl HRow.out 3 _) 2 _) 1 _)).below n _ (((RowAt.store' hl (RowAt.store' hl HRow.out 3 _) 2 _)).below (n + 1) _ (((RowAt.store' hl HRow.out 3 _)).below (n + 2) _ ((HRow.out).below (n + 3) _ HB1.out (Nat.le_refl _)) (Nat.le_refl _)) (Nat.le_refl _)) (Nat.le_refl _)), ?_⟩
  have hel : (enc r).length = 4 := by
    unfold enc
    rw [if_neg (show ¬ r < 128 by omega), if_neg (show ¬ r < 2048 by omega), if_neg (show ¬ r < 65536 by omega), if_pos (show r < 1114112 by omega)]; rfl
  refine RowAt.bs (RowAt.of (RowAt.store' hl (RowAt.store' hl (RowAt.store' hl (RowAt.store' hl HRow.out 3 _) 2 _) 1 _) 0 _) ?_) (by omega) (by simpa using hsz) _ (by rw [List.length_append, hl, hel])
  unfold enc
  rw [if_neg (show ¬ r < 128 by omega), if_neg (show ¬ r < 2048 by omega), if_neg (show ¬ r < 65536 by omega), if_pos (show r < 1114112 by omega)]
  rw [tail_byte (r / 64 / 64) (by omega) (by omega), tail_byte (r / 64) (by omega) (by omega), tail_byte r (by omega) (by omega), show r / 64 / 64 / 64 = r / 262144 by omega, show r / 64 / 64 = r / 4096 by omega]
  rfl

set_option maxHeartbeats 4000000 in
theorem PutB_neg (p : Option Addr) (n c : Nat) (l : List Int) (r : Int) (w : World) (hB : Bs w (.slice p n c) l) (hl : l.length = n) (hn : n ≤ 140737488351232) (h0 : r < 0) :
    Calls Tryd.prog 22 #[.slice p n c, .int .i32 r] w fun e w' => e = .returned (.slice (some ⟨w.heap.size, 0, none⟩) (n + 3) (n + 3)) ∧ Below w.heap.size w w' ∧ Bs w' (.slice (some ⟨w.heap.size, 0, none⟩) (n + 3) (n + 3)) (l ++ enc 65533) := by
  obtain ⟨W0, W1, hmk, hcp, hb, hsz, hrow⟩ := put_frame w p n c 3 l ((n : Int) + 3) (by omega) hB hl hn (by omega)
  have c0 : W1.cell? ⟨w.heap.size, n, none⟩ = some (.int .u8 0) := by have := hrow.cell 0; rw [hl] at this; exact this
  have f0 : W1.frozen? ⟨w.heap.size, n, none⟩ = false := hrow.frozen (n)
  have c1 : W1.cell? ⟨w.heap.size, n + 1, none⟩ = some (.int .u8 0) := by have := hrow.cell 1; rw [hl] at this; exact this
  have f1 : W1.frozen? ⟨w.heap.size, n + 1, none⟩ = false := hrow.frozen (n + 1)
  have c2 : W1.cell? ⟨w.heap.size, n + 2, none⟩ = some (.int .u8 0) := by have := hrow.cell 2; rw [hl] at this; exact this
  have f2 : W1.frozen? ⟨w.heap.size, n + 2, none⟩ = false := hrow.frozen (n + 2)
  have e1 : IntKind.i64.wrap ((n : Int) + 1) = (n : Int) + 1 := IntWalk.i64_in _ (by omega)
  have e2 : IntKind.i64.wrap ((n : Int) + 2) = (n : Int) + 2 := IntWalk.i64_in _ (by omega)
  have e3 : IntKind.i64.wrap ((n : Int) + 3) = (n : Int) + 3 := IntWalk.i64_in _ (by omega)
  have HRow := Lib.hid hrow
  have HB1 := Lib.hid hb
  clear hrow hB hb
  go_enter Tryd.func22, Tryd.ntmps22
  go_wp2
  go_rounds 3
  go_ret
  refine ⟨rfl, (((RowAt.store' hl (RowAt.store' hl HRow.out 2 _) 1 _)).below n _ (((RowAt.store' hl HRow.out 2 _)).below (n + 1) _ ((HRow.out).below (n + 2) _ HB1.out (Nat.le_refl _)) (Nat.le_refl _)) (Nat.le_refl _)), ?_⟩
  have hel : (enc 65533).length = 3 := by
    unfold enc
    rfl
  refine RowAt.bs (RowAt.of (RowAt.store' hl (RowAt.store' hl (RowAt.store' hl HRow.out 2 _) 1 _) 0 _) ?_) (by omega) (by simpa using hsz) _ (by rw [List.length_append, hl, hel])
  unfold enc
  rfl

set_option maxHeartbeats 4000000 in
theorem PutB_great (p : Option Addr) (n c : Nat) (l : List Int) (r : Int) (w : World) (hB : Bs w (.slice p n c) l) (hl : l.length = n) (hn : n ≤ 140737488351232) (h0 : 1114111 < r) :
    Calls Tryd.prog 22 #[.slice p n c, .int .i32 r] w fun e w' => e = .returned (.slice (some ⟨w.heap.size, 0, none⟩) (n + 3) (n + 3)) ∧ Below w.heap.size w w' ∧ Bs w' (.slice (some ⟨w.heap.size, 0, none⟩) (n + 3) (n + 3)) (l ++ enc 65533) := by
  obtain ⟨W0, W1, hmk, hcp, hb, hsz, hrow⟩ := put_frame w p n c 3 l ((n : Int) + 3) (by omega) hB hl hn (by omega)
  have c0 : W1.cell? ⟨w.heap.size, n, none⟩ = some (.int .u8 0) := by have := hrow.cell 0; rw [hl] at this; exact this
  have f0 : W1.frozen? ⟨w.heap.size, n, none⟩ = false := hrow.frozen (n)
  have c1 : W1.cell? ⟨w.heap.size, n + 1, none⟩ = some (.int .u8 0) := by have := hrow.cell 1; rw [hl] at this; exact this
  have f1 : W1.frozen? ⟨w.heap.size, n + 1, none⟩ = false := hrow.frozen (n + 1)
  have c2 : W1.cell? ⟨w.heap.size, n + 2, none⟩ = some (.int .u8 0) := by have := hrow.cell 2; rw [hl] at this; exact this
  have f2 : W1.frozen? ⟨w.heap.size, n + 2, none⟩ = false := hrow.frozen (n + 2)
  have e1 : IntKind.i64.wrap ((n : Int) + 1) = (n : Int) + 1 := IntWalk.i64_in _ (by omega)
  have e2 : IntKind.i64.wrap ((n : Int) + 2) = (n : Int) + 2 := IntWalk.i64_in _ (by omega)
  have e3 : IntKind.i64.wrap ((n : Int) + 3) = (n : Int) + 3 := IntWalk.i64_in _ (by omega)
  have HRow := Lib.hid hrow
  have HB1 := Lib.hid hb
  clear hrow hB hb
  go_enter Tryd.func22, Tryd.ntmps22
  go_wp2
  go_rounds 3
  go_ret
  refine ⟨rfl, (((RowAt.store' hl (RowAt.store' hl HRow.out 2 _) 1 _)).below n _ (((RowAt.store' hl HRow.out 2 _)).below (n + 1) _ ((HRow.out).below (n + 2) _ HB1.out (Nat.le_refl _)) (Nat.le_refl _)) (Nat.le_refl _)), ?_⟩
  have hel : (enc 65533).length = 3 := by
    unfold enc
    rfl
  refine RowAt.bs (RowAt.of (RowAt.store' hl (RowAt.store' hl (RowAt.store' hl HRow.out 2 _) 1 _) 0 _) ?_) (by omega) (by simpa using hsz) _ (by rw [List.length_append, hl, hel])
  unfold enc
  rfl

set_option maxHeartbeats 4000000 in
theorem PutB_half (p : Option Addr) (n c : Nat) (l : List Int) (r : Int) (w : World) (hB : Bs w (.slice p n c) l) (hl : l.length = n) (hn : n ≤ 140737488351232) (h0 : 55296 ≤ r) (h1 : r ≤ 57343) :
    Calls Tryd.prog 22 #[.slice p n c, .int .i32 r] w fun e w' => e = .returned (.slice (some ⟨w.heap.size, 0, none⟩) (n + 3) (n + 3)) ∧ Below w.heap.size w w' ∧ Bs w' (.slice (some ⟨w.heap.size, 0, none⟩) (n + 3) (n + 3)) (l ++ enc 65533) := by
  obtain ⟨W0, W1, hmk, hcp, hb, hsz, hrow⟩ := put_frame w p n c 3 l ((n : Int) + 3) (by omega) hB hl hn (by omega)
  have c0 : W1.cell? ⟨w.heap.size, n, none⟩ = some (.int .u8 0) := by have := hrow.cell 0; rw [hl] at this; exact this
  have f0 : W1.frozen? ⟨w.heap.size, n, none⟩ = false := hrow.frozen (n)
  have c1 : W1.cell? ⟨w.heap.size, n + 1, none⟩ = some (.int .u8 0) := by have := hrow.cell 1; rw [hl] at this; exact this
  have f1 : W1.frozen? ⟨w.heap.size, n + 1, none⟩ = false := hrow.frozen (n + 1)
  have c2 : W1.cell? ⟨w.heap.size, n + 2, none⟩ = some (.int .u8 0) := by have := hrow.cell 2; rw [hl] at this; exact this
  have f2 : W1.frozen? ⟨w.heap.size, n + 2, none⟩ = false := hrow.frozen (n + 2)
  have e1 : IntKind.i64.wrap ((n : Int) + 1) = (n : Int) + 1 := IntWalk.i64_in _ (by omega)
  have e2 : IntKind.i64.wrap ((n : Int) + 2) = (n : Int) + 2 := IntWalk.i64_in _ (by omega)
  have e3 : IntKind.i64.wrap ((n : Int) + 3) = (n : Int) + 3 := IntWalk.i64_in _ (by omega)
  have d1 : decide (r < 55296) = false := decide_eq_false (by omega)
  have d2 : decide (57343 < r) = false := decide_eq_false (by omega)
  have HRow := Lib.hid hrow
  have HB1 := Lib.hid hb
  clear hrow hB hb
  go_enter Tryd.func22, Tryd.ntmps22
  go_wp2
  go_rounds 3
  go_ret
  refine ⟨rfl, (((RowAt.store' hl (RowAt.store' hl HRow.out 2 _) 1 _)).below n _ (((RowAt.store' hl HRow.out 2 _)).below (n + 1) _ ((HRow.out).below (n + 2) _ HB1.out (Nat.le_refl _)) (Nat.le_refl _)) (Nat.le_refl _)), ?_⟩
  have hel : (enc 65533).length = 3 := by
    unfold enc
    rfl
  refine RowAt.bs (RowAt.of (RowAt.store' hl (RowAt.store' hl (RowAt.store' hl HRow.out 2 _) 1 _) 0 _) ?_) (by omega) (by simpa using hsz) _ (by rw [List.length_append, hl, hel])
  unfold enc
  rfl

/-- Put(b, r): new memory that holds b's bytes and the character's. -/
theorem Put_any (p : Option Addr) (n c : Nat) (l : List Int) (r : Int) (w : World) (hB : Bs w (.slice p n c) l) (hl : l.length = n) (hn : n ≤ 140737488351232) :
    Calls Tryd.prog 22 #[.slice p n c, .int .i32 r] w fun e w' => e = .returned (.slice (some ⟨w.heap.size, 0, none⟩) (n + (enc (fixed r)).length) (n + (enc (fixed r)).length)) ∧ Below w.heap.size w w' ∧ Bs w' (.slice (some ⟨w.heap.size, 0, none⟩) (n + (enc (fixed r)).length) (n + (enc (fixed r)).length)) (l ++ enc (fixed r)) := by
  have l1 : ∀ x : Int, x < 128 → (enc x).length = 1 := fun x h => by unfold enc; rw [if_pos h]; rfl
  have l2 : ∀ x : Int, ¬ x < 128 → x < 2048 → (enc x).length = 2 := fun x h k => by unfold enc; rw [if_neg h, if_pos k]; rfl
  have l3 : ∀ x : Int, ¬ x < 2048 → x < 65536 → (enc x).length = 3 := fun x h k => by unfold enc; rw [if_neg (show ¬ x < 128 by omega), if_neg h, if_pos k]; rfl
  have l4 : ∀ x : Int, ¬ x < 65536 → x < 1114112 → (enc x).length = 4 := fun x h k => by unfold enc; rw [if_neg (show ¬ x < 128 by omega), if_neg (show ¬ x < 2048 by omega), if_neg h, if_pos k]; rfl
  by_cases hg : 0 ≤ r ∧ (r < 55296 ∨ 57343 < r) ∧ r ≤ 1114111
  · have e : fixed r = r := if_pos hg
    rw [e]
    by_cases h1 : r < 128
    · rw [l1 r h1]; exact PutB_1 p n c l r w hB hl hn hg.1 h1
    by_cases h2 : r < 2048
    · rw [l2 r h1 h2]; exact PutB_2 p n c l r w hB hl hn (by omega) h2
    by_cases h3 : r < 65536
    · rw [l3 r h2 h3]
      by_cases h4 : r < 55296
      · exact PutB_3lo p n c l r w hB hl hn (by omega) h4
      · exact PutB_3hi p n c l r w hB hl hn (by omega) h3
    · rw [l4 r h3 (by omega)]; exact PutB_4 p n c l r w hB hl hn (by omega) hg.2.2
  · have e : fixed r = 65533 := if_neg hg
    rw [e]
    show Calls Tryd.prog 22 #[.slice p n c, .int .i32 r] w fun e w' => e = .returned (.slice (some ⟨w.heap.size, 0, none⟩) (n + 3) (n + 3)) ∧ Below w.heap.size w w' ∧ Bs w' (.slice (some ⟨w.heap.size, 0, none⟩) (n + 3) (n + 3)) (l ++ enc 65533)
    by_cases h0 : r < 0
    · exact PutB_neg p n c l r w hB hl hn h0
    by_cases h1 : 1114111 < r
    · exact PutB_great p n c l r w hB hl hn h1
    · exact PutB_half p n c l r w hB hl hn (by omega) (by omega)
end Go.Proofs.YtbajejhhmacflaaDoor.utf
