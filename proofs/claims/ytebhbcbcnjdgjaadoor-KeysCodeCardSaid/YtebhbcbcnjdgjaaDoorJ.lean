/- The document's examples. -/
import Derived.Test.YtebhbcbcnjdgjaaDoorI
namespace Go.Proofs.YtebhbcbcnjdgjaaDoor.dk
open Go.PlainAid Go.ChangeShapes Go.WideShapes Go.ChangeAt Go.RowKit

theorem two_rows (u : World) (x y : Obj) : ((u.alloc x).alloc y).heap[u.heap.size]? = some x ∧ ((u.alloc x).alloc y).heap[u.heap.size + 1]? = some y := by
  have hs : (u.alloc x).heap.size = u.heap.size + 1 := by simp [World.alloc, -World.alloc_eq]
  constructor
  · show ((u.heap.push x).push y)[u.heap.size]? = _
    rw [Array.getElem?_push_lt (by simp), ← Array.getElem?_eq_getElem]
    exact heap_alloc_new u x
  · rw [← hs]
    exact heap_alloc_new (u.alloc x) y
set_option maxHeartbeats 4000000 in
set_option maxRecDepth 100000 in
theorem awake_any (w : World) : Calls Tryd.prog 8 #[] w fun e w' => e = .returned (.bool true) ∧ Below w.heap.size w w' := by
  have hE : ∀ (v : World) (neg : Bool) (dg : ByteArray) (ex : Int), 0 < dg.size → dsane neg (unstr dg) ex = true → Calls Tryd.prog 10 #[.slice (some ⟨v.heap.size, 0, none⟩) 1 1] (v.alloc (.cells (npart neg dg ex) 43)) fun e w' => ∃ p2 c2, e = .returned (.tuple #[.slice p2 (nbytes neg (unstr dg) ((dg.size : Int) + ex + 1000)).length c2, .int .i64 0]) ∧ w'.ownsRow v.heap.size 5 1 (.slice p2 (nbytes neg (unstr dg) ((dg.size : Int) + ex + 1000)).length c2) (nbytes neg (unstr dg) ((dg.size : Int) + ex + 1000)).length (bcells (nbytes neg (unstr dg) ((dg.size : Int) + ex + 1000))) ∧ Below v.heap.size v w' := fun v neg dg ex h0 hs => by
    have hb : Below v.heap.size v (v.alloc (.cells (npart neg dg ex) 43)) := (Below.refl _ _).alloc (Nat.le_refl _) _
    refine (Encode_num (v.alloc (.cells (npart neg dg ex) 43)) v.heap.size 1 neg dg ex (heap_alloc_new _ _) h0 hs).mono ?_
    rintro e w' ⟨p2, c2, he, ho, hb2⟩
    exact ⟨p2, c2, he, owned_base ho hb.size, hb.trans (hb2.mono hb.size)⟩
  obtain ⟨L1, hL1⟩ : ∃ L, L = nbytes true (unstr ⟨#[49]⟩) (((⟨#[49]⟩ : ByteArray).size : Int) + 0 + 1000) := ⟨_, rfl⟩
  obtain ⟨L2, hL2⟩ : ∃ L, L = nbytes false (unstr ⟨#[53]⟩) (((⟨#[53]⟩ : ByteArray).size : Int) + (-1) + 1000) := ⟨_, rfl⟩
  have e1 : L1 = [48, 252, 22, 253, 255] := by rw [hL1]; rfl
  have e2 : L2 = [50, 3, 232, 6, 0] := by rw [hL2]; rfl
  have HE1 := Lib.hid (hE w true ⟨#[49]⟩ 0 (by decide) (by decide))
  have HE2 := Lib.hid (fun v => hE v false ⟨#[53]⟩ (-1) (by decide) (by decide))
  rw [← hL1] at HE1
  rw [← hL2] at HE2
  unfold npart at HE1 HE2
  have HI1 := Lib.hid e1
  have HI2 := Lib.hid e2
  clear hE hL1 hL2 e1 e2
  go_enter Tryd.func8, Tryd.ntmps8
  go_wp2_with fail
  with_reducible refine HE1.out.mono ?_
  clear HE1
  rintro e w1 ⟨p1, c1, rfl, ho1, hb1⟩
  have HO1 := Lib.hid ho1
  have HB1 := Lib.hid hb1
  clear ho1 hb1
  go_wp2_with fail
  with_reducible refine (HE2.out w1).mono ?_
  clear HE2
  rintro e w2 ⟨p2, c2, rfl, ho2, hb2⟩
  have ho12 := owned_keeps HO1.out fun g hg => hb2.block g (HO1.out.lt g hg).2
  have HBy := Lib.hid (Bytes_lt w2 p1 L1.length c1 L1 p2 L2.length c2 L2 (owned_rd ho12) (owned_rd ho2) (by rw [HI1.out]; intro x hx; simp at hx; omega) (by rw [HI2.out]; intro x hx; simp at hx; omega) (by rw [HI1.out]; decide) 0 (by rw [HI1.out]; decide) (by rw [HI2.out]; decide) (fun i hi => absurd hi (by omega)) (by rw [HI1.out, HI2.out]; decide))
  have HB2 := Lib.hid (HB1.out.trans (hb2.mono HB1.out.size))
  clear ho2 hb2 ho12 HO1 HB1 HI1 HI2
  go_wp2_with (go_at_call 21; with_reducible refine HBy.out.mono ?_; rintro e w' ⟨rfl, y, rfl⟩)
  obtain ⟨r1, r2⟩ := two_rows (w2.drewN y) (.cells (kpart 0) 43) (.cells (kpart 1) 43)
  have hus : (w2.drewN y).heap.size = w2.heap.size := rfl
  rw [hus] at r1 r2
  have hb3 : Below w2.heap.size w2 (((w2.drewN y).alloc (.cells (kpart 0) 43)).alloc (.cells (kpart 1) 43)) := ((below_drewN (Below.refl _ _) _).alloc (Nat.le_refl _) _).alloc (by simp [World.alloc, -World.alloc_eq]) _
  have HOr := Lib.hid (Order_kinds _ _ _ 1 1 0 1 (by decide) r1 r2)
  have HB3 := Lib.hid (HB2.out.trans (hb3.mono HB2.out.size))
  unfold kpart at HOr HB3
  clear r1 r2 hus hb3 HBy HB2
  with_reducible refine HOr.out.mono ?_
  clear HOr
  rintro e w4 ⟨rfl, hb4⟩
  have HB4 := Lib.hid (HB3.out.trans (hb4.mono HB3.out.size))
  have hrowA : RowB w4.heap.size [1, 255] (w4.alloc (.cells #[.int .u8 1, .int .u8 255] 5)) := heap_alloc_new _ _
  have hbA : Below w4.heap.size w4 (w4.alloc (.cells #[.int .u8 1, .int .u8 255] 5)) := (Below.refl _ _).alloc (Nat.le_refl _) _
  have HAf := Lib.hid (After_some _ w4.heap.size 0 2 2 [1, 255] (hrowA.rd rfl) (by intro x hx; simp at hx; omega) (by decide) (by decide) (by decide))
  have HB5 := Lib.hid (HB4.out.trans (hbA.mono HB4.out.size))
  have hlA : (aft [1, 255]).length = 1 := by decide
  clear hb4 hrowA hbA HB3 HB4
  go_wp2_with fail
  with_reducible refine HAf.out.mono ?_
  clear HAf
  rintro e w6 ⟨p6, c6, rfl, _, hb6⟩
  rw [hlA]
  have HB6 := Lib.hid (HB5.out.trans (hb6.mono HB5.out.size))
  clear hb6 HB5
  go_wp2_with fail
  go_ret
  exact ⟨rfl, HB6.out⟩
end Go.Proofs.YtebhbcbcnjdgjaaDoor.dk
