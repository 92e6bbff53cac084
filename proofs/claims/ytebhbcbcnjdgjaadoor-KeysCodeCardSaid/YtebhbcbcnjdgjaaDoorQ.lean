/- The bytes of any part. -/
import Derived.Test.YtebhbcbcnjdgjaaDoorP
namespace Go.Proofs.YtebhbcbcnjdgjaaDoor.dk
open Go.PlainAid Go.ChangeShapes Go.WideShapes Go.ChangeAt Go.RowKit

set_option maxHeartbeats 4000000 in
set_option maxRecDepth 100000 in
theorem laidNumber_zero (w : World) (B m c : Nat) (p : Option Addr) (b : List Int) (neg : Bool) (ex : Int) (hown : w.ownsRow B 5 1 (.slice p m c) m (bcells b)) (hm : b.length = m) (hm2 : b.length ≤ 100000) (hB : B ≤ w.heap.size) :
    Calls Tryd.prog 34 #[.slice p m c, .agg #[.bool neg, .string ⟨#[]⟩, .int .i64 ex]] w (OPost B w (b ++ [49])) := by
  subst hm
  have hb : Below w.heap.size w (w.alloc (.cells #[.bool neg, .string ⟨#[]⟩, .int .i64 ex] 25)) := (Below.refl _ _).alloc (Nat.le_refl _) _
  have ho : (w.alloc (.cells #[.bool neg, .string ⟨#[]⟩, .int .i64 ex] 25)).ownsRow B 5 1 (.slice p b.length c) b.length (bcells b) := owned_keeps hown fun k hk => hb.block k (hown.lt k hk).2
  obtain ⟨p3, c3, w3, hru, hgr⟩ := append_one 49 ho (by omega) (Nat.le_trans hB hb.size)
  have hFin : Hid (OPost B w (b ++ [49]) (.returned (.slice p3 (b ++ [49]).length c3)) w3) := ⟨p3, c3, rfl, hgr.own, (hb.mono hB).trans hgr.b⟩
  rw [box_size] at hru
  have HRu := Lib.hid hru
  clear hown hB ho hb hru hgr
  generalize b ++ [49] = L at HRu hFin ⊢
  generalize L.length = n3 at HRu hFin
  go_enter Tryd.func34, Tryd.ntmps34
  go_wp2_with (at_builtin; refine wpList_append_run rfl _ _ _ rfl _ _ _ _ rfl rfl HRu.out ?_; clear HRu)
  go_ret
  exact hFin.out
set_option maxHeartbeats 4000000 in
set_option maxRecDepth 100000 in
theorem laid_zero (w : World) (B m c : Nat) (p : Option Addr) (b : List Int) (neg : Bool) (ex : Int) (hown : w.ownsRow B 5 1 (.slice p m c) m (bcells b)) (hm : b.length = m) (hm2 : b.length ≤ 100000) (hB : B ≤ w.heap.size) :
    Calls Tryd.prog 24 #[.slice p m c, .agg (npart neg ⟨#[]⟩ ex)] w (OPost B w (b ++ [49])) := by
  have hb : Below w.heap.size w (w.alloc (.cells (npart neg ⟨#[]⟩ ex) 43)) := (Below.refl _ _).alloc (Nat.le_refl _) _
  have ho : (w.alloc (.cells (npart neg ⟨#[]⟩ ex) 43)).ownsRow B 5 1 (.slice p m c) m (bcells b) := owned_keeps hown fun k hk => hb.block k (hown.lt k hk).2
  have HL := Lib.hid (laidNumber_zero _ B m c p b neg ex ho hm hm2 (Nat.le_trans hB hb.size))
  have HB := Lib.hid (hb.mono hB)
  generalize b ++ [49] = L at HL ⊢
  unfold npart at HL HB ⊢
  clear hown hb ho
  go_enter Tryd.func24, Tryd.ntmps24
  go_wp2_with fail
  with_reducible refine HL.out.mono ?_
  rintro e w2 ⟨p2, c2, rfl, ho2, hb2⟩
  have hFin : Hid (OPost B w L (.returned (.slice p2 L.length c2)) w2) := ⟨p2, c2, rfl, ho2, HB.out.trans hb2⟩
  clear ho2 hb2 HL
  go_wp2_with fail
  go_ret
  exact hFin.out
theorem laid_any (q : Pt) (hq : psane q = true) (hqs : q.s.size ≤ 1000) (mx : Int) (w : World) (B m c : Nat) (p : Option Addr) (b : List Int) (hown : w.ownsRow B 5 1 (.slice p m c) m (bcells b)) (hm : b.length = m) (hm2 : b.length ≤ 100000) (hB : B ≤ w.heap.size) (h0 : 0 < B) (hmx : w.cell? ⟨0, 0, none⟩ = some (.int .i64 mx)) :
    Calls Tryd.prog 24 #[.slice p m c, .agg (parr q)] w (OPost B w (b ++ penc q)) := by
  obtain ⟨k, x, neg, dg, ex, s, i⟩ := q
  unfold psane at hq
  simp only [Bool.and_eq_true, Bool.or_eq_true, decide_eq_true_eq, Bool.not_eq_true', and_assoc] at hq
  obtain ⟨hk, hb, hn, hs, hi, hsane, hi0, hi1⟩ := hq
  unfold parr penc
  dsimp only at *
  rcases hk with (((rfl | rfl) | rfl) | rfl) | rfl
  · exact laid_0 w B m c p b x neg dg ex s i hown hm hm2 hB
  · exact laid_1 w B m c p b x neg dg ex s i hown hm hm2 hB
  · obtain rfl : x = false := by rcases hb with h | h; omega; exact h
    obtain rfl := ba_nil (a := s) (by rcases hs with h | h; omega; exact h)
    obtain rfl : i = 0 := by rcases hi with h | h; omega; exact h
    by_cases hd : dg.size = 0
    · obtain rfl := ba_nil hd
      exact laid_zero w B m c p b neg ex hown hm hm2 hB
    · obtain ⟨h40, hdig, he0, he1⟩ := dsane_dig hsane (fun e => hd (by rw [← unstr_length, e]; rfl))
      rw [unstr_length] at h40 he0 he1
      rw [if_neg (by decide), if_pos rfl, if_neg hd]
      exact laid_num w B m c p b neg dg ex hown hm hm2 hB (by omega) h40 hdig he0 he1
  · exact laid_3 w B m c p b x neg dg ex s i mx hown hm hm2 hB h0 hqs hmx
  · exact laid_9 w B m c p b x neg dg ex s i hown hm hm2 hB hi0 hi1
theorem nbytes_len (neg : Bool) (l : List Int) (h : Int) : (nbytes neg l h).length = l.length + 4 := by
  have : (nsize l h).length = l.length + 3 := by unfold nsize nsz; simp
  unfold nbytes flipb
  split
  · simp [this]
  · simp [this]
/-- A part's bytes are few. -/
theorem penc_len (q : Pt) (hq : psane q = true) (hqs : q.s.size ≤ 1000) : (penc q).length ≤ 4000 := by
  obtain ⟨k, x, neg, dg, ex, s, i⟩ := q
  unfold psane at hq
  simp only [Bool.and_eq_true, Bool.or_eq_true, decide_eq_true_eq, Bool.not_eq_true', and_assoc] at hq
  obtain ⟨hk, hb, hn, hs, hi, hsane, hi0, hi1⟩ := hq
  unfold penc
  dsimp only at *
  rcases hk with (((rfl | rfl) | rfl) | rfl) | rfl
  · simp
  · cases x <;> simp
  · by_cases hd : dg.size = 0
    · rw [if_neg (by decide), if_pos rfl, if_pos hd]; simp
    · obtain ⟨h40, _, _, _⟩ := dsane_dig hsane (fun e => hd (by rw [← unstr_length, e]; rfl))
      rw [if_neg (by decide), if_pos rfl, if_neg hd]
      rw [nbytes_len]
      omega
  · have : (rep s).length ≤ 3000 := by
      have := rep_len s
      unfold rep
      rw [unstr_length]
      show Array.size (List.toArray _) ≤ 3000
      rw [List.size_toArray]
      omega
    simp
    omega
  · simp
end Go.Proofs.YtebhbcbcnjdgjaaDoor.dk
