/- KeysAfter: the walk. -/
import Derived.Test.YtebhbcbcnjdgjaaDoorK
namespace Go.Proofs.YtebhbcbcnjdgjaaDoor.dk
open Go.PlainAid Go.ChangeShapes Go.WideShapes Go.ChangeAt Go.RowKit

/-- Bytes below B. -/
def Rb (B : Nat) (W : World) (p : Option Addr) (n : Nat) (l : List Int) : Prop := l.length = n ∧ (0 < n → ∃ b off, p = some ⟨b, off, none⟩ ∧ b < B ∧ ∀ i, i < n → W.cell? ⟨b, off + i, none⟩ = some (.int .u8 (l.getD i 0)))
theorem Rb.below {B : Nat} {W W' : World} {p : Option Addr} {n : Nat} {l : List Int} (h : Rb B W p n l) (hb : Below B W W') : Rb B W' p n l := by
  refine ⟨h.1, fun h0 => ?_⟩
  obtain ⟨b, off, e, hlt, hc⟩ := h.2 h0
  exact ⟨b, off, e, hlt, fun i hi => by rw [hb.cell hlt]; exact hc i hi⟩
theorem Rb.rd {B : Nat} {W : World} {p : Option Addr} {n : Nat} {l : List Int} (h : Rb B W p n l) (hB : B ≤ W.heap.size) : Rd W p n l := by
  refine ⟨h.1, fun h0 => ?_⟩
  obtain ⟨b, off, e, hlt, hc⟩ := h.2 h0
  exact ⟨b, off, e, by omega, hc⟩
theorem Rd.rb {W : World} {p : Option Addr} {n : Nat} {l : List Int} (h : Rd W p n l) : Rb W.heap.size W p n l := h
set_option maxRecDepth 100000 in
theorem after_great (w : World) (p q : Option Addr) (n c m d : Nat) (h : 1000 < n + m) (hn : n ≤ 140737488351232) (hm : m ≤ 140737488351232) :
    Calls Tryd.prog 5 #[.slice p n c, .slice q m d] w fun e w' => e = .returned (.bool true) ∧ Below w.heap.size w w' := by
  have HA := Lib.hid (awake_any w)
  have ws : IntKind.i64.wrap ((n : Int) + (m : Int)) = (n : Int) + m := by rw [IntKind.wrap_i64]; omega
  have d1 : decide ((1000 : Int) < (n : Int) + (m : Int)) = true := decide_eq_true (by omega)
  go_enter Tryd.func5, Tryd.ntmps5
  go_wp2_with (go_at_call 8; with_reducible refine HA.out.mono ?_; rintro e w0 ⟨rfl, hb0⟩)
  go_ret
  exact ⟨rfl, hb0⟩
set_option maxHeartbeats 4000000 in
set_option maxRecDepth 100000 in
theorem after_none (w : World) (p q : Option Addr) (n c m d : Nat) (l b : List Int) (hl : Rb w.heap.size w p n l) (hb : Rb w.heap.size w q m b) (h : n + m ≤ 1000) (h0 : stripN l n = 0) :
    Calls Tryd.prog 5 #[.slice p n c, .slice q m d] w fun e w' => e = .returned (.bool true) ∧ Below w.heap.size w w' := by
  have HA := Lib.hid (awake_any w)
  have ws : IntKind.i64.wrap ((n : Int) + (m : Int)) = (n : Int) + m := by rw [IntKind.wrap_i64]; omega
  have d1 : decide ((1000 : Int) < (n : Int) + (m : Int)) = false := decide_eq_false (by omega)
  have HRl := Lib.hid hl
  have HRb := Lib.hid hb
  have H255 := Lib.hid (stripN_zero l n h0)
  have H0 := Lib.hid h0
  clear hl hb h0
  go_enter Tryd.func5, Tryd.ntmps5
  go_wp2_with (go_at_call 8; with_reducible refine HA.out.mono ?_; rintro e w0 ⟨rfl, hb0⟩)
  have hrl := (HRl.out.below hb0).rd hb0.size
  have hrb := (HRb.out.below hb0).rd hb0.size
  have HAf := Lib.hid (After_none w0 p n c l hrl (by omega) H0.out)
  obtain ⟨p1, c1, w1, p2, c2, w2, hr1, hr2, _, hb2⟩ := app_two (c := c) (d := d) hrl hrb (by omega) (by omega)
  have HR1 := Lib.hid hr1
  have HR2 := Lib.hid hr2
  have HB := Lib.hid (hb0.trans (hb2.mono hb0.size))
  clear hr1 hr2 hb2 hrl hrb hb0 HA
  with_reducible refine HAf.out.mono ?_
  clear HAf
  rintro e w' ⟨rfl, rfl⟩
  go_wp2_with (first | (at_builtin; refine wpList_append_run rfl _ _ _ rfl _ _ _ _ rfl rfl HR1.out ?_; clear HR1) | (at_builtin; refine wpList_append_run rfl _ _ _ rfl _ _ _ _ rfl rfl HR2.out ?_; clear HR2))
  have hrl2 := (HRl.out.below HB.out).rd HB.out.size
  have HR3 := Lib.hid hrl2
  clear hrl2
  go_loopw [8] (fun v wr => ∃ j : Nat, v = .int .i64 (j : Int) ∧ j ≤ n ∧ wr = w2) (fun v _ => n - (intOf v).toNat)
  case atStart => exact ⟨0, rfl, Nat.zero_le _, rfl⟩
  case round =>
    obtain ⟨j, rfl, hj, rfl⟩ := hrel
    by_cases hjn : j < n
    · have dj : decide ((j : Int) < (n : Int)) = true := decide_eq_true (by omega)
      obtain ⟨gb, off, rfl, _⟩ := HR3.out.form (by omega)
      have c0 := HR3.out.cell j hjn
      rw [H255.out j hjn] at c0
      go_wp2_with fail
      exact ⟨⟨j + 1, by go_num, by omega, trivial⟩, by show n - ((j : Int) + 1).toNat < n - (j : Int).toNat; omega⟩
    · have dj : decide ((j : Int) < (n : Int)) = false := decide_eq_false (by omega)
      go_wp2_with fail
      go_ret
      exact ⟨rfl, HB.out⟩
set_option maxHeartbeats 4000000 in
set_option maxRecDepth 100000 in
theorem after_some (w : World) (gb off : Nat) (q : Option Addr) (n c m d : Nat) (l b : List Int) (hl : Rb w.heap.size w (some ⟨gb, off, none⟩) n l) (hb : Rb w.heap.size w q m b) (hyl : Bys l) (hyb : Bys b) (hnc : n ≤ c) (h : n + m ≤ 1000) (h0 : stripN l n ≠ 0) :
    Calls Tryd.prog 5 #[.slice (some ⟨gb, off, none⟩) n c, .slice q m d] w fun e w' => e = .returned (.bool true) ∧ Below w.heap.size w w' := by
  have HA := Lib.hid (awake_any w)
  have ws : IntKind.i64.wrap ((n : Int) + (m : Int)) = (n : Int) + m := by rw [IntKind.wrap_i64]; omega
  have d1 : decide ((1000 : Int) < (n : Int) + (m : Int)) = false := decide_eq_false (by omega)
  have e1 := hl.1
  have e2 := hb.1
  have hle := stripN_le l n
  obtain ⟨a1, a2, a3⟩ := aft_some l (by rw [e1]; exact h0)
  rw [e1] at a1 a2 a3
  obtain ⟨k, hk⟩ : ∃ k, stripN l n = k + 1 := ⟨stripN l n - 1, by omega⟩
  rw [hk] at a1 a2 a3 hle
  simp only [Nat.add_sub_cancel] at a2 a3
  have hya := aft_bys hyl
  have HRl := Lib.hid hl
  have HRb := Lib.hid hb
  have HYl := Lib.hid hyl
  have HYb := Lib.hid hyb
  have H0 := Lib.hid h0
  clear hl hb h0 hyl hyb
  go_enter Tryd.func5, Tryd.ntmps5
  go_wp2_with (go_at_call 8; with_reducible refine HA.out.mono ?_; rintro e w0 ⟨rfl, hb0⟩)
  have hrl := (HRl.out.below hb0).rd hb0.size
  with_reducible refine (After_some w0 gb off n c l hrl HYl.out hnc (by omega) H0.out).mono ?_
  rintro e w1 ⟨pa, ca, rfl, hoa, hb1⟩
  rw [a1] at hoa ⊢
  have hb01 := hb0.trans (hb1.mono hb0.size)
  obtain ⟨p1, c1, v1, p2, c2, w2, hr1, hr2, ho2, hb2⟩ := app_two (c := c) (d := d) ((HRl.out.below hb01).rd hb01.size) ((HRb.out.below hb01).rd hb01.size) (by omega) (by omega)
  have hb02 := hb01.trans (hb2.mono hb01.size)
  have ha2 : Rd w2 pa (k + 1) (aft l) := by
    have := owned_rd hoa
    exact this.below hb2
  obtain ⟨p3, c3, v3, p4, c4, w4, hr3, hr4, ho4, hb4⟩ := app_two (c := ca) (d := d) ha2 ((HRb.out.below hb02).rd hb02.size) (by omega) (by omega)
  have hb04 := hb02.trans (hb4.mono hb02.size)
  have hrl4 := (HRl.out.below hb04).rd hb04.size
  have hra4 := ha2.below hb4
  have hrall4 : Rd w4 p2 (n + m) (l ++ b) := by
    have := (owned_rd ho2).below hb4
    rw [List.length_append, e1, e2] at this
    exact this
  have hc4 : k + 1 + m ≤ c4 := by
    rcases ho4.2 with ⟨_, h⟩ | ⟨g, cap, cur, hv, _, _, h, _⟩
    · rw [List.length_append, a1] at h; omega
    · injection hv with _ _ h3
      rw [List.length_append, a1, e2, ← h3] at h
      exact h
  have hrn4 : Rd w4 p4 (k + 1 + m) (aft l ++ b) := by
    have := owned_rd ho4
    rw [List.length_append, a1, e2] at this
    exact this
  have HR1 := Lib.hid hr1
  have HR2 := Lib.hid hr2
  have HR3 := Lib.hid hr3
  have HR4 := Lib.hid hr4
  have HB := Lib.hid hb04
  have HB1 := Lib.hid (fun (y : Nat) => Bytes_lt (w4.drewN y) p2 (n + m) c2 (l ++ b) pa (k + 1) ca (aft l) (hrall4.below (below_drewN (Below.refl _ _) _)) (hra4.below (below_drewN (Below.refl _ _) _)) (HYl.out.app HYb.out) hya (by omega) k (by omega) (by omega) (fun i hi => by rw [app_at _ _ _ (by omega), a2 i hi]) (by rw [app_at _ _ _ (by omega), a3]; omega))
  have HB2 := Lib.hid (fun (y : Nat) => Bytes_lt (w4.drewN y) (some ⟨gb, off, none⟩) n c l pa (k + 1) ca (aft l) (hrl4.below (below_drewN (Below.refl _ _) _)) (hra4.below (below_drewN (Below.refl _ _) _)) HYl.out hya (by omega) k (by omega) (by omega) (fun i hi => by rw [a2 i hi]) (by rw [a3]; omega))
  have HRl4 := Lib.hid hrl4
  have HRn4 := Lib.hid hrn4
  have HYa := Lib.hid hya
  have HA2 := Lib.hid a2
  have HA3 := Lib.hid a3
  have HA1 := Lib.hid a1
  clear hr1 hr2 hr3 hr4 ho2 ho4 hb0 hb1 hb2 hb4 hb01 hb02 hb04 hrl hrl4 hra4 hrall4 hrn4 hoa ha2 hya a1 a2 a3 HA
  have HBs := Lib.hid HB.out.size
  generalize hn1 : k + 1 = n1 at *
  generalize hn2 : n1 + m = n2 at *
  have dk : ((n1 : Int) == 0) = false := beq_eq_false_iff_ne.2 (by omega)
  have HN1 := Lib.hid hn1
  have HN2 := Lib.hid hn2
  clear hn1 hn2
  by_cases hlen : n2 < n
  · have dl : decide ((n2 : Int) < (n : Int)) = true := decide_eq_true (by omega)
    have dln : decide (n2 < n) = true := decide_eq_true hlen
    go_wp2_with (first | (at_builtin; refine wpList_append_run rfl _ _ _ rfl _ _ _ _ rfl rfl HR1.out ?_; clear HR1) | (at_builtin; refine wpList_append_run rfl _ _ _ rfl _ _ _ _ rfl rfl HR2.out ?_; clear HR2) | (at_builtin; refine wpList_append_run rfl _ _ _ rfl _ _ _ _ rfl rfl HR3.out ?_; clear HR3) | (at_builtin; refine wpList_append_run rfl _ _ _ rfl _ _ _ _ rfl rfl HR4.out ?_; clear HR4))
    go_quiet ((first
      | (go_at_call_of 21 (Value.slice p2 (n + m) c2); exact Calls.quiet_of (HB1.out _))
      | (go_at_call_of 21 (Value.slice (some ⟨gb, off, none⟩) n c); exact Calls.quiet_of (HB2.out _))))
    go_wp2_with fail
    go_ret
    exact ⟨rfl, HB.out.trans (below_drewN (Below.refl _ _) _ |>.mono HBs.out)⟩
  · have dl : decide ((n2 : Int) < (n : Int)) = false := decide_eq_false (by omega)
    have dln : decide (n2 < n) = false := decide_eq_false hlen
    obtain ⟨g4, o4, rfl, _⟩ := HRn4.out.form (by have := HN1.out; have := HN2.out; omega)
    have V1 : ∀ y, (convert 23 9 (.slice (some ⟨g4, o4, none⟩) n c4)).run Tryd.prog (w4.drewN y) = .ok (.string (strOf ((aft l ++ b).take n))) (w4.drewN y) := fun y => conv_rd (by
      have := (HRn4.out.cut 0 n (by omega)).below (below_drewN (Below.refl _ _) y)
      simpa using this)
    have V2 : ∀ y, (convert 23 9 (.slice (some ⟨gb, off, none⟩) n c)).run Tryd.prog (w4.drewN y) = .ok (.string (strOf l)) (w4.drewN y) := fun y => conv_rd (HRl4.out.below (below_drewN (Below.refl _ _) y))
    have hne : strOf ((aft l ++ b).take n) ≠ strOf l := fun e => by
      have hn1 := HN1.out
      have e5 := strOf_inj ((HYa.out.app HYb.out).take n) HYl.out e
      have e6 : ((aft l ++ b).take n).getD k 0 = l.getD k 0 := by rw [e5]
      rw [List.getD_eq_getElem?_getD, List.getElem?_take, if_pos (by omega), ← List.getD_eq_getElem?_getD, app_at _ _ _ (by rw [HA1.out]; omega), HA3.out] at e6
      omega
    have hnc4 : n ≤ c4 := by omega
    have hnc4i : (n : Int) ≤ (c4 : Int) := by omega
    generalize strOf ((aft l ++ b).take n) = s1 at V1 hne
    generalize strOf l = s2 at V2 hne
    have hbs : (s1.toList == s2.toList) = false := by
      rw [beq_eq_false_iff_ne]
      intro e
      rw [ByteArray.toList_eq, ByteArray.toList_eq] at e
      have e3 := Array.toList_inj.1 e
      cases s1 with
      | mk a => cases s2 with
        | mk b => exact hne (congrArg ByteArray.mk e3)
    go_wp2_with (first | (at_builtin; refine wpList_append_run rfl _ _ _ rfl _ _ _ _ rfl rfl HR1.out ?_; clear HR1) | (at_builtin; refine wpList_append_run rfl _ _ _ rfl _ _ _ _ rfl rfl HR2.out ?_; clear HR2) | (at_builtin; refine wpList_append_run rfl _ _ _ rfl _ _ _ _ rfl rfl HR3.out ?_; clear HR3) | (at_builtin; refine wpList_append_run rfl _ _ _ rfl _ _ _ _ rfl rfl HR4.out ?_; clear HR4))
    go_quiet ((first
      | (go_at_call_of 21 (Value.slice p2 (n + m) c2); exact Calls.quiet_of (HB1.out _))
      | (go_at_call_of 21 (Value.slice (some ⟨gb, off, none⟩) n c); exact Calls.quiet_of (HB2.out _))))
    go_wp2_with fail
    go_ret
    exact ⟨rfl, HB.out.trans (below_drewN (Below.refl _ _) _ |>.mono HBs.out)⟩
theorem keysAfter_any (w : World) (p q : Option Addr) (n c m d : Nat) (l b : List Int) (hl : Rb w.heap.size w p n l) (hb : Rb w.heap.size w q m b) (hyl : Bys l) (hyb : Bys b) (hnc : n ≤ c) (hn : n ≤ 140737488351232) (hm : m ≤ 140737488351232) :
    Calls Tryd.prog 5 #[.slice p n c, .slice q m d] w fun e w' => e = .returned (.bool true) ∧ Below w.heap.size w w' := by
  by_cases hg : 1000 < n + m
  · exact after_great w p q n c m d hg hn hm
  · by_cases h0 : stripN l n = 0
    · exact after_none w p q n c m d l b hl hb (by omega) h0
    · have hpos : 0 < n := by
        rcases Nat.eq_zero_or_pos n with rfl | h
        · exact absurd rfl h0
        · exact h
      obtain ⟨gb, off, rfl, _⟩ := hl.2 hpos
      exact after_some w gb off q n c m d l b hl hb hyl hyb hnc (by omega) h0
end Go.Proofs.YtebhbcbcnjdgjaaDoor.dk
