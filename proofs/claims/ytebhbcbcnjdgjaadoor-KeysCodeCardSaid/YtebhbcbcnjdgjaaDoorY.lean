/- KeysPrefix: the walk. -/
import Derived.Test.YtebhbcbcnjdgjaaDoorX
namespace Go.Proofs.YtebhbcbcnjdgjaaDoor.dk
open Go.PlainAid Go.ChangeShapes Go.WideShapes Go.ChangeAt Go.RowKit
open Go.Deep (open_slice)

theorem RdP.take {w : World} {p : Option Addr} {m : Nat} {l : List Pt} (h : RdP w p m l) (n : Nat) (hn : n ≤ m) : RdP w p n (l.take n) := by
  refine ⟨by rw [List.length_take, h.1]; omega, fun h0 => ?_⟩
  obtain ⟨g, off, rfl, hg, hc⟩ := h.2 (by omega)
  refine ⟨g, off, rfl, hg, fun i hi j hj => ?_⟩
  rw [hc i (by omega) j hj]
  congr 2
  rw [List.getD_eq_getElem?_getD, List.getD_eq_getElem?_getD, List.getElem?_take, if_pos hi]
theorem open_cap {H : Type} {enc : TypeId × Value → H} {W : World} {a0 : Option Addr} {n0 c0 : Nat} {d : DataW H} {p : List MemPlace}
    (hj : DataW.Trod enc Tryd.prog W 0 (fun _ => true) true 22 (.slice a0 n0 c0) d p) : n0 ≤ c0 := by
  obtain ⟨fuel, hf⟩ := hj
  have hf' : DataW.trod enc Tryd.prog W 0 (fun _ => true) true fuel 22 [.slice a0 n0 c0] = some (d, p) := hf
  rcases open_slice Tryd.underlying22 hf' with ⟨hcs, hx⟩ | ⟨a, n, c, m, fl, Ds, Pl, hcs, _, hl, _, hm, _, hx⟩
  · have hv := (List.cons.inj hcs).1
    injection hv with _ h2 h3
    omega
  · have hv := (List.cons.inj hcs).1
    injection hv with _ h2 h3
    omega
theorem Encode_good (w : World) (n c : Nat) (p : Option Addr) (l : List Pt) (mx : Int) (hR : RdP w p n l) (hs : ∀ q ∈ l, q.s.size ≤ 1000 ∧ q.dg.size ≤ 1000) (h0 : 0 < w.heap.size) (hmx : w.cell? ⟨0, 0, none⟩ = some (.int .i64 mx)) (h : n ≤ 16 ∧ l.all psane = true) :
    Calls Tryd.prog 10 #[.slice p n c] w fun e w' => ∃ p2 c2, e = .returned (.tuple #[.slice p2 (encOf l).length c2, .int .i64 0]) ∧ (Rd w' p2 (encOf l).length (encOf l) ∧ (encOf l).length ≤ c2) ∧ Below w.heap.size w w' := by
  refine (Encode_any w n c p l mx hR hs h0 hmx).mono ?_
  rintro e w' ⟨hb, ⟨_, _, p2, c2, rfl, ho⟩ | ⟨h', _⟩⟩
  · refine ⟨p2, c2, rfl, ⟨owned_rd ho, ?_⟩, hb⟩
    rcases ho.2 with ⟨_, h⟩ | ⟨g, cap, cur, hv, _, _, h, _⟩
    · omega
    · injection hv with _ _ h3
      omega
  · exact absurd h h'
theorem Encode_bad (w : World) (n c : Nat) (p : Option Addr) (l : List Pt) (mx : Int) (hR : RdP w p n l) (hs : ∀ q ∈ l, q.s.size ≤ 1000 ∧ q.dg.size ≤ 1000) (h0 : 0 < w.heap.size) (hmx : w.cell? ⟨0, 0, none⟩ = some (.int .i64 mx)) (h : ¬ (n ≤ 16 ∧ l.all psane = true)) :
    Calls Tryd.prog 10 #[.slice p n c] w fun e w' => ∃ ec : Int, e = .returned (.tuple #[.slice none 0 0, .int .i64 ec]) ∧ (ec != 0) = true ∧ Below w.heap.size w w' := by
  refine (Encode_any w n c p l mx hR hs h0 hmx).mono ?_
  rintro e w' ⟨hb, ⟨h1, h2, _⟩ | ⟨_, rfl⟩⟩
  · exact absurd ⟨h1, h2⟩ h
  · refine ⟨_, rfl, ?_, hb⟩
    split <;> decide
/-- What is told of the two. -/
theorem begins_iff {la lb : List Pt} (ha : la.all psane = true) (hb : lb.all psane = true) : ((encOf la).length ≤ (encOf lb).length ∧ (encOf lb).take (encOf la).length = encOf la) ↔ (la.length ≤ lb.length ∧ la = lb.take la.length) := by
  have h := enc_prefix la lb (fun q hq => ps_of q (List.all_eq_true.1 ha q hq)) (fun q hq => ps_of q (List.all_eq_true.1 hb q hq))
  constructor
  · rintro ⟨_, h2⟩
    obtain ⟨r, hr⟩ := h.1 ⟨(encOf lb).drop (encOf la).length, by
      have e := List.take_append_drop (encOf la).length (encOf lb)
      rw [h2] at e
      exact e⟩
    rw [← hr]
    simp
  · rintro ⟨_, h2⟩
    obtain ⟨r, hr⟩ := h.2 ⟨lb.drop la.length, by
      have e := List.take_append_drop la.length lb
      rw [← h2] at e
      exact e⟩
    rw [← hr]
    simp
set_option maxHeartbeats 4000000 in
set_option maxRecDepth 100000 in
theorem prefix_out (w : World) (p q : Option Addr) (n c m d : Nat) (la lb : List Pt) (ha : RdP w p n la) (hb : RdP w q m lb) (h : ¬ (fewP la = true ∧ fewP lb = true)) :
    Calls Tryd.prog 7 #[.slice p n c, .slice q m d] w fun e w' => e = .returned (.bool true) ∧ Below w.heap.size w w' := by
  have HA := Lib.hid (awake_any w)
  have HRa := Lib.hid ha
  have HRb := Lib.hid hb
  clear ha hb
  go_enter Tryd.func7, Tryd.ntmps7
  go_wp2_with (go_at_call 8; with_reducible refine HA.out.mono ?_; rintro e w0 ⟨rfl, hb0⟩)
  have HF1 := Lib.hid (Few_any w0 n c p la (HRa.out.below hb0 (Nat.le_refl _)))
  have HF2 := Lib.hid (Few_any w0 m d q lb (HRb.out.below hb0 (Nat.le_refl _)))
  have HB := Lib.hid hb0
  clear hb0 HA HRa HRb
  generalize fewP la = fa at HF1 h
  generalize fewP lb = fb at HF2 h
  with_reducible refine HF1.out.mono ?_
  clear HF1
  rintro e w1 ⟨rfl, rfl⟩
  cases fa with
  | false =>
    go_wp2_with fail
    go_ret
    exact ⟨rfl, HB.out⟩
  | true =>
    go_wp2_with fail
    with_reducible refine HF2.out.mono ?_
    clear HF2
    rintro e w2 ⟨rfl, rfl⟩
    cases fb with
    | false =>
      go_wp2_with fail
      go_ret
      exact ⟨rfl, HB.out⟩
    | true => exact absurd ⟨by trivial, by trivial⟩ h
set_option maxHeartbeats 4000000 in
set_option maxRecDepth 100000 in
theorem prefix_yy (w : World) (p q : Option Addr) (n c m d : Nat) (la lb : List Pt) (mx : Int) (ha : RdP w p n la) (hb : RdP w q m lb) (hmx : w.cell? ⟨0, 0, none⟩ = some (.int .i64 mx)) (hfa : fewP la = true) (hfb : fewP lb = true) (sa : (n ≤ 16 ∧ la.all psane = true)) (sb : (m ≤ 16 ∧ lb.all psane = true)) (hmd : m ≤ d) :
    Calls Tryd.prog 7 #[.slice p n c, .slice q m d] w fun e w' => e = .returned (.bool true) ∧ Below w.heap.size w w' := by
  have HA := Lib.hid (awake_any w)
  have h0 : 0 < w.heap.size := World.block_lt_of_cell? _ _ hmx
  have fsa := few_small hfa
  have fsb := few_small hfb
  have HRa := Lib.hid ha
  have HRb := Lib.hid hb
  have HM := Lib.hid hmx
  have H0 := Lib.hid h0
  have HSa := Lib.hid sa
  have HSb := Lib.hid sb
  have HFa := Lib.hid (And.intro hfa fsa)
  have HFb := Lib.hid (And.intro hfb fsb)
  have HMd := Lib.hid hmd
  have hna : n ≤ 40 := by have := fsa.1; rw [ha.1] at this; exact this
  have hnb : m ≤ 40 := by have := fsb.1; rw [hb.1] at this; exact this
  have HNa := Lib.hid hna
  have HNb := Lib.hid hnb
  clear ha hb hmx h0 hna hnb sa sb fsa fsb hfa hfb hmd
  go_enter Tryd.func7, Tryd.ntmps7
  go_wp2_with (go_at_call 8; with_reducible refine HA.out.mono ?_; rintro e w0 ⟨rfl, hb0⟩)
  have HB0 := Lib.hid hb0
  clear hb0 HA
  with_reducible refine (Few_any w0 n c p la (HRa.out.below HB0.out (Nat.le_refl _))).mono ?_
  rintro e w1 ⟨rfl, rfl⟩
  rw [HFa.out.1]
  go_wp2_with fail
  with_reducible refine (Few_any w1 m d q lb (HRb.out.below HB0.out (Nat.le_refl _))).mono ?_
  rintro e w2 ⟨rfl, rfl⟩
  rw [HFb.out.1]
  go_wp2_with fail
  with_reducible refine (ours_any w2 n c p la (HRa.out.below HB0.out (Nat.le_refl _)) HNa.out).mono ?_
  rintro e w3 ⟨p3, c3, rfl, hr3, hb3⟩
  have HB3 := Lib.hid (HB0.out.trans (hb3.mono HB0.out.size))
  have HR3 := Lib.hid hr3
  clear hb3 hr3 HB0
  go_wp2_with fail
  with_reducible refine (Encode_good w3 n c3 p3 la mx HR3.out HFa.out.2.2 (Nat.lt_of_lt_of_le H0.out HB3.out.size) (by rw [cell_kept HB3.out H0.out]; exact HM.out) HSa.out).mono ?_
  rintro e w4 ⟨x4, y4, rfl, hx4, hb4⟩
  have HX4 := Lib.hid hx4
  have HB4 := Lib.hid (HB3.out.trans (hb4.mono HB3.out.size))
  clear hb4 hx4 HB3
  clear HR3
  go_wp2_with fail
  with_reducible refine (ours_any w4 m d q lb (HRb.out.below HB4.out (Nat.le_refl _)) HNb.out).mono ?_
  rintro e w5 ⟨p5, c5, rfl, hr5, hb5⟩
  have HB5 := Lib.hid (HB4.out.trans (hb5.mono HB4.out.size))
  have HR5 := Lib.hid hr5
  have HX5 := Lib.hid (And.intro (HX4.out.1.below hb5) HX4.out.2)
  clear HX4
  clear hb5 hr5 HB4
  go_wp2_with fail
  with_reducible refine (Encode_good w5 m c5 p5 lb mx HR5.out HFb.out.2.2 (Nat.lt_of_lt_of_le H0.out HB5.out.size) (by rw [cell_kept HB5.out H0.out]; exact HM.out) HSb.out).mono ?_
  rintro e w6 ⟨x6, y6, rfl, hx6, hb6⟩
  have HX6 := Lib.hid hx6
  have HB6 := Lib.hid (HB5.out.trans (hb6.mono HB5.out.size))
  have HX6a := Lib.hid (And.intro (HX5.out.1.below hb6) HX5.out.2)
  clear hb6 hx6 HB5
  clear HR5
  have V1 : ∀ y, (convert 23 9 (.slice x4 (encOf la).length y4)).run Tryd.prog (w6.drewN y) = .ok (.string (strOf (encOf la))) (w6.drewN y) := fun y => conv_rd (HX6a.out.1.below (below_drewN (Below.refl _ _) y))
  have V2 : (encOf la).length ≤ (encOf lb).length → ∀ y, (convert 23 9 (.slice x6 (encOf la).length y6)).run Tryd.prog (w6.drewN y) = .ok (.string (strOf ((encOf lb).take (encOf la).length))) (w6.drewN y) := fun hle y => conv_rd (by
    rcases Nat.eq_zero_or_pos (encOf la).length with h | h
    · rw [h]; exact ⟨rfl, fun h => absurd h (by omega)⟩
    · obtain ⟨g6, o6, rfl, _⟩ := HX6.out.1.form (by omega)
      have := (HX6.out.1.cut 0 (encOf la).length (by omega)).below (below_drewN (Below.refl _ _) y)
      simpa using this)
  have hI := begins_iff HSa.out.2 HSb.out.2
  rw [HRa.out.1, HRb.out.1] at hI
  have hbsa := encOf_bys la fun q hq => ps_of q (List.all_eq_true.1 HSa.out.2 q hq)
  have hbsb := encOf_bys lb fun q hq => ps_of q (List.all_eq_true.1 HSb.out.2 q hq)
  have hstr : strOf ((encOf lb).take (encOf la).length) = strOf (encOf la) ↔ (encOf lb).take (encOf la).length = encOf la := ⟨fun e => strOf_inj (hbsb.take _) hbsa e, fun e => by rw [e]⟩
  rw [← hstr] at hI
  have hcap := HX6.out.2
  have hl40a := HFa.out.2.1
  have hl40b := HFb.out.2.1
  rw [HRa.out.1] at hl40a
  rw [HRb.out.1] at hl40b
  have hra6 := HRa.out.below HB6.out (Nat.le_refl _)
  have hrb6 := HRb.out.below HB6.out (Nat.le_refl _)
  have HRa6 := Lib.hid hra6
  have HRb6 := Lib.hid hrb6
  have hmd := HMd.out
  clear hbsa hbsb hstr HX6 HX6a HX5 hra6 hrb6 HRa HRb HFa HFb HSa HSb
  generalize strOf ((encOf lb).take (encOf la).length) = s1 at V2 hI
  generalize strOf (encOf la) = s2 at V1 hI
  generalize (encOf la).length = nx at V1 V2 hI ⊢
  generalize (encOf lb).length = ny at V2 hI hcap ⊢
  have hHI := Lib.hid hI
  clear hI
  have HS : n ≤ m → ∀ (y : Nat) (b : Bool), (b = true ↔ la = lb.take n) → Calls Tryd.prog 17 #[.slice p n c, .slice q n d] (w6.drewN y) fun e w' => e = .returned (.bool b) ∧ Below w6.heap.size w6 w' := fun hnm y b hb => by
    refine (Same_any (w6.drewN y) n c n d p q la (lb.take n) (HRa6.out.below (below_drewN (Below.refl _ _) y) (Nat.le_refl _)) ((HRb6.out.below (below_drewN (Below.refl _ _) y) (Nat.le_refl _)).take n hnm) rfl HNa.out b hb).mono ?_
    rintro e w' ⟨rfl, z, rfl⟩
    exact ⟨rfl, below_drewN (below_drewN (Below.refl _ _) y) z⟩
  have HSe := Lib.hid HS
  clear HS
  by_cases hx : nx ≤ ny
  · have dx : decide ((nx : Int) ≤ (ny : Int)) = true := decide_eq_true (by omega)
    have dxn : decide (nx ≤ ny) = true := decide_eq_true hx
    have V2' := V2 hx
    clear V2
    have hnc : nx ≤ y6 := by omega
    have hnci : (nx : Int) ≤ (y6 : Int) := by omega
    by_cases hs : s1 = s2
    · obtain ⟨hnm, hl⟩ := hHI.out.1 ⟨hx, hs⟩
      have HLl := Lib.hid hl
      clear hl
      subst hs
      have dn : decide ((n : Int) ≤ (m : Int)) = true := decide_eq_true (by omega)
      have dnn : decide (n ≤ m) = true := decide_eq_true hnm
      have hmin : min (n : Int) (m : Int) = (n : Int) := by omega
      have hmn : min n m = n := by omega
      go_upto_region 8 with fail
      go_quiet (fail)
      go_wp2_with fail
      with_reducible refine (HSe.out hnm nq true ⟨fun _ => HLl.out, fun _ => rfl⟩).mono ?_
      rintro e w7 ⟨rfl, hb7⟩
      have HB7 := Lib.hid (HB6.out.trans (hb7.mono HB6.out.size))
      clear hb7
      go_wp2_with fail
      go_ret
      exact ⟨rfl, HB7.out⟩
    · have hb2 : (s1.toList == s2.toList) = false := by
        rw [beq_eq_false_iff_ne]
        intro e
        rw [ByteArray.toList_eq, ByteArray.toList_eq] at e
        exact hs (ByteArray.ext (Array.toList_inj.1 e))
      by_cases hnm : n ≤ m
      · have HLl := Lib.hid (fun (h : la = lb.take n) => hs (hHI.out.2 ⟨hnm, h⟩).2)
        have dn : decide ((n : Int) ≤ (m : Int)) = true := decide_eq_true (by omega)
        have dnn : decide (n ≤ m) = true := decide_eq_true hnm
        have hmin : min (n : Int) (m : Int) = (n : Int) := by omega
        have hmn : min n m = n := by omega
        go_upto_region 8 with fail
        go_quiet (fail)
        go_wp2_with fail
        with_reducible refine (HSe.out hnm nq false ⟨fun h => absurd h (by decide), fun h => absurd h HLl.out⟩).mono ?_
        rintro e w7 ⟨rfl, hb7⟩
        have HB7 := Lib.hid (HB6.out.trans (hb7.mono HB6.out.size))
        clear hb7
        go_wp2_with fail
        go_ret
        exact ⟨rfl, HB7.out⟩
      · have dn : decide ((n : Int) ≤ (m : Int)) = false := decide_eq_false (by omega)
        have dnn : decide (n ≤ m) = false := decide_eq_false hnm
        go_upto_region 8 with fail
        go_quiet (fail)
        go_wp2_with fail
        go_ret
        exact ⟨rfl, HB6.out.trans ((below_drewN (Below.refl _ _) _).mono HB6.out.size)⟩
  · have dx : decide ((nx : Int) ≤ (ny : Int)) = false := decide_eq_false (by omega)
    have dxn : decide (nx ≤ ny) = false := decide_eq_false hx
    clear V1 V2
    by_cases hnm : n ≤ m
    · have HLl := Lib.hid (fun (h : la = lb.take n) => hx (hHI.out.2 ⟨hnm, h⟩).1)
      have dn : decide ((n : Int) ≤ (m : Int)) = true := decide_eq_true (by omega)
      have dnn : decide (n ≤ m) = true := decide_eq_true hnm
      have hmin : min (n : Int) (m : Int) = (n : Int) := by omega
      have hmn : min n m = n := by omega
      go_upto_region 8 with fail
      go_quiet (fail)
      go_wp2_with fail
      with_reducible refine (HSe.out hnm nq false ⟨fun h => absurd h (by decide), fun h => absurd h HLl.out⟩).mono ?_
      rintro e w7 ⟨rfl, hb7⟩
      have HB7 := Lib.hid (HB6.out.trans (hb7.mono HB6.out.size))
      clear hb7
      go_wp2_with fail
      go_ret
      exact ⟨rfl, HB7.out⟩
    · have dn : decide ((n : Int) ≤ (m : Int)) = false := decide_eq_false (by omega)
      have dnn : decide (n ≤ m) = false := decide_eq_false hnm
      go_upto_region 8 with fail
      go_quiet (fail)
      go_wp2_with fail
      go_ret
      exact ⟨rfl, HB6.out.trans ((below_drewN (Below.refl _ _) _).mono HB6.out.size)⟩
set_option maxHeartbeats 4000000 in
set_option maxRecDepth 100000 in
theorem prefix_ny (w : World) (p q : Option Addr) (n c m d : Nat) (la lb : List Pt) (mx : Int) (ha : RdP w p n la) (hb : RdP w q m lb) (hmx : w.cell? ⟨0, 0, none⟩ = some (.int .i64 mx)) (hfa : fewP la = true) (hfb : fewP lb = true) (sa : ¬ (n ≤ 16 ∧ la.all psane = true)) (sb : (m ≤ 16 ∧ lb.all psane = true)) (hmd : m ≤ d) :
    Calls Tryd.prog 7 #[.slice p n c, .slice q m d] w fun e w' => e = .returned (.bool true) ∧ Below w.heap.size w w' := by
  have HA := Lib.hid (awake_any w)
  have h0 : 0 < w.heap.size := World.block_lt_of_cell? _ _ hmx
  have fsa := few_small hfa
  have fsb := few_small hfb
  have HRa := Lib.hid ha
  have HRb := Lib.hid hb
  have HM := Lib.hid hmx
  have H0 := Lib.hid h0
  have HSa := Lib.hid sa
  have HSb := Lib.hid sb
  have HFa := Lib.hid (And.intro hfa fsa)
  have HFb := Lib.hid (And.intro hfb fsb)
  have HMd := Lib.hid hmd
  have hna : n ≤ 40 := by have := fsa.1; rw [ha.1] at this; exact this
  have hnb : m ≤ 40 := by have := fsb.1; rw [hb.1] at this; exact this
  have HNa := Lib.hid hna
  have HNb := Lib.hid hnb
  clear ha hb hmx h0 hna hnb sa sb fsa fsb hfa hfb hmd
  go_enter Tryd.func7, Tryd.ntmps7
  go_wp2_with (go_at_call 8; with_reducible refine HA.out.mono ?_; rintro e w0 ⟨rfl, hb0⟩)
  have HB0 := Lib.hid hb0
  clear hb0 HA
  with_reducible refine (Few_any w0 n c p la (HRa.out.below HB0.out (Nat.le_refl _))).mono ?_
  rintro e w1 ⟨rfl, rfl⟩
  rw [HFa.out.1]
  go_wp2_with fail
  with_reducible refine (Few_any w1 m d q lb (HRb.out.below HB0.out (Nat.le_refl _))).mono ?_
  rintro e w2 ⟨rfl, rfl⟩
  rw [HFb.out.1]
  go_wp2_with fail
  with_reducible refine (ours_any w2 n c p la (HRa.out.below HB0.out (Nat.le_refl _)) HNa.out).mono ?_
  rintro e w3 ⟨p3, c3, rfl, hr3, hb3⟩
  have HB3 := Lib.hid (HB0.out.trans (hb3.mono HB0.out.size))
  have HR3 := Lib.hid hr3
  clear hb3 hr3 HB0
  go_wp2_with fail
  with_reducible refine (Encode_bad w3 n c3 p3 la mx HR3.out HFa.out.2.2 (Nat.lt_of_lt_of_le H0.out HB3.out.size) (by rw [cell_kept HB3.out H0.out]; exact HM.out) HSa.out).mono ?_
  rintro e w4 ⟨ec4, rfl, hec4, hb4⟩
  have HB4 := Lib.hid (HB3.out.trans (hb4.mono HB3.out.size))
  clear hb4 HB3
  clear HR3
  go_wp2_with fail
  with_reducible refine (ours_any w4 m d q lb (HRb.out.below HB4.out (Nat.le_refl _)) HNb.out).mono ?_
  rintro e w5 ⟨p5, c5, rfl, hr5, hb5⟩
  have HB5 := Lib.hid (HB4.out.trans (hb5.mono HB4.out.size))
  have HR5 := Lib.hid hr5
  clear hb5 hr5 HB4
  go_wp2_with fail
  with_reducible refine (Encode_good w5 m c5 p5 lb mx HR5.out HFb.out.2.2 (Nat.lt_of_lt_of_le H0.out HB5.out.size) (by rw [cell_kept HB5.out H0.out]; exact HM.out) HSb.out).mono ?_
  rintro e w6 ⟨x6, y6, rfl, hx6, hb6⟩
  have HX6 := Lib.hid hx6
  have HB6 := Lib.hid (HB5.out.trans (hb6.mono HB5.out.size))
  clear hb6 hx6 HB5
  clear HR5
  go_wp2_with fail
  go_ret
  exact ⟨rfl, HB6.out⟩
set_option maxHeartbeats 4000000 in
set_option maxRecDepth 100000 in
theorem prefix_yn (w : World) (p q : Option Addr) (n c m d : Nat) (la lb : List Pt) (mx : Int) (ha : RdP w p n la) (hb : RdP w q m lb) (hmx : w.cell? ⟨0, 0, none⟩ = some (.int .i64 mx)) (hfa : fewP la = true) (hfb : fewP lb = true) (sa : (n ≤ 16 ∧ la.all psane = true)) (sb : ¬ (m ≤ 16 ∧ lb.all psane = true)) (hmd : m ≤ d) :
    Calls Tryd.prog 7 #[.slice p n c, .slice q m d] w fun e w' => e = .returned (.bool true) ∧ Below w.heap.size w w' := by
  have HA := Lib.hid (awake_any w)
  have h0 : 0 < w.heap.size := World.block_lt_of_cell? _ _ hmx
  have fsa := few_small hfa
  have fsb := few_small hfb
  have HRa := Lib.hid ha
  have HRb := Lib.hid hb
  have HM := Lib.hid hmx
  have H0 := Lib.hid h0
  have HSa := Lib.hid sa
  have HSb := Lib.hid sb
  have HFa := Lib.hid (And.intro hfa fsa)
  have HFb := Lib.hid (And.intro hfb fsb)
  have HMd := Lib.hid hmd
  have hna : n ≤ 40 := by have := fsa.1; rw [ha.1] at this; exact this
  have hnb : m ≤ 40 := by have := fsb.1; rw [hb.1] at this; exact this
  have HNa := Lib.hid hna
  have HNb := Lib.hid hnb
  clear ha hb hmx h0 hna hnb sa sb fsa fsb hfa hfb hmd
  go_enter Tryd.func7, Tryd.ntmps7
  go_wp2_with (go_at_call 8; with_reducible refine HA.out.mono ?_; rintro e w0 ⟨rfl, hb0⟩)
  have HB0 := Lib.hid hb0
  clear hb0 HA
  with_reducible refine (Few_any w0 n c p la (HRa.out.below HB0.out (Nat.le_refl _))).mono ?_
  rintro e w1 ⟨rfl, rfl⟩
  rw [HFa.out.1]
  go_wp2_with fail
  with_reducible refine (Few_any w1 m d q lb (HRb.out.below HB0.out (Nat.le_refl _))).mono ?_
  rintro e w2 ⟨rfl, rfl⟩
  rw [HFb.out.1]
  go_wp2_with fail
  with_reducible refine (ours_any w2 n c p la (HRa.out.below HB0.out (Nat.le_refl _)) HNa.out).mono ?_
  rintro e w3 ⟨p3, c3, rfl, hr3, hb3⟩
  have HB3 := Lib.hid (HB0.out.trans (hb3.mono HB0.out.size))
  have HR3 := Lib.hid hr3
  clear hb3 hr3 HB0
  go_wp2_with fail
  with_reducible refine (Encode_good w3 n c3 p3 la mx HR3.out HFa.out.2.2 (Nat.lt_of_lt_of_le H0.out HB3.out.size) (by rw [cell_kept HB3.out H0.out]; exact HM.out) HSa.out).mono ?_
  rintro e w4 ⟨x4, y4, rfl, hx4, hb4⟩
  have HX4 := Lib.hid hx4
  have HB4 := Lib.hid (HB3.out.trans (hb4.mono HB3.out.size))
  clear hb4 hx4 HB3
  clear HR3
  go_wp2_with fail
  with_reducible refine (ours_any w4 m d q lb (HRb.out.below HB4.out (Nat.le_refl _)) HNb.out).mono ?_
  rintro e w5 ⟨p5, c5, rfl, hr5, hb5⟩
  have HB5 := Lib.hid (HB4.out.trans (hb5.mono HB4.out.size))
  have HR5 := Lib.hid hr5
  have HX5 := Lib.hid (And.intro (HX4.out.1.below hb5) HX4.out.2)
  clear HX4
  clear hb5 hr5 HB4
  go_wp2_with fail
  with_reducible refine (Encode_bad w5 m c5 p5 lb mx HR5.out HFb.out.2.2 (Nat.lt_of_lt_of_le H0.out HB5.out.size) (by rw [cell_kept HB5.out H0.out]; exact HM.out) HSb.out).mono ?_
  rintro e w6 ⟨ec6, rfl, hec6, hb6⟩
  have HB6 := Lib.hid (HB5.out.trans (hb6.mono HB5.out.size))
  have HX6a := Lib.hid (And.intro (HX5.out.1.below hb6) HX5.out.2)
  clear hb6 HB5
  clear HR5
  go_wp2_with fail
  go_ret
  exact ⟨rfl, HB6.out⟩
set_option maxHeartbeats 4000000 in
set_option maxRecDepth 100000 in
theorem prefix_nn (w : World) (p q : Option Addr) (n c m d : Nat) (la lb : List Pt) (mx : Int) (ha : RdP w p n la) (hb : RdP w q m lb) (hmx : w.cell? ⟨0, 0, none⟩ = some (.int .i64 mx)) (hfa : fewP la = true) (hfb : fewP lb = true) (sa : ¬ (n ≤ 16 ∧ la.all psane = true)) (sb : ¬ (m ≤ 16 ∧ lb.all psane = true)) (hmd : m ≤ d) :
    Calls Tryd.prog 7 #[.slice p n c, .slice q m d] w fun e w' => e = .returned (.bool true) ∧ Below w.heap.size w w' := by
  have HA := Lib.hid (awake_any w)
  have h0 : 0 < w.heap.size := World.block_lt_of_cell? _ _ hmx
  have fsa := few_small hfa
  have fsb := few_small hfb
  have HRa := Lib.hid ha
  have HRb := Lib.hid hb
  have HM := Lib.hid hmx
  have H0 := Lib.hid h0
  have HSa := Lib.hid sa
  have HSb := Lib.hid sb
  have HFa := Lib.hid (And.intro hfa fsa)
  have HFb := Lib.hid (And.intro hfb fsb)
  have HMd := Lib.hid hmd
  have hna : n ≤ 40 := by have := fsa.1; rw [ha.1] at this; exact this
  have hnb : m ≤ 40 := by have := fsb.1; rw [hb.1] at this; exact this
  have HNa := Lib.hid hna
  have HNb := Lib.hid hnb
  clear ha hb hmx h0 hna hnb sa sb fsa fsb hfa hfb hmd
  go_enter Tryd.func7, Tryd.ntmps7
  go_wp2_with (go_at_call 8; with_reducible refine HA.out.mono ?_; rintro e w0 ⟨rfl, hb0⟩)
  have HB0 := Lib.hid hb0
  clear hb0 HA
  with_reducible refine (Few_any w0 n c p la (HRa.out.below HB0.out (Nat.le_refl _))).mono ?_
  rintro e w1 ⟨rfl, rfl⟩
  rw [HFa.out.1]
  go_wp2_with fail
  with_reducible refine (Few_any w1 m d q lb (HRb.out.below HB0.out (Nat.le_refl _))).mono ?_
  rintro e w2 ⟨rfl, rfl⟩
  rw [HFb.out.1]
  go_wp2_with fail
  with_reducible refine (ours_any w2 n c p la (HRa.out.below HB0.out (Nat.le_refl _)) HNa.out).mono ?_
  rintro e w3 ⟨p3, c3, rfl, hr3, hb3⟩
  have HB3 := Lib.hid (HB0.out.trans (hb3.mono HB0.out.size))
  have HR3 := Lib.hid hr3
  clear hb3 hr3 HB0
  go_wp2_with fail
  with_reducible refine (Encode_bad w3 n c3 p3 la mx HR3.out HFa.out.2.2 (Nat.lt_of_lt_of_le H0.out HB3.out.size) (by rw [cell_kept HB3.out H0.out]; exact HM.out) HSa.out).mono ?_
  rintro e w4 ⟨ec4, rfl, hec4, hb4⟩
  have HB4 := Lib.hid (HB3.out.trans (hb4.mono HB3.out.size))
  clear hb4 HB3
  clear HR3
  go_wp2_with fail
  with_reducible refine (ours_any w4 m d q lb (HRb.out.below HB4.out (Nat.le_refl _)) HNb.out).mono ?_
  rintro e w5 ⟨p5, c5, rfl, hr5, hb5⟩
  have HB5 := Lib.hid (HB4.out.trans (hb5.mono HB4.out.size))
  have HR5 := Lib.hid hr5
  clear hb5 hr5 HB4
  go_wp2_with fail
  with_reducible refine (Encode_bad w5 m c5 p5 lb mx HR5.out HFb.out.2.2 (Nat.lt_of_lt_of_le H0.out HB5.out.size) (by rw [cell_kept HB5.out H0.out]; exact HM.out) HSb.out).mono ?_
  rintro e w6 ⟨ec6, rfl, hec6, hb6⟩
  have HB6 := Lib.hid (HB5.out.trans (hb6.mono HB5.out.size))
  clear hb6 HB5
  clear HR5
  go_wp2_with fail
  go_ret
  exact ⟨rfl, HB6.out⟩
theorem keysPrefix_any (w : World) (p q : Option Addr) (n c m d : Nat) (la lb : List Pt) (mx : Int) (ha : RdP w p n la) (hb : RdP w q m lb) (hmx : w.cell? ⟨0, 0, none⟩ = some (.int .i64 mx)) (hmd : m ≤ d) :
    Calls Tryd.prog 7 #[.slice p n c, .slice q m d] w fun e w' => e = .returned (.bool true) ∧ Below w.heap.size w w' := by
  by_cases h : fewP la = true ∧ fewP lb = true
  · obtain ⟨h1, h2⟩ := h
    by_cases sa : n ≤ 16 ∧ la.all psane = true
    · by_cases sb : m ≤ 16 ∧ lb.all psane = true
      · exact prefix_yy w p q n c m d la lb mx ha hb hmx h1 h2 sa sb hmd
      · exact prefix_yn w p q n c m d la lb mx ha hb hmx h1 h2 sa sb hmd
    · by_cases sb : m ≤ 16 ∧ lb.all psane = true
      · exact prefix_ny w p q n c m d la lb mx ha hb hmx h1 h2 sa sb hmd
      · exact prefix_nn w p q n c m d la lb mx ha hb hmx h1 h2 sa sb hmd
  · exact prefix_out w p q n c m d la lb ha hb h
end Go.Proofs.YtebhbcbcnjdgjaaDoor.dk
