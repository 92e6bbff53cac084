/- Open, where it answers an error: both. -/
import Derived.Test.YticiaiiedagalaaPl30
import Derived.Test.YticiaiiedagalaaPl32
namespace Go.Proofs.Yticiaiiedagalaa.dk
open Go.PlainAid Go.ChangeShapes Go.WideShapes Go.ChangeAt Go.RowKit

theorem Open_arg {B D L N : Nat} {P : Value} {m : Dk} {w : World} (h : DiskAt B D L N P m w) (hd : m.dead = false) (frm n : Int) (hn1 : n < 1) :
    Calls Try.prog 13 #[.pointer (some ⟨D, 0, none⟩), .int .i64 frm, .int .i64 n] w fun e w' => e = .returned (.tuple #[.pointer none, .slice none 0 0, .int .i64 1]) ∧ w = w' := by
  have hD := Dead_any h
  rw [hd] at hD
  have HD := Lib.hid hD
  have d1 : decide (n < 1) = true := decide_eq_true hn1
  clear hD h
  go_enter Try.func13, Try.ntmps13
  go_wp2_with (go_at_call 34; with_reducible refine HD.out.mono ?_; rintro e w' ⟨rfl, rfl⟩)
  go_ret3
  exact ⟨rfl, rfl⟩
set_option maxHeartbeats 4000000 in
set_option maxRecDepth 100000 in
theorem Open_full {B D L N : Nat} {P : Value} {m : Dk} {w : World} (h : DiskAt B D L N P m w) (hd : m.dead = false) (hby : Bys m.now) (frm n : Nat) (hn1 : 1 ≤ n) (hn : frm + n ≤ m.n) (hs : sesOf m.now frm n = 4294967295) :
    Calls Try.prog 13 #[.pointer (some ⟨D, 0, none⟩), .int .i64 (frm : Int), .int .i64 (n : Int)] w fun e w' => e = .returned (.tuple #[.pointer none, .slice none 0 0, .int .i64 5]) ∧ Below w.heap.size w w' := by
  have hD := Dead_any h
  rw [hd] at hD
  have HD := Lib.hid hD
  have HSz := Lib.hid (Size_any h)
  have HRp := Lib.hid (readPart_ok h hd frm n hn hn1)
  have hn2 := h.n2
  have hmn : m.n ≤ 65536 := hn2
  have HBy := Lib.hid hby
  have d1 : decide ((n : Int) < 1) = false := decide_eq_false (by omega)
  have d2 : decide ((m.n : Int) < (n : Int)) = false := decide_eq_false (by omega)
  have d3 : decide ((frm : Int) < 0) = false := decide_eq_false (by omega)
  have d4 : decide ((m.n : Int) - (n : Int) < (frm : Int)) = false := decide_eq_false (by omega)
  clear hD h hby
  go_enter Try.func13, Try.ntmps13
  go_wp2_with (first | (go_at_call 34; with_reducible refine HD.out.mono ?_; rintro e w' ⟨rfl, rfl⟩) | (go_at_call 36; with_reducible refine HSz.out.mono ?_; rintro e w' ⟨rfl, rfl⟩))
  with_reducible refine HRp.out.mono ?_
  clear HRp
  rintro e w1 ⟨b, gs, rfl, hp, hb1⟩
  have HGs := Lib.hid (greatest_session hp (fun i l hl => ⟨(pcF_fact _ _ HBy.out i l hl).1, (pcF_fact _ _ HBy.out i l hl).2.1⟩) (by omega))
  have HSe : Hid (gr2 fS (pcF m.now frm) n = 4294967295) := hs
  rw [HSe.out] at HGs
  have HB1 := Lib.hid (hb1)
  clear hp hb1 HSe
  go_wp2_with fail
  with_reducible refine HGs.out.mono ?_
  rintro e w' ⟨rfl, rfl⟩
  go_wp2_with fail
  go_ret3
  exact ⟨rfl, HB1.out⟩
theorem rOpen_arg {B D : Nat} {S P : Value} {r : Rk} {w : World} (h : RefAt B D S P r w) (hd : r.gone = false) (frm n : Int) (hn1 : n < 1) :
    Calls Try.prog 14 #[.pointer (some ⟨D, 0, none⟩), .int .i64 frm, .int .i64 n] w fun e w' => e = .returned (.tuple #[.pointer none, .slice none 0 0, .int .i64 1]) ∧ w = w' := by
  have k3 := h.cell 3
  simp only [rcells] at k3
  simp at k3
  rw [hd] at k3
  have d1 : decide (n < 1) = true := decide_eq_true hn1
  clear h
  go_enter Try.func14, Try.ntmps14
  go_wp2_with fail
  go_ret3
  exact ⟨rfl, rfl⟩
end Go.Proofs.Yticiaiiedagalaa.dk
/- The document's Open: its sectors are read. -/
namespace Go.Proofs.Yticiaiiedagalaa.dk
open Go.PlainAid Go.ChangeShapes Go.WideShapes Go.ChangeAt Go.RowKit

theorem row_ne2 {W : World} {a b : Nat} {c d : Array Value} {s t : TypeId} {f f2 : Nat × Nat} (h1 : W.heap[a]? = some (.cells c s f)) (h2 : W.heap[b]? = some (.cells d t f2)) (ht : s ≠ t) : a ≠ b := by
  rintro rfl
  rw [h1] at h2
  injection h2 with h2
  injection h2 with _ h2 _
  exact ht h2
theorem rd_of_block {W W' : World} {q off n : Nat} {l : List Int} (h : Rd W (some ⟨q, off, none⟩) n l) (hb : W'.heap[q]? = W.heap[q]?) (hs : W.heap.size ≤ W'.heap.size) : Rd W' (some ⟨q, off, none⟩) n l := by
  refine ⟨h.1, fun h0 => ?_⟩
  obtain ⟨b, o, e, hl, hc⟩ := h.2 h0
  have hq : q = b := by injection e with e; injection e
  refine ⟨b, o, e, Nat.lt_of_lt_of_le hl hs, fun i hi => ?_⟩
  exact (World.cell?_of_block (a := ⟨b, o + i, none⟩) (by rw [← hq]; exact hb)).trans (hc i hi)
theorem SecAt.grow {w : World} {B b n cc : Nat} {po : Option Addr} {R : Nat → List Int} {vs : List Value} {q c : Nat} (h : SecAt B po n cc R vs w) (hc : 64 ≤ c) (hq : q < w.heap.size) (ht : ∃ cur fr, w.heap[q]? = some (.cells cur 5 fr)) (hr : Rd w (some ⟨q, 0, none⟩) 64 (R n)) (hn : w.cell? ⟨b, 0, none⟩ = some (.slice (some ⟨q, 0, none⟩) 64 c)) (hN : n ≤ 1000) (hB : B ≤ w.heap.size) :
    ∃ p2 c2 w', (Builtin.append_ #[33, 33] 33 #[.slice po n cc, .slice (some ⟨b, 0, none⟩) 1 1]).run Try.prog w = .ok (.slice p2 (n + 1) c2) w' ∧ SecAt B p2 (n + 1) c2 R (vs ++ [.slice (some ⟨q, 0, none⟩) 64 c]) w' ∧ Below B w w' ∧ Rd w' (some ⟨q, 0, none⟩) 64 (R n) ∧ w.heap.size ≤ w'.heap.size := by
  obtain ⟨i0, hi, hz0, hz1, hz2⟩ := info_parts infoBs
  obtain ⟨v', w', hru, h2, h3, _⟩ := run_append_own (P := Try.prog) w B 33 33 45 i0 _ 1 24 Try.underlying33 hi hz0 hz1 hz2 (by rfl) (by decide) (.slice po n cc) n vs h.own ⟨b, 0, none⟩ 1 1 [.slice (some ⟨q, 0, none⟩) 64 c] rfl
    (fun j u hj => by
      match j, hj with
      | 0, hj => cases hj; rw [add_off]; exact hn
      | j + 1, hj => cases hj) (fun u hu => by rw [List.mem_singleton.1 hu]; rfl) (by unfold maxLen; omega) (by omega) hB
  obtain ⟨p2, c2, rfl⟩ := owned_form h2
  have hb := (Below.refl B w).grown h3 hB (fun k hk => (h.own.lt k hk).1)
  have keep : ∀ q : Nat, (∃ cur fr, w.heap[q]? = some (.cells cur 5 fr)) → w'.heap[q]? = w.heap[q]? := fun q ⟨cur, fr, e⟩ => h3.block q (Array.getElem?_eq_some_iff.1 e).1 fun e2 => by
    obtain ⟨cur2, hc2⟩ := owned_type h.own e2.symm
    exact row_ne2 e hc2 (by decide) rfl
  have hvl : vs.length = n := by have := h.own.1; rw [Nat.mul_one] at this; exact this
  refine ⟨p2, c2, w', hru, ⟨h2, fun i hi => ?_⟩, hb, rd_of_block hr (keep q ht) hb.size, hb.size⟩
  by_cases hin : i < n
  · obtain ⟨q', c', e1, e2, e3, e4, e5⟩ := h.el i hin
    have hk := keep q' e4
    obtain ⟨cur, fr, e4⟩ := e4
    refine ⟨q', c', ?_, e2, Nat.lt_of_lt_of_le e3 hb.size, ⟨cur, fr, hk.trans e4⟩, rd_of_block e5 hk hb.size⟩
    rw [List.getElem?_append_left (by omega)]
    exact e1
  · obtain rfl : i = n := by omega
    have hk := keep q ht
    obtain ⟨cur, fr, e4⟩ := ht
    refine ⟨q, c, ?_, hc, Nat.lt_of_lt_of_le hq hb.size, ⟨cur, fr, hk.trans e4⟩, rd_of_block hr hk hb.size⟩
    rw [List.getElem?_append_right (by omega), hvl, Nat.sub_self]
    rfl
/-- What the document reads at the sectors of a part. -/
def rR (r : Rk) (frm i : Nat) : List Int := unstr (strOf (rat r.S r.P (frm + i)))
def rF (r : Rk) (frm i : Nat) : Option (List Int) := pcOf (rR r frm i)
set_option maxHeartbeats 8000000 in
set_option maxRecDepth 100000 in
theorem rOpen_full {B D : Nat} {S P : Value} {r : Rk} {w : World} (h : RefAt B D S P r w) (hd : r.gone = false) (frm n : Nat) (hn1 : 1 ≤ n) (hn : frm + n ≤ r.S.length) (hby : ∀ i, i < n → Bys (rR r frm i)) (hs : gr2 fS (rF r frm) n = 4294967295) :
    Calls Try.prog 14 #[.pointer (some ⟨D, 0, none⟩), .int .i64 (frm : Int), .int .i64 (n : Int)] w fun e w' => e = .returned (.tuple #[.pointer none, .slice none 0 0, .int .i64 5]) ∧ Below w.heap.size w w' := by
  have HSs := Lib.hid hs
  clear hs
  obtain ⟨sp, sc, rfl⟩ := own_form h.hS
  have k0 := h.cell 0
  have k3 := h.cell 3
  simp only [rcells] at k0 k3
  simp at k0 k3
  rw [hd] at k3
  have hn2 := h.n2
  have HH := Lib.hid h
  have HBy := Lib.hid hby
  have d1 : decide ((n : Int) < 1) = false := decide_eq_false (by omega)
  have d2 : decide ((frm : Int) < 0) = false := decide_eq_false (by omega)
  have d3 : decide ((r.S.length : Int) < (n : Int)) = false := decide_eq_false (by omega)
  have d3b : decide (r.S.length < n) = false := decide_eq_false (by omega)
  have ws : IntKind.i64.wrap ((r.S.length : Int) - (n : Int)) = (r.S.length : Int) - n := by rw [IntKind.wrap_i64]; omega
  have d4 : decide ((r.S.length : Int) - (n : Int) < (frm : Int)) = false := decide_eq_false (by omega)
  clear h hby
  go_enter Try.func14, Try.ntmps14
  go_wp2_with fail
  go_loopw [9, 10, 11, 12, 13] (fun v9 v10 v11 v12 v13 wr => ∃ (i : Nat) (p : Option Addr) (cc : Nat) (vs : List Value) (bb : Bool), v9 = .slice p i cc ∧ v10 = .bool bb ∧ v11 = .int .u32 (gr2 fS (rF r frm) i) ∧ v12 = .int .u32 (gr2 fN (rF r frm) i) ∧ v13 = .int .i64 (i : Int) ∧ i ≤ n ∧ (gr2 fS (rF r frm) i ≠ 0 → bb = true) ∧ Hid (SecAt w.heap.size p i cc (rR r frm) vs wr) ∧ Hid (Below w.heap.size w wr)) (fun _ _ _ _ v13 _ => n - (intOf v13).toNat)
  case atStart => exact ⟨0, none, 0, [], false, rfl, rfl, rfl, rfl, rfl, Nat.zero_le _, fun hh => absurd rfl hh, ⟨World.ownsRow_nil _ _ _ _, fun i hi => absurd hi (by omega)⟩, Below.refl _ _⟩
  case round =>
    obtain ⟨i, p, cc, vs, bb, rfl, rfl, rfl, rfl, rfl, hi, hbb, HS, HB⟩ := hrel
    by_cases hin : i < n
    · have dj : decide ((i : Int) < (n : Int)) = true := decide_eq_true (by omega)
      have wsum : IntKind.i64.wrap ((frm : Int) + (i : Int)) = (frm : Int) + (i : Int) := by rw [IntKind.wrap_i64]; omega
      have HRd := Lib.hid (rRead_ok (HH.out.below HB.out) hd (frm + i) (by omega))
      rw [show ((frm + i : Nat) : Int) = (frm : Int) + (i : Int) from Int.natCast_add frm i] at HRd
      go_wp2_with fail
      with_reducible refine HRd.out.mono ?_
      clear HRd
      rintro e w2 ⟨G, c, rfl, hrd, hb2, hc, hG, ht⟩
      have hbV : Below w2.heap.size w2 (w2.alloc (.cells #[.slice (some ⟨G, 0, none⟩) 64 c] 45)) := (Below.refl _ _).alloc (Nat.le_refl _) _
      have hGl : G < w2.heap.size := by obtain ⟨cur, fr, e4⟩ := ht; exact (Array.getElem?_eq_some_iff.1 e4).1
      have hsV := (HS.out.below hb2).below hbV
      have hB2 := HB.out.trans (hb2.mono HB.out.size)
      have hBV := hB2.trans (hbV.mono hB2.size)
      obtain ⟨p3, c3, w3, hru, hs3, hb3, hrd3, hsz3⟩ := hsV.grow (b := w2.heap.size) hc (Nat.lt_of_lt_of_le hGl hbV.size) (by obtain ⟨cur, fr, e4⟩ := ht; exact ⟨cur, fr, (hbV.block G hGl).trans e4⟩) (hrd.below hbV) (cell_of_row _ _ _ _ _ _ (heap_alloc_new _ _)) (by omega) hBV.size
      have HRr := Lib.hid (rread_any w3 G 0 c (rR r frm i) hrd3 (HBy.out i hin) hc (Nat.lt_of_lt_of_le (Nat.lt_of_lt_of_le hGl hbV.size) hsz3))
      have HRu := Lib.hid hru
      have HS3 := Lib.hid hs3
      have HB3 := Lib.hid (hBV.trans hb3)
      clear hrd hb2 hbV hsV hB2 hBV hru hs3 hb3 hrd3 hsz3 ht hG hGl HS HB
      have hgS := gr2_succ fS (rF r frm) i
      have hgN := gr2_succ fN (rF r frm) i
      have HgS := Lib.hid hgS
      have HgN := Lib.hid hgN
      clear hgS hgN
      by_cases hp : isP (rR r frm i) = true
      · have hFi : rF r frm i = some (rR r frm i) := by unfold rF pcOf; rw [if_pos hp]
        have hrv : rv (rR r frm i) G 0 c = .agg #[.int .u32 (fS (rR r frm i)), .int .u32 (fN (rR r frm i)), .int .i64 (fP (rR r frm i)), .int .i64 (fC (rR r frm i)), .slice (some ⟨G, 16, none⟩) (fB (rR r frm i)).length (c - 16)] := by unfold rv; rw [if_pos hp, Nat.zero_add]
        rw [hrv, hp] at HRr
        rw [hFi] at HgS HgN
        clear hFi hrv
        go_wp2_with (at_builtin; refine wpList_append_run rfl _ _ _ rfl _ _ _ _ rfl rfl HRu.out ?_)
        with_reducible refine HRr.out.mono ?_
        clear HRr
        rintro e w4 ⟨rfl, hb4⟩
        have HS4 := Lib.hid (HS3.out.below hb4)
        have HB4 := Lib.hid (HB3.out.trans (hb4.mono HB3.out.size))
        clear hb4
        go_wp2_with fail
        have hmS : Hid (gr2 fS (rF r frm) (i + 1) = max (gr2 fS (rF r frm) i) (fS (rR r frm i))) := HgS.out
        have hmN : Hid (gr2 fN (rF r frm) (i + 1) = max (gr2 fN (rF r frm) i) (fN (rR r frm i))) := HgN.out
        have hb5 := (Below.refl w4.heap.size w4).alloc (Nat.le_refl _) (.cells #[.int .u32 (fS (rR r frm i)), .int .u32 (fN (rR r frm i)), .int .i64 (fP (rR r frm i)), .int .i64 (fC (rR r frm i)), .slice (some ⟨G, 16, none⟩) (fB (rR r frm i)).length (c - 16)] 81)
        constructor
        · exact ⟨i + 1, p3, c3, _, true, rfl, rfl, by rw [hmS.out], by rw [hmN.out], by go_num, by omega, fun _ => rfl, HS4.out.below hb5, HB4.out.trans (hb5.mono HB4.out.size)⟩
        · show n - ((i : Int) + 1).toNat < n - (i : Int).toNat
          omega
      · have hpf : isP (rR r frm i) = false := by simpa using hp
        have hFi : rF r frm i = none := by unfold rF pcOf; rw [if_neg hp]
        have hrv : rv (rR r frm i) G 0 c = .agg #[.int .u32 0, .int .u32 0, .int .i64 0, .int .i64 0, .slice none 0 0] := by unfold rv; rw [if_neg hp]
        rw [hrv, hpf] at HRr
        rw [hFi] at HgS HgN
        clear hFi hrv
        go_wp2_with (at_builtin; refine wpList_append_run rfl _ _ _ rfl _ _ _ _ rfl rfl HRu.out ?_)
        with_reducible refine HRr.out.mono ?_
        clear HRr
        rintro e w4 ⟨rfl, hb4⟩
        have HS4 := Lib.hid (HS3.out.below hb4)
        have HB4 := Lib.hid (HB3.out.trans (hb4.mono HB3.out.size))
        clear hb4
        go_wp2_with fail
        have hmS : Hid (gr2 fS (rF r frm) (i + 1) = gr2 fS (rF r frm) i) := HgS.out
        have hmN : Hid (gr2 fN (rF r frm) (i + 1) = gr2 fN (rF r frm) i) := HgN.out
        have hb5 := (Below.refl w4.heap.size w4).alloc (Nat.le_refl _) (.cells #[.int .u32 0, .int .u32 0, .int .i64 0, .int .i64 0, .slice none 0 0] 81)
        constructor
        · exact ⟨i + 1, p3, c3, _, bb, rfl, rfl, by rw [hmS.out], by rw [hmN.out], by go_num, by omega, by rw [hmS.out]; exact hbb, HS4.out.below hb5, HB4.out.trans (hb5.mono HB4.out.size)⟩
        · show n - ((i : Int) + 1).toNat < n - (i : Int).toNat
          omega
    · have dj : decide ((i : Int) < (n : Int)) = false := decide_eq_false (by omega)
      obtain rfl : i = n := by omega
      have hbt : bb = true := hbb (by rw [HSs.out]; decide)
      subst hbt
      rw [HSs.out]
      go_wp2_with fail
      go_ret3
      exact ⟨rfl, HB.out⟩
end Go.Proofs.Yticiaiiedagalaa.dk
