/- A number's bytes: the document's answer. -/
import Derived.Test.YtebhbcbcnjdgjaaDoorCC
namespace Go.Proofs.YtebhbcbcnjdgjaaDoor.dk
open Go.PlainAid Go.ChangeShapes Go.WideShapes Go.ChangeAt Go.RowKit

/-- A list of bytes that grows, beside a row that stays. -/
structure GR (w : World) (R : Array Value) (T : TypeId) (L : List Int) (p : Option Addr) (c : Nat) (W : World) : Prop where
  own : W.ownsRow w.heap.size 5 1 (.slice p L.length c) L.length (bcells L)
  st : W.heap[w.heap.size]? = some (.cells R T (0, 0))
  b : Below w.heap.size w W
theorem GR.more {w : World} {R : Array Value} {T : TypeId} {L L' : List Int} {p p' : Option Addr} {c c' : Nat} {W W' : World} (h : GR w R T L p c W) (hT : T ≠ 5) (hg : Grew w.heap.size (.slice p L.length c) W p' c' L' W') : GR w R T L' p' c' W' := by
  have hst : W'.heap[w.heap.size]? = W.heap[w.heap.size]? := hg.fr _ (Array.getElem?_eq_some_iff.1 h.st).1 (fun e => by
    obtain ⟨cur, hc⟩ := owned_type h.own e
    exact row_ne hc h.st (Ne.symm hT) rfl)
  exact ⟨hg.own, hst.trans h.st, h.b.trans hg.b⟩
set_option maxHeartbeats 4000000 in
set_option maxRecDepth 100000 in
theorem size_any (w : World) (neg : Bool) (dg : ByteArray) (ex : Int) (h40 : dg.size ≤ 40) (hdig : ∀ x ∈ unstr dg, isDig x = true) (he0 : 0 ≤ (dg.size : Int) + ex + 1000) (he1 : (dg.size : Int) + ex + 1000 ≤ 65535) :
    Calls Tryd.prog 37 #[.agg #[.bool neg, .string dg, .int .i64 ex]] w (OPost w.heap.size w (nsize (unstr dg) ((dg.size : Int) + ex + 1000))) := by
  have hlen := unstr_length dg
  have w1 : IntKind.i64.wrap ((dg.size : Int) + ex) = (dg.size : Int) + ex := by rw [IntKind.wrap_i64]; omega
  have w2 : IntKind.i64.wrap ((dg.size : Int) + ex + 1000) = (dg.size : Int) + ex + 1000 := by rw [IntKind.wrap_i64]; omega
  have q1 : Int.tdiv ((dg.size : Int) + ex + 1000) 256 = ((dg.size : Int) + ex + 1000) / 256 := Int.tdiv_eq_ediv_of_nonneg he0
  have q2 : Int.tmod ((dg.size : Int) + ex + 1000) 256 = ((dg.size : Int) + ex + 1000) % 256 := Int.tmod_eq_emod_of_nonneg he0
  have w3 : IntKind.u8.wrap (((dg.size : Int) + ex + 1000) / 256) = ((dg.size : Int) + ex + 1000) / 256 := by rw [IntKind.wrap_u8]; omega
  have w4 : IntKind.u8.wrap (((dg.size : Int) + ex + 1000) % 256) = ((dg.size : Int) + ex + 1000) % 256 := by rw [IntKind.wrap_u8]; omega
  obtain ⟨V, hV⟩ : ∃ V, V = (w.alloc (.cells #[.bool neg, .string dg, .int .i64 ex] 25)).alloc (.cells #[.int .u8 (((dg.size : Int) + ex + 1000) / 256), .int .u8 (((dg.size : Int) + ex + 1000) % 256)] 5) := ⟨_, rfl⟩
  have hr2 := two_rows w (.cells #[.bool neg, .string dg, .int .i64 ex] 25) (.cells #[.int .u8 (((dg.size : Int) + ex + 1000) / 256), .int .u8 (((dg.size : Int) + ex + 1000) % 256)] 5)
  have hb2 := two_below w (.cells #[.bool neg, .string dg, .int .i64 ex] 25) (.cells #[.int .u8 (((dg.size : Int) + ex + 1000) / 256), .int .u8 (((dg.size : Int) + ex + 1000) % 256)] 5)
  rw [← hV] at hr2 hb2
  have hrow : RowB (w.heap.size + 1) (nsz (unstr dg) ((dg.size : Int) + ex + 1000) 0) V := hr2.2
  have hG : GR w #[.bool neg, .string dg, .int .i64 ex] 25 (nsz (unstr dg) ((dg.size : Int) + ex + 1000) 0) (some ⟨w.heap.size + 1, 0, none⟩) 2 V :=
    ⟨row_owned (k := 2) hrow (nsz_len _ _ 0 (Nat.zero_le _)) (by omega) (by omega), hr2.1, hb2⟩
  have HG := Lib.hid hG
  have HV := Lib.hid hV
  have HD := Lib.hid hdig
  have HL := Lib.hid hlen
  have HBy := Lib.hid (byte_at dg)
  clear hV hr2 hb2 hrow hG hdig hlen
  go_enter Tryd.func37, Tryd.ntmps37
  go_wp2_with fail
  rw [← HV.out]
  clear w1 w2 w3 w4 q1 q2 HV
  generalize hhi : ((dg.size : Nat) : Int) + ex + 1000 = hi at HG he0 he1 ⊢
  have HHi := Lib.hid hhi
  clear hhi
  go_loopw [4, 5] (fun v4 v5 wr => ∃ (j : Nat) (p2 : Option Addr) (c2 : Nat), v4 = .slice p2 (nsz (unstr dg) hi j).length c2 ∧ v5 = .int .i64 (j : Int) ∧ j ≤ dg.size ∧ Hid (GR w #[.bool neg, .string dg, .int .i64 ex] 25 (nsz (unstr dg) hi j) p2 c2 wr)) (fun _ v5 _ => dg.size - (intOf v5).toNat)
  case atStart => exact ⟨0, some ⟨w.heap.size + 1, 0, none⟩, 2, by rw [nsz_len _ _ 0 (Nat.zero_le _)], rfl, Nat.zero_le _, HG⟩
  case round =>
    clear HG
    obtain ⟨j, p2, c2, rfl, rfl, hj, HN⟩ := hrel
    have hL := HL.out
    have k1 := cell_of_row _ _ 1 _ _ _ HN.out.st
    simp at k1
    by_cases hjn : j < dg.size
    · have dj : decide ((j : Int) < (dg.size : Int)) = true := decide_eq_true (by omega)
      have djn : decide (j < dg.size) = true := decide_eq_true hjn
      have hx : 48 ≤ (unstr dg).getD j 0 ∧ (unstr dg).getD j 0 ≤ 57 := by
        have := HD.out ((unstr dg).getD j 0) (by rw [List.getD_eq_getElem?_getD, List.getElem?_eq_getElem (by omega)]; exact List.getElem_mem _)
        unfold isDig at this
        simp only [Bool.and_eq_true, decide_eq_true_eq] at this
        exact this
      obtain ⟨p3, c3, w3, hru, hgr⟩ := append_one ((unstr dg).getD j 0 - 48 + 1) HN.out.own (by rw [nsz_len _ _ j (by omega)]; omega) HN.out.b.size
      rw [nsz_succ _ _ _ (by omega)] at hru hgr
      rw [← HBy.out j hjn] at hx hru
      have HN2 := Lib.hid (HN.out.more (by decide) hgr)
      have HRu := Lib.hid hru
      clear hgr hru HN
      have wu1 : IntKind.u8.wrap (((dg[j].toNat : Nat) : Int) - 48) = ((dg[j].toNat : Nat) : Int) - 48 := by rw [IntKind.wrap_u8]; omega
      have wu2 : IntKind.u8.wrap (((dg[j].toNat : Nat) : Int) - 48 + 1) = ((dg[j].toNat : Nat) : Int) - 48 + 1 := by rw [IntKind.wrap_u8]; omega
      generalize (nsz (unstr dg) hi j).length = n1 at HRu ⊢
      generalize hn2 : (nsz (unstr dg) hi (j + 1)).length = n2 at HRu
      have Hn2 := Lib.hid hn2
      clear hn2 hx
      go_wp2_with (at_builtin; refine wpList_append_run rfl _ _ _ rfl _ _ _ _ rfl rfl HRu.out ?_; clear HRu)
      exact ⟨⟨j + 1, p3, c3, by rw [Hn2.out], by go_num, by omega, HN2⟩, by show dg.size - ((j : Int) + 1).toNat < dg.size - (j : Int).toNat; omega⟩
    · have dj : decide ((j : Int) < (dg.size : Int)) = false := decide_eq_false (by omega)
      have djn : decide (j < dg.size) = false := decide_eq_false hjn
      obtain rfl : j = (unstr dg).length := by omega
      obtain ⟨p3, c3, w3, hru, hgr⟩ := append_one 0 HN.out.own (by rw [nsz_len _ _ _ (Nat.le_refl _)]; omega) HN.out.b.size
      have hN3 := HN.out.more (by decide) hgr
      have es : nsz (unstr dg) hi (unstr dg).length ++ [0] = nsize (unstr dg) hi := rfl
      rw [es] at hru hN3
      have HRu := Lib.hid hru
      have HN3 := Lib.hid hN3
      clear hgr hru HN hN3 es
      generalize hS : nsize (unstr dg) hi = S at HRu HN3
      generalize (nsz (unstr dg) hi (unstr dg).length).length = n1 at HRu ⊢
      have HS := Lib.hid hS
      clear hS
      generalize hn2 : S.length = n2 at HRu
      have Hn2 := Lib.hid hn2
      clear hn2
      go_wp2_with (at_builtin; refine wpList_append_run rfl _ _ _ rfl _ _ _ _ rfl rfl HRu.out ?_; clear HRu)
      go_ret
      rw [HHi.out, HS.out]
      exact ⟨p3, c3, by rw [Hn2.out]; rfl, HN3.out.own, HN3.out.b⟩
end Go.Proofs.YtebhbcbcnjdgjaaDoor.dk
/- A part's bytes: the document's answer. -/
namespace Go.Proofs.YtebhbcbcnjdgjaaDoor.dk
open Go.PlainAid Go.ChangeShapes Go.WideShapes Go.ChangeAt Go.RowKit

theorem lit_post (w : World) (A : Array Value) (T : TypeId) (xs : List Int) (k : Nat) (hk : xs.length = k) (h : k ≤ 1000) : OPost w.heap.size w xs (.returned (.slice (some ⟨w.heap.size + 1, 0, none⟩) k k)) ((w.alloc (.cells A T)).alloc (.cells (bcells xs).toArray 5)) := by
  have hr2 := two_rows w (.cells A T) (.cells (bcells xs).toArray 5)
  refine ⟨some ⟨w.heap.size + 1, 0, none⟩, k, by rw [hk], row_owned (k := k) hr2.2 hk (by omega) (by omega), two_below _ _ _⟩
set_option maxHeartbeats 4000000 in
set_option maxRecDepth 100000 in
theorem one_null (w : World) :
    Calls Tryd.prog 26 #[.agg #[.int .i64 0, .bool false, .bool false, .string ⟨#[]⟩, .int .i64 0, .string ⟨#[]⟩, .int .i64 0]] w (OPost w.heap.size w [16]) := by
  go_enter Tryd.func26, Tryd.ntmps26
  go_wp2_with fail
  go_ret
  exact lit_post w _ _ [16] 1 rfl (by decide)
set_option maxHeartbeats 4000000 in
set_option maxRecDepth 100000 in
theorem one_bool (w : World) (b : Bool) :
    Calls Tryd.prog 26 #[.agg #[.int .i64 1, .bool b, .bool false, .string ⟨#[]⟩, .int .i64 0, .string ⟨#[]⟩, .int .i64 0]] w (OPost w.heap.size w [if b = true then 33 else 32]) := by
  cases b with
  | true =>
    go_enter Tryd.func26, Tryd.ntmps26
    go_wp2_with fail
    go_ret
    exact lit_post w _ _ [33] 1 rfl (by decide)
  | false =>
    go_enter Tryd.func26, Tryd.ntmps26
    go_wp2_with fail
    go_ret
    exact lit_post w _ _ [32] 1 rfl (by decide)
set_option maxHeartbeats 4000000 in
set_option maxRecDepth 100000 in
theorem one_zero (w : World) :
    Calls Tryd.prog 26 #[.agg #[.int .i64 2, .bool false, .bool false, .string ⟨#[]⟩, .int .i64 0, .string ⟨#[]⟩, .int .i64 0]] w (OPost w.heap.size w [49]) := by
  go_enter Tryd.func26, Tryd.ntmps26
  go_wp2_with fail
  go_ret
  exact lit_post w _ _ [49] 1 rfl (by decide)
set_option maxHeartbeats 4000000 in
set_option maxRecDepth 100000 in
theorem one_whole (w : World) (i : Int) (h0 : 0 ≤ i) (h1 : i ≤ 4294967295) :
    Calls Tryd.prog 26 #[.agg #[.int .i64 9, .bool false, .bool false, .string ⟨#[]⟩, .int .i64 0, .string ⟨#[]⟩, .int .i64 i]] w (OPost w.heap.size w [80, i / 16777216, i / 65536 % 256, i / 256 % 256, i % 256]) := by
  go_enter Tryd.func26, Tryd.ntmps26
  go_wp2_with fail
  go_ret
  exact lit_post w _ _ [80, i / 16777216, i / 65536 % 256, i / 256 % 256, i % 256] 5 rfl (by decide)
theorem esc_snoc (l : List Int) (j : Nat) (h : j < l.length) : esc (l.take (j + 1)) = esc (l.take j) ++ (if l.getD j 0 = 0 then [0, 255] else [l.getD j 0]) := by
  unfold esc
  rw [List.take_succ_eq_append_getElem h, List.flatMap_append, List.getD_eq_getElem?_getD, List.getElem?_eq_getElem h]
  simp
theorem esc_short (l : List Int) : (esc l).length ≤ 2 * l.length := by
  induction l with
  | nil => simp [esc]
  | cons c l ih => rw [esc_cons, List.length_append, List.length_cons]; split <;> simp <;> omega
set_option maxHeartbeats 4000000 in
set_option maxRecDepth 100000 in
theorem one_text (w : World) (s : ByteArray) (hs : s.size ≤ 100000) :
    Calls Tryd.prog 26 #[.agg #[.int .i64 3, .bool false, .bool false, .string ⟨#[]⟩, .int .i64 0, .string s, .int .i64 0]] w (OPost w.heap.size w (64 :: (esc (unstr s) ++ [0, 0]))) := by
  have hlen := unstr_length s
  have hsh := fun j => esc_short ((unstr s).take j)
  obtain ⟨V, hV⟩ : ∃ V, V = (w.alloc (.cells #[.int .i64 3, .bool false, .bool false, .string ⟨#[]⟩, .int .i64 0, .string s, .int .i64 0] 46)).alloc (.cells #[.int .u8 64] 5) := ⟨_, rfl⟩
  have hr2 := two_rows w (.cells #[.int .i64 3, .bool false, .bool false, .string ⟨#[]⟩, .int .i64 0, .string s, .int .i64 0] 46) (.cells #[.int .u8 64] 5)
  have hb2 := two_below w (.cells #[.int .i64 3, .bool false, .bool false, .string ⟨#[]⟩, .int .i64 0, .string s, .int .i64 0] 46) (.cells #[.int .u8 64] 5)
  rw [← hV] at hr2 hb2
  have hG : GR w #[.int .i64 3, .bool false, .bool false, .string ⟨#[]⟩, .int .i64 0, .string s, .int .i64 0] 46 (64 :: esc ((unstr s).take 0)) (some ⟨w.heap.size + 1, 0, none⟩) 1 V :=
    ⟨row_owned (k := 1) (l := [64]) hr2.2 rfl (by omega) (by omega), hr2.1, hb2⟩
  have HG := Lib.hid hG
  have HV := Lib.hid hV
  have HL := Lib.hid hlen
  have HSh := Lib.hid hsh
  have HBy := Lib.hid (byte_at s)
  clear hV hr2 hb2 hG hlen hsh
  go_enter Tryd.func26, Tryd.ntmps26
  go_wp2_with fail
  rw [← HV.out]
  clear HV
  go_loopw [6, 7] (fun v6 v7 wr => ∃ (j : Nat) (p2 : Option Addr) (c2 : Nat), v6 = .slice p2 (64 :: esc ((unstr s).take j)).length c2 ∧ v7 = .int .i64 (j : Int) ∧ j ≤ s.size ∧ Hid (GR w #[.int .i64 3, .bool false, .bool false, .string ⟨#[]⟩, .int .i64 0, .string s, .int .i64 0] 46 (64 :: esc ((unstr s).take j)) p2 c2 wr)) (fun _ v7 _ => s.size - (intOf v7).toNat)
  case atStart => exact ⟨0, some ⟨w.heap.size + 1, 0, none⟩, 1, rfl, rfl, Nat.zero_le _, HG⟩
  case round =>
    clear HG
    obtain ⟨j, p2, c2, rfl, rfl, hj, HN⟩ := hrel
    have hL := HL.out
    have k5 := cell_of_row _ _ 5 _ _ _ HN.out.st
    simp at k5
    have hlj : (64 :: esc ((unstr s).take j)).length ≤ 300000 := by
      have := HSh.out j
      rw [List.length_take] at this
      rw [List.length_cons]
      omega
    by_cases hjn : j < s.size
    · have dj : decide ((j : Int) < (s.size : Int)) = true := decide_eq_true (by omega)
      have djn : decide (j < s.size) = true := decide_eq_true hjn
      have hes := esc_snoc (unstr s) j (by omega)
      rw [← HBy.out j hjn] at hes
      by_cases hc : ((s[j].toNat : Nat) : Int) = 0
      · have dc : (((s[j].toNat : Nat) : Int) == 0) = true := beq_iff_eq.2 hc
        rw [if_pos hc] at hes
        obtain ⟨p3, c3, w3, hru, hgr⟩ := append_one ((s[j].toNat : Nat) : Int) HN.out.own (by omega) HN.out.b.size
        have hN3 := HN.out.more (by decide) hgr
        have k5' := cell_of_row _ _ 5 _ _ _ hN3.st
        simp at k5'
        obtain ⟨p4, c4, w4, hru4, hgr4⟩ := append_one 255 hN3.own (by rw [List.length_append]; simp at hlj ⊢; omega) hN3.b.size
        have hN4 := hN3.more (by decide) hgr4
        rw [show (64 :: esc ((unstr s).take j)) ++ [((s[j].toNat : Nat) : Int)] ++ [255] = 64 :: esc ((unstr s).take (j + 1)) by rw [hes, hc]; simp] at hru4 hN4
        have HN4 := Lib.hid hN4
        have HR3 := Lib.hid hru
        have HR4 := Lib.hid hru4
        clear hgr hgr4 hru hru4 hN3 hN4 HN hes hlj
        generalize (64 :: esc ((unstr s).take j)).length = n1 at HR3 ⊢
        generalize ((64 :: esc ((unstr s).take j)) ++ [((s[j].toNat : Nat) : Int)]).length = n3 at HR3 HR4
        generalize hn4 : (64 :: esc ((unstr s).take (j + 1))).length = n4 at HR4
        have Hn4 := Lib.hid hn4
        clear hn4 hc
        go_wp2_with (first | (at_builtin; refine wpList_append_run rfl _ _ _ rfl _ _ _ _ rfl rfl HR3.out ?_; clear HR3) | (at_builtin; refine wpList_append_run rfl _ _ _ rfl _ _ _ _ rfl rfl HR4.out ?_; clear HR4))
        exact ⟨⟨j + 1, p4, c4, by rw [Hn4.out], by go_num, by omega, HN4⟩, by show s.size - ((j : Int) + 1).toNat < s.size - (j : Int).toNat; omega⟩
      · have dc : (((s[j].toNat : Nat) : Int) == 0) = false := beq_eq_false_iff_ne.2 hc
        rw [if_neg hc] at hes
        obtain ⟨p3, c3, w3, hru, hgr⟩ := append_one ((s[j].toNat : Nat) : Int) HN.out.own (by omega) HN.out.b.size
        have hN3 := HN.out.more (by decide) hgr
        have k5' := cell_of_row _ _ 5 _ _ _ hN3.st
        simp at k5'
        rw [show (64 :: esc ((unstr s).take j)) ++ [((s[j].toNat : Nat) : Int)] = 64 :: esc ((unstr s).take (j + 1)) by rw [hes]; simp] at hru hN3
        have HN4 := Lib.hid hN3
        have HR3 := Lib.hid hru
        clear hgr hru hN3 HN hes hlj
        generalize (64 :: esc ((unstr s).take j)).length = n1 at HR3 ⊢
        generalize hn4 : (64 :: esc ((unstr s).take (j + 1))).length = n4 at HR3
        have Hn4 := Lib.hid hn4
        clear hn4 hc
        go_wp2_with (at_builtin; refine wpList_append_run rfl _ _ _ rfl _ _ _ _ rfl rfl HR3.out ?_; clear HR3)
        exact ⟨⟨j + 1, p3, c3, by rw [Hn4.out], by go_num, by omega, HN4⟩, by show s.size - ((j : Int) + 1).toNat < s.size - (j : Int).toNat; omega⟩
    · have dj : decide ((j : Int) < (s.size : Int)) = false := decide_eq_false (by omega)
      have djn : decide (j < s.size) = false := decide_eq_false hjn
      obtain rfl : j = s.size := by omega
      have et : (unstr s).take s.size = unstr s := by rw [← hL, List.take_length]
      rw [et] at HN hlj ⊢
      obtain ⟨p3, c3, w3, hru, hgr⟩ := append_lit [0, 0] (by simp) (by simp) HN.out.own (by omega) HN.out.b.size
      have hN3 := HN.out.more (by decide) hgr
      rw [show (64 :: esc (unstr s)) ++ [0, 0] = 64 :: (esc (unstr s) ++ [0, 0]) from rfl] at hru hN3
      have HRu := Lib.hid hru
      have HN3 := Lib.hid hN3
      clear hgr hru HN hN3 et hlj
      generalize (64 :: esc (unstr s)).length = n1 at HRu ⊢
      generalize hS : 64 :: (esc (unstr s) ++ [0, 0]) = S at HRu HN3
      have HS := Lib.hid hS
      clear hS
      generalize hn2 : S.length = n2 at HRu
      have Hn2 := Lib.hid hn2
      clear hn2
      go_wp2_with (at_builtin; refine wpList_append_run rfl _ _ _ rfl _ _ _ _ rfl rfl HRu.out ?_; clear HRu)
      go_ret
      rw [HS.out]
      exact ⟨p3, c3, by rw [Hn2.out]; rfl, HN3.out.own, HN3.out.b⟩
end Go.Proofs.YtebhbcbcnjdgjaaDoor.dk
/- A number's bytes, with its sign; any part's: the document's answer. -/
namespace Go.Proofs.YtebhbcbcnjdgjaaDoor.dk
open Go.PlainAid Go.ChangeShapes Go.WideShapes Go.ChangeAt Go.RowKit

/-- Two lists of bytes, the first of which grows, beside a row that stays. -/
structure OL (w : World) (R : Array Value) (T : TypeId) (gs cs : Nat) (L : List Int) (p : Option Addr) (c : Nat) (S : List Int) (W : World) : Prop where
  own : W.ownsRow w.heap.size 5 1 (.slice p L.length c) L.length (bcells L)
  s : W.ownsRow w.heap.size 5 1 (.slice (some ⟨gs, 0, none⟩) S.length cs) S.length (bcells S)
  ne : (Value.slice p L.length c).ownBlock ≠ some gs
  st : W.heap[w.heap.size]? = some (.cells R T (0, 0))
  b : Below w.heap.size w W
theorem OL.more {w : World} {R : Array Value} {T : TypeId} {gs cs : Nat} {L L' S : List Int} {p p' : Option Addr} {c c' : Nat} {W W' : World} (h : OL w R T gs cs L p c S W) (hT : T ≠ 5) (hg : Grew w.heap.size (.slice p L.length c) W p' c' L' W') : OL w R T gs cs L' p' c' S W' := by
  have hst : W'.heap[w.heap.size]? = W.heap[w.heap.size]? := hg.fr _ (Array.getElem?_eq_some_iff.1 h.st).1 (fun e => by
    obtain ⟨cur, hc⟩ := owned_type h.own e
    exact row_ne hc h.st (Ne.symm hT) rfl)
  have hgs := (h.s.lt gs rfl).2
  refine ⟨hg.own, owned_keeps h.s fun k hk => ?_, fun e => ?_, hst.trans h.st, h.b.trans hg.b⟩
  · injection hk with hk
    subst hk
    exact hg.fr _ hgs h.ne
  · rcases hg.wh with h1 | ⟨g, h1, h2⟩
    · exact h.ne (h1.symm.trans e)
    · rw [h2] at e
      injection e with e
      omega
theorem OL.setOut {w : World} {R : Array Value} {T : TypeId} {gs cs go c : Nat} {L S : List Int} {W : World} (h : OL w R T gs cs L (some ⟨go, 0, none⟩) c S W) (hT : T ≠ 5) (i : Nat) (x : Int) : OL w R T gs cs (L.set i x) (some ⟨go, 0, none⟩) c S (W.setCell ⟨go, i, none⟩ (.int .u8 x)) := by
  obtain ⟨s1, s2, s3, s4⟩ := own_set h.own i (.int .u8 x)
  rw [bcells_set] at s1
  have hgo : gs ≠ go := fun e => h.ne (by rw [e]; rfl)
  have hw : w.heap.size ≠ go := fun e => by
    obtain ⟨cur, hc⟩ := owned_type h.own (g := go) rfl
    exact row_ne hc h.st (Ne.symm hT) e.symm
  refine ⟨by rw [List.length_set]; exact s1, owned_keeps h.s fun k hk => ?_, by rw [List.length_set]; exact h.ne, (s3 _ hw).trans h.st, h.b.trans s4⟩
  injection hk with hk
  subst hk
  exact s3 _ hgo
theorem OL.setS {w : World} {R : Array Value} {T : TypeId} {gs cs go c : Nat} {L S : List Int} {W : World} (h : OL w R T gs cs L (some ⟨go, 0, none⟩) c S W) (hT : T ≠ 5) (i : Nat) (x : Int) : OL w R T gs cs L (some ⟨go, 0, none⟩) c (S.set i x) (W.setCell ⟨gs, i, none⟩ (.int .u8 x)) := by
  obtain ⟨s1, s2, s3, s4⟩ := own_set h.s i (.int .u8 x)
  rw [bcells_set] at s1
  have hgo : go ≠ gs := fun e => h.ne (by rw [e]; rfl)
  have hw : w.heap.size ≠ gs := fun e => by
    obtain ⟨cur, hc⟩ := owned_type h.s (g := gs) rfl
    exact row_ne hc h.st (Ne.symm hT) e.symm
  refine ⟨owned_keeps h.own fun k hk => ?_, by rw [List.length_set]; exact s1, h.ne, (s3 _ hw).trans h.st, h.b.trans s4⟩
  injection hk with hk
  subst hk
  exact s3 _ hgo
/-- What is written when j of the bytes have been. -/
def outN (neg : Bool) (S : List Int) (j : Nat) : List Int := if neg = true then (if j = 0 then 50 else 48) :: (flipb S).take j else 50 :: S.take j
def sN (neg : Bool) (S : List Int) (j : Nat) : List Int := if neg = true then flk S j else S
theorem outN_len (neg : Bool) (S : List Int) (j : Nat) (h : j ≤ S.length) : (outN neg S j).length = j + 1 := by
  unfold outN
  split
  · rw [List.length_cons, List.length_take, flipb_len]; omega
  · rw [List.length_cons, List.length_take]; omega
theorem sN_len (neg : Bool) (S : List Int) (j : Nat) : (sN neg S j).length = S.length := by
  unfold sN
  split
  · exact flk_len S j
  · rfl
theorem outN_next (S : List Int) (j : Nat) (h : j < S.length) : (outN true S j).set 0 48 ++ [255 - S.getD j 0] = outN true S (j + 1) := by
  unfold outN
  rw [if_pos rfl, if_pos rfl, List.set_cons_zero, if_neg (by omega), List.cons_append, List.take_succ_eq_append_getElem (by rw [flipb_len]; exact h)]
  congr 2
  unfold flipb
  rw [List.getElem_map, List.getD_eq_getElem?_getD, List.getElem?_eq_getElem h]
  rfl
theorem outN_plain (S : List Int) (j : Nat) (h : j < S.length) : outN false S j ++ [S.getD j 0] = outN false S (j + 1) := by
  unfold outN
  rw [if_neg (by decide), if_neg (by decide), List.cons_append, List.take_succ_eq_append_getElem h, List.getD_eq_getElem?_getD, List.getElem?_eq_getElem h]
  rfl
theorem outN_end (neg : Bool) (D : List Int) (h : Int) : outN neg (nsize D h) (nsize D h).length = nbytes neg D h := by
  unfold outN nbytes
  cases neg with
  | true =>
    rw [if_pos rfl, if_pos rfl, if_neg (by rw [nsize_len]; omega), List.take_of_length_le (by rw [flipb_len]; exact Nat.le_refl _)]
    rfl
  | false =>
    rw [if_neg (by decide), if_neg (by decide), List.take_length]
    rfl
theorem setCell_size' (w : World) (a : Addr) (v : Value) : (w.setCell a v).heap.size = w.heap.size := by
  show (w.heap.modify _ _).size = _
  rw [Array.size_modify]
set_option maxHeartbeats 4000000 in
set_option maxRecDepth 100000 in
theorem one_num_true (w : World) (dg : ByteArray) (ex : Int) (h0 : dg.size ≠ 0) (h40 : dg.size ≤ 40) (hdig : ∀ x ∈ unstr dg, isDig x = true) (he0 : 0 ≤ (dg.size : Int) + ex + 1000) (he1 : (dg.size : Int) + ex + 1000 ≤ 65535) :
    Calls Tryd.prog 26 #[.agg #[.int .i64 2, .bool false, .bool true, .string dg, .int .i64 ex, .string ⟨#[]⟩, .int .i64 0]] w (OPost w.heap.size w (nbytes true (unstr dg) ((dg.size : Int) + ex + 1000))) := by
  have hlen := unstr_length dg
  obtain ⟨V, hV⟩ : ∃ V, V = (w.alloc (.cells #[.int .i64 2, .bool false, .bool true, .string dg, .int .i64 ex, .string ⟨#[]⟩, .int .i64 0] 46)).alloc (.cells #[.int .u8 50] 5) := ⟨_, rfl⟩
  have hr2 := two_rows w (.cells #[.int .i64 2, .bool false, .bool true, .string dg, .int .i64 ex, .string ⟨#[]⟩, .int .i64 0] 46) (.cells #[.int .u8 50] 5)
  have hb2 := two_below w (.cells #[.int .i64 2, .bool false, .bool true, .string dg, .int .i64 ex, .string ⟨#[]⟩, .int .i64 0] 46) (.cells #[.int .u8 50] 5)
  have hsV : V.heap.size = w.heap.size + 2 := by rw [hV, box_size, box_size]
  rw [← hV] at hr2 hb2
  have hown0 : V.ownsRow w.heap.size 5 1 (.slice (some ⟨w.heap.size + 1, 0, none⟩) 1 1) 1 (bcells [50]) := row_owned (k := 1) (l := [50]) hr2.2 rfl (by omega) (by omega)
  have dz : (((dg.size : Nat) : Int) == 0) = false := beq_eq_false_iff_ne.2 (by omega)
  have dzn : (dg.size == 0) = false := beq_eq_false_iff_ne.2 h0
  have HZ := Lib.hid (size_any V true dg ex h40 hdig he0 he1)
  have hr21 := hr2.1
  have k2 := cell_of_row _ _ 2 _ _ _ hr21
  have k3 := cell_of_row _ _ 3 _ _ _ hr21
  have k4 := cell_of_row _ _ 4 _ _ _ hr21
  simp at k2 k3 k4
  have hby := nsize_bys hdig _ he0 he1
  have hnl := nsize_len (unstr dg) ((dg.size : Int) + ex + 1000)
  have hend := outN_end true (unstr dg) ((dg.size : Int) + ex + 1000)
  generalize nsize (unstr dg) ((dg.size : Int) + ex + 1000) = S at HZ hby hnl hend
  rw [← hend]
  have HO := Lib.hid hown0
  have HR1 := Lib.hid hr21
  have HB2 := Lib.hid hb2
  have HV := Lib.hid hV
  have HSV := Lib.hid hsV
  have HBy := Lib.hid hby
  clear hown0 hr2 hr21 hb2 hV hsV hby hdig hend
  go_enter Tryd.func26, Tryd.ntmps26
  go_wp2_with fail
  rw [← HV.out]
  with_reducible refine HZ.out.mono ?_
  clear HZ
  rintro e w2 ⟨p4, cs, rfl, ho4, hb4⟩
  obtain ⟨gs, rfl⟩ : ∃ g, p4 = some ⟨g, 0, none⟩ := by
    rcases ho4.2 with ⟨hv, h⟩ | ⟨g, cap, cur, hv, _⟩
    · omega
    · injection hv with h1
      exact ⟨g, h1⟩
  have hgs := (ho4.lt gs rfl).1
  have hOL : OL w #[.int .i64 2, .bool false, .bool true, .string dg, .int .i64 ex, .string ⟨#[]⟩, .int .i64 0] 46 gs cs (outN true S 0) (some ⟨w.heap.size + 1, 0, none⟩) 1 (sN true S 0) w2 := by
    have hb4w := hb4.mono (B' := w.heap.size) (by have := HSV.out; omega)
    refine ⟨owned_keeps HO.out fun k hk => ?_, owned_base ho4 (by have := HSV.out; omega), fun e => ?_, ?_, HB2.out.trans hb4w⟩
    · injection hk with hk
      subst hk
      exact hb4.block _ (by have := HSV.out; show w.heap.size + 1 < _; omega)
    · have e2 : w.heap.size + 1 = gs := Option.some.inj e
      have := HSV.out
      omega
    · exact (hb4.block _ (by have := HSV.out; omega)).trans HR1.out
  have hcsl : S.length ≤ cs := by
    rcases ho4.2 with ⟨hv, h⟩ | ⟨g, cap, cur, hv, _, _, h, _⟩
    · omega
    · injection hv with _ _ h3
      omega
  have HCs := Lib.hid hcsl
  clear hcsl
  have HI0 := Lib.hid hOL
  clear hOL ho4 hb4 HO HR1 HB2 k2 k3 k4 hgs
  have hcs : S.length ≤ 100 := by omega
  go_wp2_with fail
  go_loopw [3, 5] (fun v3 v5 wr => ∃ (j : Nat) (p2 : Option Addr) (c2 : Nat), v3 = .slice p2 (outN true S j).length c2 ∧ v5 = .int .i64 (j : Int) ∧ j ≤ S.length ∧ Hid (OL w #[.int .i64 2, .bool false, .bool true, .string dg, .int .i64 ex, .string ⟨#[]⟩, .int .i64 0] 46 gs cs (outN true S j) p2 c2 (sN true S j) wr)) (fun _ v5 _ => S.length - (intOf v5).toNat)
  case atStart => exact ⟨0, some ⟨w.heap.size + 1, 0, none⟩, 1, rfl, rfl, Nat.zero_le _, HI0⟩
  case round =>
    clear HI0
    obtain ⟨j, p2, c2, rfl, rfl, hj, HN⟩ := hrel
    have k2 := cell_of_row _ _ 2 _ _ _ HN.out.st
    simp at k2
    have hol := outN_len true S j hj
    obtain ⟨go, rfl⟩ : ∃ g, p2 = some ⟨g, 0, none⟩ := by
      rcases HN.out.own.2 with ⟨hv, h⟩ | ⟨g, cap, cur, hv, _⟩
      · omega
      · injection hv with h1
        exact ⟨g, h1⟩
    by_cases hjn : j < S.length
    · have dj : decide ((j : Int) < (S.length : Int)) = true := decide_eq_true (by omega)
      have djn : decide (j < S.length) = true := decide_eq_true hjn
      have hx : 0 ≤ S.getD j 0 ∧ S.getD j 0 ≤ 255 := bys_at HBy.out hjn
      have hsl := sN_len true S j
      have c0 := (owned_rd HN.out.s).cell j (by omega)
      rw [Nat.zero_add] at c0
      rw [show (sN true S j).getD j 0 = S.getD j 0 from flk_at S j hjn] at c0
      have hne : go ≠ gs := fun e => HN.out.ne (by rw [e]; rfl)
      have hne2 : gs ≠ go := Ne.symm hne
      have g0 := (owned_rd HN.out.own).cell 0 (by omega)
      rw [Nat.zero_add] at g0
      have fg : wr.frozen? ⟨go, 0, none⟩ = false := by
        obtain ⟨cur, hc⟩ := owned_type HN.out.own (g := go) rfl
        exact frozen_of_row _ _ _ _ _ hc
      have fs : wr.frozen? ⟨gs, j, none⟩ = false := by
        obtain ⟨cur, hc⟩ := owned_type HN.out.s (g := gs) rfl
        exact frozen_of_row _ _ _ _ _ hc
      have h1 := HN.out.setOut (by decide) 0 48
      have h2 := h1.setS (by decide) j (255 - S.getD j 0)
      rw [show (sN true S j).set j (255 - S.getD j 0) = sN true S (j + 1) from flk_succ S j hjn] at h2
      obtain ⟨p3, c3, w3, hru, hgr⟩ := append_one (255 - S.getD j 0) h2.own (by rw [List.length_set]; omega) h2.b.size
      have hN3 := h2.more (by decide) hgr
      rw [outN_next S j hjn] at hru hN3
      rw [List.length_set, hol, setCell_size', setCell_size'] at hru
      have wu : IntKind.u8.wrap (255 - S.getD j 0) = 255 - S.getD j 0 := by rw [IntKind.wrap_u8]; omega
      generalize (outN true S j).getD 0 0 = y0 at g0
      generalize S.getD j 0 = x at c0 hx hru wu
      have HN2 := Lib.hid hN3
      have HRu := Lib.hid hru
      clear hgr hru HN hN3 h1 h2
      rw [hol] at ⊢
      generalize hn2 : (outN true S (j + 1)).length = n2 at HRu
      have Hn2 := Lib.hid hn2
      have hjcs : j < cs := by have := HCs.out; omega
      clear hn2 hol hsl
      go_wp2_with (at_builtin; refine wpList_append_run rfl _ _ _ rfl _ _ _ _ rfl rfl HRu.out ?_; clear HRu)
      exact ⟨⟨j + 1, p3, c3, by rw [Hn2.out], by go_num, by omega, HN2⟩, by show S.length - ((j : Int) + 1).toNat < S.length - (j : Int).toNat; omega⟩
    · have dj : decide ((j : Int) < (S.length : Int)) = false := decide_eq_false (by omega)
      have djn : decide (j < S.length) = false := decide_eq_false hjn
      obtain rfl : j = S.length := by omega
      clear hol
      generalize hS : outN true S S.length = L at HN ⊢
      have HLn := Lib.hid hS
      clear hS
      go_wp2_with fail
      go_ret
      first | rw [HLn.out] | skip
      exact ⟨some ⟨go, 0, none⟩, c2, rfl, HN.out.own, HN.out.b⟩
set_option maxHeartbeats 4000000 in
set_option maxRecDepth 100000 in
theorem one_num_false (w : World) (dg : ByteArray) (ex : Int) (h0 : dg.size ≠ 0) (h40 : dg.size ≤ 40) (hdig : ∀ x ∈ unstr dg, isDig x = true) (he0 : 0 ≤ (dg.size : Int) + ex + 1000) (he1 : (dg.size : Int) + ex + 1000 ≤ 65535) :
    Calls Tryd.prog 26 #[.agg #[.int .i64 2, .bool false, .bool false, .string dg, .int .i64 ex, .string ⟨#[]⟩, .int .i64 0]] w (OPost w.heap.size w (nbytes false (unstr dg) ((dg.size : Int) + ex + 1000))) := by
  have hlen := unstr_length dg
  obtain ⟨V, hV⟩ : ∃ V, V = (w.alloc (.cells #[.int .i64 2, .bool false, .bool false, .string dg, .int .i64 ex, .string ⟨#[]⟩, .int .i64 0] 46)).alloc (.cells #[.int .u8 50] 5) := ⟨_, rfl⟩
  have hr2 := two_rows w (.cells #[.int .i64 2, .bool false, .bool false, .string dg, .int .i64 ex, .string ⟨#[]⟩, .int .i64 0] 46) (.cells #[.int .u8 50] 5)
  have hb2 := two_below w (.cells #[.int .i64 2, .bool false, .bool false, .string dg, .int .i64 ex, .string ⟨#[]⟩, .int .i64 0] 46) (.cells #[.int .u8 50] 5)
  have hsV : V.heap.size = w.heap.size + 2 := by rw [hV, box_size, box_size]
  rw [← hV] at hr2 hb2
  have hown0 : V.ownsRow w.heap.size 5 1 (.slice (some ⟨w.heap.size + 1, 0, none⟩) 1 1) 1 (bcells [50]) := row_owned (k := 1) (l := [50]) hr2.2 rfl (by omega) (by omega)
  have dz : (((dg.size : Nat) : Int) == 0) = false := beq_eq_false_iff_ne.2 (by omega)
  have dzn : (dg.size == 0) = false := beq_eq_false_iff_ne.2 h0
  have HZ := Lib.hid (size_any V false dg ex h40 hdig he0 he1)
  have hr21 := hr2.1
  have k2 := cell_of_row _ _ 2 _ _ _ hr21
  have k3 := cell_of_row _ _ 3 _ _ _ hr21
  have k4 := cell_of_row _ _ 4 _ _ _ hr21
  simp at k2 k3 k4
  have hby := nsize_bys hdig _ he0 he1
  have hnl := nsize_len (unstr dg) ((dg.size : Int) + ex + 1000)
  have hend := outN_end false (unstr dg) ((dg.size : Int) + ex + 1000)
  generalize nsize (unstr dg) ((dg.size : Int) + ex + 1000) = S at HZ hby hnl hend
  rw [← hend]
  have HO := Lib.hid hown0
  have HR1 := Lib.hid hr21
  have HB2 := Lib.hid hb2
  have HV := Lib.hid hV
  have HSV := Lib.hid hsV
  have HBy := Lib.hid hby
  clear hown0 hr2 hr21 hb2 hV hsV hby hdig hend
  go_enter Tryd.func26, Tryd.ntmps26
  go_wp2_with fail
  rw [← HV.out]
  with_reducible refine HZ.out.mono ?_
  clear HZ
  rintro e w2 ⟨p4, cs, rfl, ho4, hb4⟩
  obtain ⟨gs, rfl⟩ : ∃ g, p4 = some ⟨g, 0, none⟩ := by
    rcases ho4.2 with ⟨hv, h⟩ | ⟨g, cap, cur, hv, _⟩
    · omega
    · injection hv with h1
      exact ⟨g, h1⟩
  have hgs := (ho4.lt gs rfl).1
  have hOL : OL w #[.int .i64 2, .bool false, .bool false, .string dg, .int .i64 ex, .string ⟨#[]⟩, .int .i64 0] 46 gs cs (outN false S 0) (some ⟨w.heap.size + 1, 0, none⟩) 1 (sN false S 0) w2 := by
    have hb4w := hb4.mono (B' := w.heap.size) (by have := HSV.out; omega)
    refine ⟨owned_keeps HO.out fun k hk => ?_, owned_base ho4 (by have := HSV.out; omega), fun e => ?_, ?_, HB2.out.trans hb4w⟩
    · injection hk with hk
      subst hk
      exact hb4.block _ (by have := HSV.out; show w.heap.size + 1 < _; omega)
    · have e2 : w.heap.size + 1 = gs := Option.some.inj e
      have := HSV.out
      omega
    · exact (hb4.block _ (by have := HSV.out; omega)).trans HR1.out
  have hcsl : S.length ≤ cs := by
    rcases ho4.2 with ⟨hv, h⟩ | ⟨g, cap, cur, hv, _, _, h, _⟩
    · omega
    · injection hv with _ _ h3
      omega
  have HCs := Lib.hid hcsl
  clear hcsl
  have HI0 := Lib.hid hOL
  clear hOL ho4 hb4 HO HR1 HB2 k2 k3 k4 hgs
  have hcs : S.length ≤ 100 := by omega
  go_wp2_with fail
  go_loopw [3, 5] (fun v3 v5 wr => ∃ (j : Nat) (p2 : Option Addr) (c2 : Nat), v3 = .slice p2 (outN false S j).length c2 ∧ v5 = .int .i64 (j : Int) ∧ j ≤ S.length ∧ Hid (OL w #[.int .i64 2, .bool false, .bool false, .string dg, .int .i64 ex, .string ⟨#[]⟩, .int .i64 0] 46 gs cs (outN false S j) p2 c2 (sN false S j) wr)) (fun _ v5 _ => S.length - (intOf v5).toNat)
  case atStart => exact ⟨0, some ⟨w.heap.size + 1, 0, none⟩, 1, rfl, rfl, Nat.zero_le _, HI0⟩
  case round =>
    clear HI0
    obtain ⟨j, p2, c2, rfl, rfl, hj, HN⟩ := hrel
    have k2 := cell_of_row _ _ 2 _ _ _ HN.out.st
    simp at k2
    have hol := outN_len false S j hj
    obtain ⟨go, rfl⟩ : ∃ g, p2 = some ⟨g, 0, none⟩ := by
      rcases HN.out.own.2 with ⟨hv, h⟩ | ⟨g, cap, cur, hv, _⟩
      · omega
      · injection hv with h1
        exact ⟨g, h1⟩
    by_cases hjn : j < S.length
    · have dj : decide ((j : Int) < (S.length : Int)) = true := decide_eq_true (by omega)
      have djn : decide (j < S.length) = true := decide_eq_true hjn
      have hx : 0 ≤ S.getD j 0 ∧ S.getD j 0 ≤ 255 := bys_at HBy.out hjn
      have hsl := sN_len false S j
      have c0 := (owned_rd HN.out.s).cell j (by omega)
      rw [Nat.zero_add] at c0
      have e1 : sN false S j = S := rfl
      rw [e1] at c0
      obtain ⟨p3, c3, w3, hru, hgr⟩ := append_one (S.getD j 0) HN.out.own (by omega) HN.out.b.size
      have hN3 := HN.out.more (by decide) hgr
      rw [outN_plain S j hjn] at hru hN3
      rw [hol] at hru
      generalize S.getD j 0 = x at c0 hx hru
      have HN2 := Lib.hid hN3
      have HRu := Lib.hid hru
      clear hgr hru HN hN3
      rw [hol] at ⊢
      generalize hn2 : (outN false S (j + 1)).length = n2 at HRu
      have Hn2 := Lib.hid hn2
      have hjcs : j < cs := by have := HCs.out; omega
      clear hn2 hol hsl
      go_wp2_with (at_builtin; refine wpList_append_run rfl _ _ _ rfl _ _ _ _ rfl rfl HRu.out ?_; clear HRu)
      exact ⟨⟨j + 1, p3, c3, by rw [Hn2.out], by go_num, by omega, HN2⟩, by show S.length - ((j : Int) + 1).toNat < S.length - (j : Int).toNat; omega⟩
    · have dj : decide ((j : Int) < (S.length : Int)) = false := decide_eq_false (by omega)
      have djn : decide (j < S.length) = false := decide_eq_false hjn
      obtain rfl : j = S.length := by omega
      clear hol
      generalize hS : outN false S S.length = L at HN ⊢
      have HLn := Lib.hid hS
      clear hS
      go_wp2_with fail
      go_ret
      first | rw [HLn.out] | skip
      exact ⟨some ⟨go, 0, none⟩, c2, rfl, HN.out.own, HN.out.b⟩
theorem one_any (w : World) (q : Pt) (hq : psane q = true) (hs : q.s.size ≤ 100000) : Calls Tryd.prog 26 #[.agg (parr q)] w (OPost w.heap.size w (penc q)) := by
  have hp := ps_of q hq
  cases hp with
  | null => rw [penc_null]; exact one_null w
  | bool b => rw [penc_bool]; exact one_bool w b
  | zero => rw [penc_zero]; exact one_zero w
  | num neg dg ex h0 h40 hd h1 h2 =>
    rw [penc_num _ _ _ h0]
    cases neg with
    | true => exact one_num_true w dg ex h0 h40 hd h1 h2
    | false => exact one_num_false w dg ex h0 h40 hd h1 h2
  | text s => rw [penc_text]; exact one_text w s hs
  | whole i h0 h1 => rw [penc_whole]; exact one_whole w i h0 h1
end Go.Proofs.YtebhbcbcnjdgjaaDoor.dk
/- Encode: the document's answer. -/
namespace Go.Proofs.YtebhbcbcnjdgjaaDoor.dk
open Go.PlainAid Go.ChangeShapes Go.WideShapes Go.ChangeAt Go.RowKit

set_option maxHeartbeats 4000000 in
set_option maxRecDepth 100000 in
theorem Encode_ref (w : World) (n c : Nat) (p : Option Addr) (l : List Pt) (hR : RdP w p n l) (hs : ∀ q ∈ l, q.s.size ≤ 1000 ∧ q.dg.size ≤ 1000) :
    Calls Tryd.prog 12 #[.slice p n c] w (EPost w n l) := by
  by_cases hn : n ≤ 16
  · have dn : decide ((16 : Int) < (n : Int)) = false := decide_eq_false (by omega)
    have dnn : decide (16 < n) = false := decide_eq_false (by omega)
    have HR := Lib.hid hR
    have HS := Lib.hid hs
    have HN := Lib.hid hn
    clear hR hs hn
    go_enter Tryd.func12, Tryd.ntmps12
    go_wp2_with fail
    go_loopw [4, 5] (fun v4 v5 wr => ∃ (j : Nat) (p2 : Option Addr) (c2 : Nat), v5 = .int .i64 j ∧ j ≤ n ∧ v4 = .slice p2 (encOf (l.take j)).length c2 ∧ Hid ((∀ q ∈ l.take j, psane q = true) ∧ wr.ownsRow w.heap.size 5 1 (.slice p2 (encOf (l.take j)).length c2) (encOf (l.take j)).length (bcells (encOf (l.take j))) ∧ Below w.heap.size w wr)) (fun _ v5 _ => n - (intOf v5).toNat)
    case atStart => exact ⟨0, none, 0, rfl, Nat.zero_le _, rfl, Lib.hid ⟨fun q hq => by simp at hq, ⟨rfl, .inl ⟨rfl, rfl⟩⟩, Below.refl _ _⟩⟩
    case round =>
      obtain ⟨j, p2, c2, rfl, hj, rfl, HI⟩ := hrel
      by_cases hjn : j < n
      · have dj : decide ((j : Int) < (n : Int)) = true := decide_eq_true (by omega)
        have djn : decide (j < n) = true := decide_eq_true hjn
        obtain ⟨hlen, hcs⟩ := HR.out
        obtain ⟨g, off, rfl, hg, hc⟩ := hcs (by omega)
        have hcj := hc j hjn
        obtain ⟨hps, hown, hbel⟩ := HI.out
        obtain ⟨q, hq⟩ : ∃ q, l.getD j default = q := ⟨_, rfl⟩
        have hqm : q ∈ l := by rw [← hq, List.getD_eq_getElem?_getD, List.getElem?_eq_getElem (by omega)]; exact List.getElem_mem _
        obtain ⟨hq1, hq2⟩ := HS.out q hqm
        rw [hq] at hcj
        have hnn := HN.out
        have hlb : (encOf (l.take j)).length ≤ 100000 := by
          have := encOf_len (l.take j) (fun x hx => ⟨hps x hx, (HS.out x (List.mem_of_mem_take hx)).1⟩)
          rw [List.length_take] at this
          omega
        have esucc := encOf_succ l j (by omega)
        rw [hq] at esucc
        have hall : psane q = false → l.all psane = false := fun h => by
          rw [List.all_eq_false]
          exact ⟨q, hqm, by rw [h]; decide⟩
        have hps2 : psane q = true → ∀ x ∈ l.take (j + 1), psane x = true := fun h x hx => by
          rw [take_get l j (by omega), List.mem_append] at hx
          rcases hx with hx | hx
          · exact hps x hx
          · rw [List.mem_singleton.1 hx, hq]; exact h
        have hplen : psane q = true → (penc q).length ≤ 4000 := fun h => penc_len q h hq1
        have hON : ∀ (v : World), psane q = true → Calls Tryd.prog 26 #[.agg (parr q)] v (OPost v.heap.size v (penc q)) := fun v hsn => one_any v q hsn (by omega)
        have hRT : ∀ (v : World), Calls Tryd.prog 25 #[.agg (parr q)] v fun e w' => e = .returned (.bool (psane q)) ∧ Below v.heap.size v w' := fun v => right_any v q (by omega)
        have hcw : ∀ (v : World), Below wr.heap.size wr v → ∀ i, i < 7 → v.cell? ⟨g, off + j * 7 + i, none⟩ = (parr q)[i]? := fun v hv i hi => by
          have h1 := (hbel.trans (hv.mono hbel.size)).block g hg
          rw [← hcj i hi]
          simp only [World.cell?, h1]
        generalize psane q = sn at hall hps2 hON hRT hplen
        have HAP := Lib.hid (And.intro hown (And.intro hlb (And.intro hplen esucc)))
        generalize hP : penc q = P at hON HAP
        generalize hL1 : encOf (l.take j) = L1 at HAP ⊢
        have HL1 := Lib.hid hL1
        generalize hL2 : encOf (l.take (j + 1)) = L2 at HAP
        have HL2 := Lib.hid hL2
        clear hL1 hL2 hP
        obtain ⟨k, x, neg, dg, ex, s, i⟩ := q
        unfold parr at hON hRT hcw
        dsimp only at hON hRT hcw
        have k0 := hcw wr (Below.refl _ _) 0 (by omega)
        have k1 := hcw wr (Below.refl _ _) 1 (by omega)
        have k2 := hcw wr (Below.refl _ _) 2 (by omega)
        have k3 := hcw wr (Below.refl _ _) 3 (by omega)
        have k4 := hcw wr (Below.refl _ _) 4 (by omega)
        have k5 := hcw wr (Below.refl _ _) 5 (by omega)
        have k6 := hcw wr (Below.refl _ _) 6 (by omega)
        simp at k0 k1 k2 k3 k4 k5 k6
        have HRT := Lib.hid (hRT wr)
        have HON := Lib.hid hON
        have HCw := Lib.hid hcw
        have HAll := Lib.hid hall
        have HPs := Lib.hid hps2
        have HBl := Lib.hid hbel
        clear hON hRT hall hps2 hcw hown hps hbel hqm hq1 hq2 hcj hc hlen hcs hg hnn hlb esucc hplen
        go_wp2_with fail
        with_reducible refine HRT.out.mono ?_
        clear HRT
        rintro e w6 ⟨rfl, hb6⟩
        have k0 := HCw.out w6 hb6 0 (by omega)
        have k1 := HCw.out w6 hb6 1 (by omega)
        have k2 := HCw.out w6 hb6 2 (by omega)
        have k3 := HCw.out w6 hb6 3 (by omega)
        have k4 := HCw.out w6 hb6 4 (by omega)
        have k5 := HCw.out w6 hb6 5 (by omega)
        have k6 := HCw.out w6 hb6 6 (by omega)
        simp at k0 k1 k2 k3 k4 k5 k6
        have HB6 := Lib.hid hb6
        clear hb6
        cases sn with
        | false =>
          have hF := HAll.out rfl
          go_wp2_with fail
          go_ret2
          refine ⟨HBl.out.trans (HB6.out.mono HBl.out.size), .inr ⟨fun h => ?_, ?_⟩⟩
          · rw [hF] at h; exact absurd h.2 (by decide)
          · rw [if_pos HN.out]; rfl
        | true =>
          have HO6 := Lib.hid (HON.out w6 rfl)
          clear HON
          go_wp2_with fail
          with_reducible refine HO6.out.mono ?_
          clear HO6
          rintro e w7 ⟨p7, c7, rfl, ho7, hb7⟩
          obtain ⟨hown, hlb, hpl, hes⟩ := HAP.out
          have hb67 := HB6.out.trans (hb7.mono HB6.out.size)
          have hown7 := owned_keeps hown fun k hk => hb67.block k (hown.lt k hk).2
          obtain ⟨p8, c8, w8, hr8, ho8, hb8⟩ := append_any (cc := c7) hown7 (owned_rd ho7) (by omega) (by have := hpl trivial; omega) (Nat.le_trans HBl.out.size hb67.size)
          rw [← hes] at hr8 ho8
          have HN2 := Lib.hid (And.intro ho8 (HBl.out.trans ((hb67.mono HBl.out.size).trans hb8)))
          have HR8 := Lib.hid hr8
          have hnn := HN.out
          clear ho8 hb8 hr8 hown7 hb67 ho7 hb7 hown hlb hpl hes HAP
          generalize hln : L2.length = n2 at HR8
          have HLn := Lib.hid hln
          clear hln
          generalize P.length = nP at HR8 ⊢
          generalize L1.length = n1 at HR8 ⊢
          go_wp2_with (at_builtin; refine wpList_append_run rfl _ _ _ rfl _ _ _ _ rfl rfl HR8.out ?_; clear HR8)
          exact ⟨⟨j + 1, p8, c8, by go_num, by omega, by rw [HL2.out, HLn.out], Lib.hid ⟨HPs.out trivial, by rw [HL2.out]; exact HN2.out.1, HN2.out.2⟩⟩, by show n - ((j : Int) + 1).toNat < n - (j : Int).toNat; omega⟩
      · have dj : decide ((j : Int) < (n : Int)) = false := decide_eq_false (by omega)
        have djn : decide (j < n) = false := decide_eq_false hjn
        obtain rfl : j = n := by omega
        have hlen := HR.out.1
        have et : l.take j = l := by rw [← hlen, List.take_length]
        rw [et] at HI ⊢
        go_wp2_with fail
        go_ret2
        exact ⟨HI.out.2.2, .inl ⟨HN.out, List.all_eq_true.2 HI.out.1, p2, c2, rfl, HI.out.2.1⟩⟩
  · have dn : decide ((16 : Int) < (n : Int)) = true := decide_eq_true (by omega)
    have dnn : decide (16 < n) = true := decide_eq_true (by omega)
    go_enter Tryd.func12, Tryd.ntmps12
    go_wp2_with fail
    go_ret2
    exact ⟨Below.refl _ _, .inr ⟨fun h => hn h.1, by rw [if_neg hn]; rfl⟩⟩
end Go.Proofs.YtebhbcbcnjdgjaaDoor.dk
