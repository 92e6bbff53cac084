/- A number's bytes. -/
import Derived.Test.YtebhbcbcnjdgjaaDoorF
namespace Go.Proofs.YtebhbcbcnjdgjaaDoor.dk
open Go.PlainAid Go.ChangeShapes Go.WideShapes Go.ChangeAt Go.RowKit

/-- The bytes of a number behind its mark, where it is not below 0; h: its height and 1000. -/
def nsz (l : List Int) (h : Int) (j : Nat) : List Int := [h / 256, h % 256] ++ ((l.take j).map fun c => c - 48 + 1)
def nsize (l : List Int) (h : Int) : List Int := nsz l h l.length ++ [0]
def nbytes (neg : Bool) (l : List Int) (h : Int) : List Int := if neg = true then [48] ++ flipb (nsize l h) else [50] ++ nsize l h
def OPost (B : Nat) (w : World) (l : List Int) (e : Ending) (w' : World) : Prop := ∃ p cc, e = .returned (.slice p l.length cc) ∧ w'.ownsRow B 5 1 (.slice p l.length cc) l.length (bcells l) ∧ Below B w w'
theorem nsize_bys {l : List Int} (hl : ∀ x ∈ l, isDig x = true) (h : Int) (h0 : 0 ≤ h) (h1 : h ≤ 65535) : Bys (nsize l h) := by
  unfold nsize nsz
  refine ((Bys.cons (by omega) (Bys.cons (by omega) Bys.nil)).app ?_).app (Bys.cons (by omega) Bys.nil)
  intro x hx
  obtain ⟨c, hc, rfl⟩ := List.mem_map.1 hx
  have := hl c (List.mem_of_mem_take hc)
  unfold isDig at this
  simp only [Bool.and_eq_true, decide_eq_true_eq] at this
  omega
theorem nsz_succ (l : List Int) (h : Int) (j : Nat) (hj : j < l.length) : nsz l h j ++ [l.getD j 0 - 48 + 1] = nsz l h (j + 1) := by
  unfold nsz
  rw [List.take_succ_eq_append_getElem hj, List.map_append, List.append_assoc, List.getD_eq_getElem?_getD, List.getElem?_eq_getElem hj]
  rfl
theorem nsz_len (l : List Int) (h : Int) (j : Nat) (hj : j ≤ l.length) : (nsz l h j).length = j + 2 := by
  unfold nsz
  rw [List.length_append, List.length_map, List.length_take]
  simp
  omega
/-- What is held at the loop's head. -/
structure NL (w : World) (neg : Bool) (dg : ByteArray) (ex : Int) (l : List Int) (L : List Int) (p : Option Addr) (c : Nat) (W : World) : Prop where
  own : W.ownsRow w.heap.size 5 1 (.slice p L.length c) L.length (bcells L)
  ne : (Value.slice p L.length c).ownBlock ≠ some (w.heap.size + 2)
  rd : Rd W (some ⟨w.heap.size + 2, 0, none⟩) l.length l
  sz : w.heap.size + 2 < W.heap.size
  st : W.heap[w.heap.size]? = some (.cells #[.bool neg, .string dg, .int .i64 ex] 25 (0, 0))
  b : Below w.heap.size w W
theorem NL.more {w : World} {neg : Bool} {dg : ByteArray} {ex : Int} {l L L' : List Int} {p p' : Option Addr} {c c' : Nat} {W W' : World} (h : NL w neg dg ex l L p c W) (hg : Grew w.heap.size (.slice p L.length c) W p' c' L' W') : NL w neg dg ex l L' p' c' W' := by
  have hs := hg.fr _ h.sz h.ne
  have hst : W'.heap[w.heap.size]? = W.heap[w.heap.size]? := hg.fr _ (Array.getElem?_eq_some_iff.1 h.st).1 (fun e => by
    obtain ⟨cur, hc⟩ := owned_type h.own e
    exact row_ne hc h.st (by decide) rfl)
  refine ⟨hg.own, fun e => ?_, rd_of_block h.rd hs hg.b.size, Nat.lt_of_lt_of_le h.sz hg.b.size, hst.trans h.st, h.b.trans hg.b⟩
  rcases hg.wh with h1 | ⟨g, h1, h2⟩
  · exact h.ne (h1.symm.trans e)
  · rw [h2] at e
    injection e with e
    have := h.sz
    omega
theorem append_one {w : World} {B c : Nat} {p0 : Option Addr} {l : List Int} (x : Int) (hown : w.ownsRow B 5 1 (.slice p0 l.length c) l.length (bcells l)) (hl : l.length ≤ 1000000) (hB : B ≤ w.heap.size) :
    ∃ p cc w', (Builtin.append_ #[23, 23] 23 #[.slice p0 l.length c, .slice (some ⟨w.heap.size, 0, none⟩) 1 1]).run Tryd.prog (w.alloc (.cells #[.int .u8 x] 5)) = .ok (.slice p (l ++ [x]).length cc) w' ∧ Grew B (.slice p0 l.length c) w p cc (l ++ [x]) w' :=
  append_lit [x] (by simp) (by simp) hown hl hB
/-- append, by its run: the run is given first. -/
theorem wpList_app {P : Program} {ops : Array Oper} {rest : List Oper} {o : Oper} {a : Act} {w : World} {Q : Exit → Act → World → Prop} {t ty : TypeId} {sv xv v' : Value} {w' : World} (hr : (Builtin.append_ #[t, t] ty #[sv, xv]).run P w = .ok v' w')
    (s x : Operand) (hgd : o.guard = none) (ho : o.op = .call { callee := .builtin .append, args := #[s, x], argTypes := #[t, t] }) (hty : o.type = ty) (hs : a.eval s = sv) (hx : a.eval x = xv) (h : wpList P ops Q rest (a.put o.dst v') w') : wpList P ops Q (o :: rest) a w := by
  subst hty
  exact wpList_append_run hgd s x t ho sv xv v' w' hs hx hr h
/-- A mark, and bytes that lie elsewhere, behind bytes. -/
theorem mark_append {w W : World} {B c g c3 : Nat} {p : Option Addr} {b S : List Int} (mk : Int) (hown : w.ownsRow B 5 1 (.slice p b.length c) b.length (bcells b)) (hB : B ≤ w.heap.size) (hb : Below w.heap.size w W) (hS : W.ownsRow w.heap.size 5 1 (.slice (some ⟨g, 0, none⟩) S.length c3) S.length (bcells S)) (h0 : 0 < S.length) (hm : b.length ≤ 100000) (hS2 : S.length ≤ 100000) :
    ∃ p4 c4 w4 p5 c5 w5, (Builtin.append_ #[23, 23] 23 #[.slice p b.length c, .slice (some ⟨W.heap.size, 0, none⟩) 1 1]).run Tryd.prog (W.alloc (.cells #[.int .u8 mk] 5)) = .ok (.slice p4 (b ++ [mk]).length c4) w4 ∧
      (Builtin.append_ #[23, 23] 23 #[.slice p4 (b ++ [mk]).length c4, .slice (some ⟨g, 0, none⟩) S.length c3]).run Tryd.prog w4 = .ok (.slice p5 (b ++ ([mk] ++ S)).length c5) w5 ∧ OPost B w (b ++ ([mk] ++ S)) (.returned (.slice p5 (b ++ ([mk] ++ S)).length c5)) w5 := by
  have ho : W.ownsRow B 5 1 (.slice p b.length c) b.length (bcells b) := owned_keeps hown fun k hk => hb.block k (hown.lt k hk).2
  obtain ⟨p4, c4, w4, hr4, hg4⟩ := append_lit [mk] (by simp) (by simp) ho (by omega) (Nat.le_trans hB hb.size)
  have hgl := hS.lt g rfl
  have hSk : w4.heap[g]? = W.heap[g]? := hg4.fr g hgl.2 (fun e => by have := (hown.lt g e).2; omega)
  have hS4 : Rd w4 (some ⟨g, 0, none⟩) S.length S := rd_of_block (owned_rd hS) hSk hg4.b.size
  obtain ⟨p5, c5, w5, hr5, hg5⟩ := append_rd (cc := c3) hg4.own hS4 h0 (by rw [List.length_append]; simp; omega) (by omega) (Nat.le_trans hB (Nat.le_trans hb.size hg4.b.size))
  rw [List.append_assoc] at hr5 hg5
  exact ⟨p4, c4, w4, p5, c5, w5, hr4, hr5, p5, c5, rfl, hg5.own, ((hb.mono hB).trans hg4.b).trans hg5.b⟩
set_option maxHeartbeats 8000000 in
set_option maxRecDepth 100000 in
theorem laidNumber_any (w : World) (B m c : Nat) (p : Option Addr) (b : List Int) (neg : Bool) (dg : ByteArray) (ex : Int) (hown : w.ownsRow B 5 1 (.slice p m c) m (bcells b)) (hm : b.length = m) (hm2 : b.length ≤ 100000) (hB : B ≤ w.heap.size) (h0 : 0 < dg.size) (h40 : dg.size ≤ 40) (hdig : ∀ x ∈ unstr dg, isDig x = true) (he0 : 0 ≤ (dg.size : Int) + ex + 1000) (he1 : (dg.size : Int) + ex + 1000 ≤ 65535) :
    Calls Tryd.prog 34 #[.slice p m c, .agg #[.bool neg, .string dg, .int .i64 ex]] w (OPost B w (b ++ nbytes neg (unstr dg) ((dg.size : Int) + ex + 1000))) := by
  subst hm
  have hlen := unstr_length dg
  have dne : dg.toList.isEmpty = false := by
    rw [ByteArray.toList_eq]
    have : dg.data.toList.length = dg.size := by simp
    cases hd : dg.data.toList with
    | nil => rw [hd] at this; simp at this; omega
    | cons x y => rfl
  have w1 : IntKind.i64.wrap ((dg.size : Int) + ex) = (dg.size : Int) + ex := by rw [IntKind.wrap_i64]; omega
  have w2 : IntKind.i64.wrap ((dg.size : Int) + ex + 1000) = (dg.size : Int) + ex + 1000 := by rw [IntKind.wrap_i64]; omega
  have HO := Lib.hid hown
  obtain ⟨V1, hV1⟩ : ∃ V, V = w.alloc (.cells #[.bool neg, .string dg, .int .i64 ex] 25) := ⟨_, rfl⟩
  obtain ⟨V, hV⟩ : ∃ V, V = V1.alloc (.cells #[.int .u8 (((dg.size : Int) + ex + 1000) / 256), .int .u8 (((dg.size : Int) + ex + 1000) % 256)] 5) := ⟨_, rfl⟩
  have hs1 : V1.heap.size = w.heap.size + 1 := by rw [hV1]; simp [World.alloc, -World.alloc_eq]
  have hs2 : V.heap.size = w.heap.size + 2 := by rw [hV]; simp [World.alloc, -World.alloc_eq]; exact hs1
  have hst : V1.heap[w.heap.size]? = some (.cells #[.bool neg, .string dg, .int .i64 ex] 25 (0, 0)) := by rw [hV1]; exact heap_alloc_new _ _
  have hb1 : Below w.heap.size w V1 := by rw [hV1]; exact (Below.refl _ _).alloc (Nat.le_refl _) _
  have hb2 : Below V1.heap.size V1 V := by rw [hV]; exact (Below.refl _ _).alloc (Nat.le_refl _) _
  have hrow : RowB (w.heap.size + 1) (nsz (unstr dg) ((dg.size : Int) + ex + 1000) 0) V := by rw [← hs1, hV]; exact heap_alloc_new _ _
  have hbw := bytes_belowd V dg 5
  have hR := rd_string V dg dg.size rfl
  have hcv := Lib.run_convert_string_bytes (P := Tryd.prog) V 9 23 5 dg Tryd.underlying9 Tryd.underlying23 Tryd.underlying5
  have hsb : w.heap.size + 2 < (Lib.bytesWorld V 5 dg).heap.size := by rw [Lib.bytesWorld_size, hs2]; omega
  generalize hWW : Lib.bytesWorld V 5 dg = WW at hbw hR hcv hsb
  rw [hs2] at hR
  have hw12 : Below w.heap.size w WW := hb1.trans ((hb2.mono (by omega)).trans (hbw.mono (by omega)))
  have hNL : NL w neg dg ex (unstr dg) (nsz (unstr dg) ((dg.size : Int) + ex + 1000) 0) (some ⟨w.heap.size + 1, 0, none⟩) 2 WW :=
    ⟨row_owned (k := 2) ((hbw.block _ (by omega)).trans hrow) (nsz_len _ _ 0 (Nat.zero_le _)) (by omega) (by omega), fun e => by have e2 : w.heap.size + 1 = w.heap.size + 2 := Option.some.inj e; omega, by rw [hlen]; exact hR, hsb, ((hbw.block _ (by omega)).trans (hb2.block _ (by omega))).trans hst, hw12⟩
  have HNL := Lib.hid hNL
  have HD := Lib.hid hdig
  rw [hV, hV1] at hcv
  have HL := Lib.hid hlen
  clear hown hV1 hV hs1 hs2 hst hb1 hb2 hrow hbw hR hsb hWW hw12 hNL hdig hlen
  go_enter Tryd.func34, Tryd.ntmps34
  go_wp2_with fail
  generalize grownCap _ _ _ _ = gc
  clear hcv w1 w2 dne
  generalize hhi : ((dg.size : Nat) : Int) + ex + 1000 = hi at HNL he0 he1 ⊢
  have HHi := Lib.hid hhi
  clear hhi
  go_loopw [6, 32] (fun v6 v32 wr => ∃ (j : Nat) (p2 : Option Addr) (c2 : Nat), v6 = .slice p2 (nsz (unstr dg) hi j).length c2 ∧ v32 = .int .i64 (j : Int) ∧ j ≤ dg.size ∧ Hid (NL w neg dg ex (unstr dg) (nsz (unstr dg) hi j) p2 c2 wr)) (fun _ v32 _ => dg.size - (intOf v32).toNat)
  case atStart => exact ⟨0, some ⟨w.heap.size + 1, 0, none⟩, 2, by rw [nsz_len _ _ 0 (Nat.zero_le _)], rfl, Nat.zero_le _, HNL.out⟩
  case round =>
    clear HNL
    obtain ⟨j, p2, c2, rfl, rfl, hj, HN⟩ := hrel
    have hL := HL.out
    by_cases hjn : j < dg.size
    · have dj : decide ((j : Int) < (dg.size : Int)) = true := decide_eq_true (by omega)
      have djn : decide (j < dg.size) = true := decide_eq_true hjn
      have c0 := HN.out.rd.cell j (by omega)
      rw [Nat.zero_add] at c0
      have hx : 48 ≤ (unstr dg).getD j 0 ∧ (unstr dg).getD j 0 ≤ 57 := by
        have := HD.out ((unstr dg).getD j 0) (by rw [List.getD_eq_getElem?_getD, List.getElem?_eq_getElem (by omega)]; exact List.getElem_mem _)
        unfold isDig at this
        simp only [Bool.and_eq_true, decide_eq_true_eq] at this
        exact this
      obtain ⟨p3, c3, w3, hru, hgr⟩ := append_one ((unstr dg).getD j 0 - 48 + 1) HN.out.own (by rw [nsz_len _ _ j (by omega)]; omega) HN.out.b.size
      rw [nsz_succ _ _ _ (by omega)] at hru hgr
      have HN2 := Lib.hid (HN.out.more hgr)
      have HRu := Lib.hid hru
      clear hgr hru HN
      generalize (unstr dg).getD j 0 = x at c0 hx HRu
      have wu1 : IntKind.u8.wrap (x - 48) = x - 48 := by rw [IntKind.wrap_u8]; omega
      have wu2 : IntKind.u8.wrap (x - 48 + 1) = x - 48 + 1 := by rw [IntKind.wrap_u8]; omega
      generalize (nsz (unstr dg) hi j).length = n1 at HRu ⊢
      generalize hn2 : (nsz (unstr dg) hi (j + 1)).length = n2 at HRu
      go_wp2_with (at_builtin; refine wpList_append_run rfl _ _ _ rfl _ _ _ _ rfl rfl HRu.out ?_)
      exact ⟨⟨j + 1, p3, c3, by rw [hn2], by go_num, by omega, HN2.out⟩, by show dg.size - ((j : Int) + 1).toNat < dg.size - (j : Int).toNat; omega⟩
    · have dj : decide ((j : Int) < (dg.size : Int)) = false := decide_eq_false (by omega)
      have djn : decide (j < dg.size) = false := decide_eq_false hjn
      obtain rfl : j = (unstr dg).length := by omega
      obtain ⟨p3, c3, w3, hru, hgr⟩ := append_one 0 HN.out.own (by rw [nsz_len _ _ _ (Nat.le_refl _)]; omega) HN.out.b.size
      have hN3 := HN.out.more hgr
      have es : nsz (unstr dg) hi (unstr dg).length ++ [0] = nsize (unstr dg) hi := rfl
      rw [es] at hru hN3
      have k0 := cell_of_row _ _ 0 _ _ _ hN3.st
      simp at k0
      have HRu := Lib.hid hru
      have hnl : (nsize (unstr dg) hi).length = dg.size + 3 := by rw [← es, List.length_append, nsz_len _ _ _ (Nat.le_refl _), hL]; rfl
      have hby := nsize_bys HD.out hi he0 he1
      have HN3 := Lib.hid hN3
      clear hgr hru HN hN3 es
      generalize hS : nsize (unstr dg) hi = S at HRu HN3 hnl hby
      rw [hnl] at HRu
      generalize (nsz (unstr dg) hi (unstr dg).length).length = n1 at HRu ⊢
      have HS := Lib.hid hS
      clear hS
      obtain ⟨g3, rfl⟩ : ∃ g, p3 = some ⟨g, 0, none⟩ := by
        rcases HN3.out.own.2 with ⟨hv, h⟩ | ⟨g, cap, cur, hv, _⟩
        · omega
        · injection hv with h1
          exact ⟨g, h1⟩
      cases neg with
      | true =>
        have HFl := Lib.hid (flip_any w3 w.heap.size g3 c3 S HN3.out.own hby (by omega))
        have hfl : (flipb S).length = S.length := by unfold flipb; rw [List.length_map]
        go_wp2_with (at_builtin; refine wpList_append_run rfl _ _ _ rfl _ _ _ _ rfl rfl HRu.out ?_; clear HRu)
        rw [← hnl]
        with_reducible refine HFl.out.mono ?_
        clear HFl
        rintro e w6 ⟨rfl, ho6, hb6, _⟩
        have hb36 := HN3.out.b.trans hb6
        rw [← hfl] at ho6
        obtain ⟨p4, c4, w4, p5, c5, w5, hr4, hr5, hpost⟩ := mark_append 48 HO.out hB hb36 ho6 (by omega) hm2 (by omega)
        have HFin : Hid (OPost B w (b ++ nbytes true (unstr dg) hi) (.returned (.slice p5 (b ++ ([48] ++ flipb S)).length c5)) w5) := by
          show OPost _ _ _ _ _
          rw [show nbytes true (unstr dg) hi = [48] ++ flipb S by unfold nbytes; rw [if_pos rfl, HS.out]]
          exact hpost
        have HR4 := Lib.hid hr4
        have HR5 := Lib.hid hr5
        rw [hfl, hnl] at HR5
        clear hr4 hr5 hpost ho6 hb6 hb36 HN3
        generalize (b ++ [48]).length = n4 at HR4 HR5
        generalize (b ++ ([48] ++ flipb S)).length = n5 at HR5 HFin
        go_wp2_with (first | (at_builtin; refine wpList_append_run rfl _ _ _ rfl _ _ _ _ rfl rfl HR4.out ?_; clear HR4) | (at_builtin; refine wpList_append_run rfl _ _ _ rfl _ _ _ _ rfl rfl HR5.out ?_; clear HR5))
        go_ret
        rw [HHi.out]
        exact HFin.out
      | false =>
        obtain ⟨p4, c4, w4, p5, c5, w5, hr4, hr5, hpost⟩ := mark_append 50 HO.out hB HN3.out.b HN3.out.own (by omega) hm2 (by omega)
        have HFin : Hid (OPost B w (b ++ nbytes false (unstr dg) hi) (.returned (.slice p5 (b ++ ([50] ++ S)).length c5)) w5) := by
          show OPost _ _ _ _ _
          rw [show nbytes false (unstr dg) hi = [50] ++ S by unfold nbytes; rw [if_neg (by decide), HS.out]]
          exact hpost
        have HR4 := Lib.hid hr4
        have HR5 := Lib.hid hr5
        clear hr4 hr5 hpost HN3
        generalize (b ++ [50]).length = n4 at HR4 HR5
        generalize (b ++ ([50] ++ S)).length = n5 at HR5 HFin
        rw [hnl] at HR5
        go_wp2_with (first | (at_builtin; refine wpList_append_run rfl _ _ _ rfl _ _ _ _ rfl rfl HRu.out ?_; clear HRu) | (at_builtin; refine wpList_append_run rfl _ _ _ rfl _ _ _ _ rfl rfl HR4.out ?_; clear HR4) | (at_builtin; refine wpList_append_run rfl _ _ _ rfl _ _ _ _ rfl rfl HR5.out ?_; clear HR5))
        go_ret
        rw [HHi.out]
        exact HFin.out
end Go.Proofs.YtebhbcbcnjdgjaaDoor.dk
