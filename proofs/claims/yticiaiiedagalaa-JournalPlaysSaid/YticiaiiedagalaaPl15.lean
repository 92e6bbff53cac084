/- Append, Room, Reset. -/
import Derived.Test.YticiaiiedagalaaPl14
import Derived.Test.YticiaiiedagalaaPl8
import Derived.Lib.ConvBytes
import Derived.Laws.BytesString
namespace Go.Proofs.Yticiaiiedagalaa.dk
open Go.PlainAid Go.ChangeShapes Go.WideShapes Go.ChangeAt Go.RowKit

def needN (k : Nat) : Nat := if k = 0 then 1 else (k - 1) / 48 + 1
theorem needN_eq (k : Nat) : need (k : Int) = (needN k : Int) := by
  unfold need needN
  by_cases h : k = 0
  · subst h; rfl
  · rw [if_neg (by omega), if_neg h]; omega
theorem needN_bd (k : Nat) : 1 ≤ needN k ∧ needN k * 48 < k + 48 + (if k = 0 then 1 else 0) ∧ k ≤ needN k * 48 := by
  unfold needN
  split <;> omega
/-- What Append leaves, and tells. -/
def appendOf (g : Lg) (m : Dk) (b : List Int) : Lg × Dk × Int :=
  if g.broken = true then (g, m, 10) else
  if 65535 < needN b.length then (g, m, 4) else
  if g.n < g.place + needN b.length then (g, m, 5) else
  if (layGo g b (needN b.length) (needN b.length) 0 m).2 = 0 then ({ g with place := g.place + needN b.length, num := (g.num + 1) % 4294967296 }, (layGo g b (needN b.length) (needN b.length) 0 m).1, 0)
  else ({ g with broken := true }, layGo g b (needN b.length) (needN b.length) 0 m)
/-- Outside the disk and the log all stands as it stood. -/
structure LkF (B D L N : Nat) (P : Value) (A : Nat) (w : World) (P' : Value) (w' : World) : Prop where
  below : Below B w w'
  fr : ∀ k, k < w.heap.size → ¬ Xd D L N P k → k ≠ A → w'.heap[k]? = w.heap[k]?
  nw : ∀ g, P'.ownBlock = some g → P.ownBlock = some g ∨ w.heap.size ≤ g
theorem LkF.refl {B D L N A : Nat} {P : Value} {w : World} : LkF B D L N P A w P w := ⟨Below.refl _ _, fun _ _ _ _ => rfl, fun _ h => .inl h⟩
theorem LkF.of {B D L N A : Nat} {P P' : Value} {w w' : World} (h : DkF B D L N P w P' w') : LkF B D L N P A w P' w' := ⟨h.bf.below, fun k hk hx _ => h.bf.fr k hk hx, h.nw⟩
theorem LkF.turn {B D L N A : Nat} {P P' : Value} {w w' w'' : World} (h : LkF B D L N P A w P' w') (hb : Below B w' w'') (hf : Fr A w' w'') : LkF B D L N P A w P' w'' := ⟨h.below.trans hb, fun k hk hx hA => (hf k hA).trans (h.fr k hk hx hA), h.nw⟩
def AppPost (B D L N : Nat) (P : Value) (A : Nat) (r : Lg × Dk × Int) (w : World) (e : Ending) (w' : World) : Prop := ∃ P', e = .returned (.int .i64 r.2.2) ∧ DiskAt B D L N P' r.2.1 w' ∧ LogAt A r.1 w' ∧ LkF B D L N P A w P' w'
theorem lay_any {B D L N A : Nat} {P : Value} {m : Dk} {g : Lg} {w : World} (h : DiskAt B D L N P m w) (hg : LogAt A g w) (hgd : g.d = D) (p : Option Addr) (k c : Nat) (b : List Int) (hS : Src D L N P w p k b) (hkc : k ≤ c) (hc : c ≤ 100000000) (hpc : p = none → c = 0) (hpo : ∀ a, p = some a → a.spot = none)
    (hc3 : needN k ≤ 65535) (hfp : g.frm + g.place ≤ 1000000) (hw : m.writes + needN k < 999990) (hp : m.pend.length + needN k ≤ 999990) (hnum : 0 ≤ g.num ∧ g.num ≤ 4294967295) (hses : 0 ≤ g.ses ∧ g.ses ≤ 4294967295) :
    Calls Try.prog 48 #[.pointer (some ⟨A, 0, none⟩), .slice p k c, .int .i64 (needN k : Int)] w (LayPost B D L N P (layGo g b (needN k) (needN k) 0 m) w) := by
  have hnb := needN_bd k
  by_cases hk : k = 0
  · subst hk
    exact lay_zero h hg hgd p c (needN 0) b (List.length_eq_zero_iff.1 hS.1.1) rfl hpc hpo hfp hw hp hnum hses
  · rw [if_neg hk] at hnb
    obtain ⟨gb, off, rfl, _⟩ := hS.1.form (by omega)
    exact lay_some h hg hgd gb off k c (needN k) b hS (by omega) hkc hc (by omega) (by omega) hc3 hfp hw hp hnum hses
theorem Room_any {A : Nat} {g : Lg} {w : World} (hg : LogAt A g w) (hn : g.n ≤ 1000000) (hp : g.place ≤ 1000000) :
    Calls Try.prog 30 #[.pointer (some ⟨A, 0, none⟩)] w fun e w' => e = .returned (.int .i64 ((g.n : Int) - g.place)) ∧ ∃ y, w' = w.drewN y := by
  have c2 := hg.cell 2
  have c3 := hg.cell 3
  simp only [lgcells] at c2 c3
  simp at c2 c3
  go_enter Try.func30, Try.ntmps30
  go_wp2_with fail
  go_quiet (fail)
  go_wp2
  go_ret
  exact ⟨rfl, _, rfl⟩
theorem Room_nil (w : World) :
    Calls Try.prog 30 #[.pointer none] w fun e w' => e = .returned (.int .i64 0) ∧ w = w' := by
  go_enter Try.func30, Try.ntmps30
  go_wp2_with fail
  go_ret
  exact ⟨rfl, rfl⟩
set_option maxHeartbeats 4000000 in
set_option maxRecDepth 100000 in
theorem Append_any {B D L N A : Nat} {P : Value} {m : Dk} {g : Lg} {w : World} (h : DiskAt B D L N P m w) (hg : LogAt A g w) (hgd : g.d = D) (hBA : B ≤ A) (p : Option Addr) (k c : Nat) (b : List Int) (hS : Src D L N P w p k b) (hkc : k ≤ c) (hc : c ≤ 100000000) (hpc : p = none → c = 0) (hpo : ∀ a, p = some a → a.spot = none)
    (hfp : g.frm + g.place ≤ 1000000) (hn : g.n ≤ 100000) (hw : m.writes < 800000) (hp : m.pend.length ≤ 800000) (hnum : 0 ≤ g.num ∧ g.num ≤ 4294967295) (hses : 0 ≤ g.ses ∧ g.ses ≤ 4294967295) :
    Calls Try.prog 27 #[.pointer (some ⟨A, 0, none⟩), .slice p k c] w (AppPost B D L N P A (appendOf g m b) w) := by
  have hbl := hS.1.1
  have HN0 := Need_any w (k : Int) (by omega)
  rw [needN_eq] at HN0
  have HN := Lib.hid HN0
  have c0 := hg.cell 0
  have c6 := hg.cell 6
  simp only [lgcells] at c0 c6
  simp at c0 c6
  have e0 : Hid (appendOf g m b = _) := appendOf.eq_1 g m b
  rw [hbl] at e0
  have hnl : needN k ≤ 100000000 := by have := needN_bd k; split at this <;> omega
  have H := Lib.hid h
  have HG := Lib.hid hg
  have HS := Lib.hid hS
  have HGd := Lib.hid hgd
  clear hbl HN0 h hg hS hgd
  by_cases hbr : g.broken = true
  · rw [hbr] at c6
    have e1 := Lib.hid (e0.out.trans (if_pos hbr))
    clear hbr
    go_enter Try.func27, Try.ntmps27
    go_wp2_with (go_at_call 32; with_reducible refine HN.out.mono ?_; rintro e w' ⟨rfl, rfl⟩)
    go_ret
    rw [e1.out]
    exact ⟨P, rfl, H.out, HG.out, LkF.refl⟩
  · have hbr' : g.broken = false := by simpa using hbr
    rw [hbr'] at c6
    have e1 := Lib.hid (e0.out.trans (if_neg hbr))
    clear e0
    by_cases hbig : 65535 < needN k
    · have e2 := Lib.hid (e1.out.trans (if_pos hbig))
      have d1 : decide ((65535 : Int) < (needN k : Int)) = true := decide_eq_true (by omega)
      generalize needN k = q at HN d1 hnl
      clear hbr hbr' e1 hbig
      go_enter Try.func27, Try.ntmps27
      go_wp2_with (go_at_call 32; with_reducible refine HN.out.mono ?_; rintro e w' ⟨rfl, rfl⟩)
      go_ret
      rw [e2.out]
      exact ⟨P, rfl, H.out, HG.out, LkF.refl⟩
    · have e2 := Lib.hid (e1.out.trans (if_neg hbig))
      have HRo := Lib.hid (Room_any HG.out (by omega) (by omega))
      clear e1
      by_cases hfull : g.n < g.place + needN k
      · have e3 := Lib.hid (e2.out.trans (if_pos hfull))
        have d1 : decide ((65535 : Int) < (needN k : Int)) = false := decide_eq_false (by omega)
        have d2 : decide ((g.n : Int) - (g.place : Int) < (needN k : Int)) = true := decide_eq_true (by omega)
        generalize needN k = q at HN d1 d2 hnl
        clear hbr hbr' e2 hbig hfull
        go_enter Try.func27, Try.ntmps27
        go_wp2_with (first | (go_at_call 32; with_reducible refine HN.out.mono ?_; rintro e w' ⟨rfl, rfl⟩) | (go_at_call 30; with_reducible refine HRo.out.mono ?_; rintro e w' ⟨rfl, y, rfl⟩))
        go_ret
        rw [e3.out]
        have hby : Below w.heap.size w (w.drewN y) := below_drewN (Below.refl _ _) y
        exact ⟨P, rfl, H.out.below hby, HG.out.below hby, LkF.of (DkF.new hby H.out.base)⟩
      · have e3 := Lib.hid (e2.out.trans (if_neg hfull))
        have HLy := Lib.hid (fun y => lay_any (H.out.below (below_drewN (Below.refl w.heap.size w) y)) (HG.out.below (below_drewN (Below.refl w.heap.size w) y)) HGd.out p k c b (HS.out.next (DkF.new (below_drewN (Below.refl _ _) y) H.out.base)) hkc hc hpc hpo (by omega) hfp (by omega) (by omega) hnum hses)
        have d1 : decide ((65535 : Int) < (needN k : Int)) = false := decide_eq_false (by omega)
        have d2 : decide ((g.n : Int) - (g.place : Int) < (needN k : Int)) = false := decide_eq_false (by omega)
        have hq : g.place + needN k ≤ 100000 := by omega
        generalize needN k = q at HN d1 d2 hnl HLy e3 hq
        clear hbr hbr' e2 hbig hfull
        go_enter Try.func27, Try.ntmps27
        go_wp2_with (first | (go_at_call 32; with_reducible refine HN.out.mono ?_; rintro e w' ⟨rfl, rfl⟩) | (go_at_call 30; with_reducible refine HRo.out.mono ?_; rintro e w' ⟨rfl, y, rfl⟩))
        with_reducible refine (HLy.out y).mono ?_
        clear HLy
        rintro e w1 ⟨P1, rfl, h1, hf0⟩
        have hf1 := (DkF.new (below_drewN (Below.refl w.heap.size w) y) H.out.base).trans hf0
        have hl1 := HG.out.d H.out hf1.bf
        clear hf0
        have H1 := Lib.hid h1
        have HF1 := Lib.hid hf1
        have HL1 := Lib.hid hl1
        clear h1 hf1 hl1
        generalize layGo g b q q 0 m = r at e3 H1 ⊢
        obtain ⟨m1, ec⟩ := r
        dsimp only at e3 H1 ⊢
        by_cases hec : ec = 0
        · subst hec
          have e4 := Lib.hid (e3.out.trans (if_pos rfl))
          have c3 := HL1.out.cell 3
          have c4 := HL1.out.cell 4
          simp only [lgcells] at c3 c4
          simp at c3 c4
          have f3 := HL1.out.frozen 3
          have f4 := HL1.out.frozen 4
          have t1 := HL1.out.turn (g' := { g with place := g.place + q }) 3 (.int .i64 ((g.place : Int) + q)) (by rw [← Int.natCast_add]; rfl) hBA (Below.refl B w1)
          have t2 := t1.1.turn (g' := { g with place := g.place + q, num := (g.num + 1) % 4294967296 }) 4 (.int .u32 ((g.num + 1) % 4294967296)) rfl hBA t1.2.1
          have hd2 := (H1.out.l HL1.out t1.2.2).l t1.1 t2.2.2
          have HD2 := Lib.hid hd2
          have HL2 := Lib.hid t2.1
          have HF2 : Hid (LkF B D L N P A w P1 _) := (LkF.of HF1.out).turn t2.2.1 (fun k hk => (t2.2.2 k hk).trans (t1.2.2 k hk))
          clear t1 t2 hd2
          go_wp2_with fail
          go_ret
          rw [e4.out]
          exact ⟨P1, rfl, HD2.out, HL2.out, HF2.out⟩
        · have e4 := Lib.hid (e3.out.trans (if_neg hec))
          have de : (ec != 0) = true := by simpa using hec
          have c6' := HL1.out.cell 6
          simp only [lgcells] at c6'
          simp at c6'
          have f6 := HL1.out.frozen 6
          have t1 := HL1.out.turn (g' := { g with broken := true }) 6 (.bool true) rfl hBA (Below.refl B w1)
          have HD2 := Lib.hid (H1.out.l HL1.out t1.2.2)
          have HL2 := Lib.hid t1.1
          have HF2 : Hid (LkF B D L N P A w P1 _) := (LkF.of HF1.out).turn t1.2.1 t1.2.2
          clear t1
          go_wp2_with fail
          go_ret
          rw [e4.out]
          exact ⟨P1, rfl, HD2.out, HL2.out, HF2.out⟩
end Go.Proofs.Yticiaiiedagalaa.dk
/- Sectors of a row; a conversion of bytes that are written out; bytes as a string. -/
namespace Go.Proofs.Yticiaiiedagalaa.dk
open Go.PlainAid Go.ChangeShapes Go.WideShapes Go.ChangeAt Go.RowKit

theorem lay_sec {l : List Int} {i : Nat} {b : List Int} (hb : b.length = 64) (hl : i * 64 + 64 ≤ l.length) : secOf (lay l (i * 64) b) i = b := by
  unfold secOf lay
  have h1 : (l.take (i * 64)).length = i * 64 := by rw [List.length_take]; omega
  rw [List.append_assoc, List.drop_append_of_le_length (by omega), List.drop_eq_nil_of_le (by omega), List.nil_append, List.take_append_of_le_length (by omega), List.take_of_length_le (by omega)]
theorem secOf_rep (n i : Nat) (h : i * 64 + 64 ≤ n) : secOf (List.replicate n 0) i = List.replicate 64 0 := by
  unfold secOf
  rw [List.drop_replicate, List.take_replicate]
  congr 1
  omega
theorem bytes_belowd (w : World) (s : ByteArray) (T : TypeId) : Below w.heap.size w (Lib.bytesWorld w T s) :=
  ⟨rfl, rfl, rfl, by rw [Lib.bytesWorld_size]; omega, fun k hk => Lib.bytesWorld_at_old w T s k hk⟩

theorem conv_lit (w : World) (x : Int) : ∃ w2, (convert 45 45 (.slice (some ⟨w.heap.size, 0, none⟩) 1 1)).run Try.prog (w.alloc (.cells #[.int .u8 x] 5)) = .ok (.slice (some ⟨w.heap.size, 0, none⟩) 1 1) w2 ∧
    w2.heap.size = w.heap.size + 1 ∧ w2.cell? ⟨w.heap.size, 0, none⟩ = some (.int .u8 x) ∧ Below w.heap.size w w2 := by
  have hsh : (w.alloc (.cells #[.int .u8 x] 5)).shape? w.heap.size = some (5, 1) := by
    simp [World.shape?, World.alloc, -World.alloc_eq]
  refine ⟨(w.alloc (.cells #[.int .u8 x] 5)).freeze ⟨w.heap.size, 1, none⟩ 1, ?_, ?_, ?_, ?_⟩
  · simp [convert, run_underlying Try.underlying45, run_underlying Try.underlying5, markStringish, Result.andThen, hsh, -World.alloc_eq]
  · simp [World.freeze, World.alloc, -World.alloc_eq]
  · simp [World.cell?, World.freeze, World.alloc, -World.alloc_eq]
    rw [Array.getElem_modify_self]
    simp
  · refine ⟨rfl, rfl, rfl, by simp [World.freeze, World.alloc, -World.alloc_eq], fun k hk => ?_⟩
    have h1 : w.heap.size ≠ k := by omega
    simp [World.freeze, World.alloc, -World.alloc_eq, Array.getElem?_modify, Array.getElem?_push, h1, Ne.symm h1]

theorem lay_other {l : List Int} {i k : Nat} {b : List Int} (hb : b.length = 64) (hl : i * 64 + 64 ≤ l.length) (h : i ≠ k) : secOf (lay l (i * 64) b) k = secOf l k := by
  unfold secOf lay
  apply List.ext_getElem?
  intro j
  by_cases hj : j < 64
  · rw [List.getElem?_take, if_pos hj, List.getElem?_take, if_pos hj, List.getElem?_drop, List.getElem?_drop]
    rcases Nat.lt_or_gt_of_ne h with h | h
    · rw [List.getElem?_append_right (by simp; omega), List.getElem?_drop]
      congr 1
      simp
      omega
    · rw [List.append_assoc, List.getElem?_append_left (by simp; omega), List.getElem?_take, if_pos (by omega)]
  · rw [List.getElem?_take, if_neg hj, List.getElem?_take, if_neg hj]
/-- Bytes as a string. -/
def strOf (l : List Int) : ByteArray := l.foldl (fun r n => r.push (UInt8.ofNat n.toNat)) ByteArray.empty
theorem conv_rd {W : World} {p : Option Addr} {n c : Nat} {l : List Int} (h : Rd W p n l) : (convert 45 9 (.slice p n c)).run Try.prog W = .ok (.string (strOf l)) W := by
  rw [run_convert_bytes_string W 45 9 5 p n c Try.underlying45 Try.underlying5 Try.underlying9]
  rcases Nat.eq_zero_or_pos n with rfl | h0
  · have hl := List.length_eq_zero_iff.1 h.1
    subst hl
    cases p with
    | none => simp [Conv.bytesToString, strOf]
    | some a => exact run_bytesToString W a 0 c [] (by simp [loadCells, loadCellsFrom])
  · obtain ⟨b, off, rfl, _, hc⟩ := h.2 h0
    refine run_bytesToString W _ _ _ l ?_
    have := run_loadCells_list (P := Try.prog) W ⟨b, off, none⟩ (bcells l) (fun j u hj => by
      have hjl : j < l.length := by
        obtain ⟨k, _⟩ := List.getElem?_eq_some_iff.1 hj
        rwa [bcells_length] at k
      rw [bcells_at l j hjl] at hj
      cases hj
      rw [add_off]
      exact hc j (by rw [← h.1]; exact hjl))
    rw [bcells_length, h.1] at this
    exact this

theorem fold_push : ∀ (l : List Int) (s : ByteArray), (l.foldl (fun r n => r.push (UInt8.ofNat n.toNat)) s).data.toList = s.data.toList ++ l.map fun n => UInt8.ofNat n.toNat
  | [], s => by simp
  | x :: l, s => by
    rw [List.foldl_cons, fold_push l]
    simp [ByteArray.push]
theorem strOf_data (l : List Int) : (strOf l).data.toList = l.map fun n => UInt8.ofNat n.toNat := by
  unfold strOf
  rw [fold_push]
  rfl
theorem strOf_size (l : List Int) : (strOf l).size = l.length := by
  have := congrArg List.length (strOf_data l)
  simpa using this
/-- A string's bytes. -/
def unstr (s : ByteArray) : List Int := s.data.toList.map fun b => (b.toNat : Int)
theorem unstr_length (s : ByteArray) : (unstr s).length = s.size := by simp [unstr]
theorem strOf_unstr (s : ByteArray) : strOf (unstr s) = s := by
  have h : (strOf (unstr s)).data.toList = s.data.toList := by
    rw [strOf_data]
    unfold unstr
    rw [List.map_map]
    conv => rhs; rw [← List.map_id s.data.toList]
    apply List.map_congr_left
    intro x _
    simp
  have h2 : (strOf (unstr s)).data = s.data := Array.toList_inj.1 h
  cases hs : strOf (unstr s) with
  | mk d => cases s with
    | mk d' => rw [hs] at h2; exact congrArg ByteArray.mk h2
theorem lay_sec2 {l : List Int} {n i j : Nat} {b : List Int} (hb : b.length = 64) (hl : l.length = n * 64) (hi : i < n) (hj : j < n) : secOf (lay l (i * 64) b) j = if i = j then b else secOf l j := by
  have e1 : i * 64 + 64 ≤ n * 64 := by omega
  by_cases h : i = j
  · subst h
    rw [if_pos rfl, lay_sec hb (by omega)]
  · rw [if_neg h, lay_other hb (by omega) h]
end Go.Proofs.Yticiaiiedagalaa.dk
/- What is laid is told: plain facts. -/
namespace Go.Proofs.Yticiaiiedagalaa.dk
open Go.PlainAid Go.ChangeShapes Go.WideShapes Go.ChangeAt Go.RowKit

def chunk (b : List Int) (i : Nat) : List Int := (b.drop (i * 48)).take 48
def pieceOf (s nu : Int) (b : List Int) (c i : Nat) : List Int := mk s nu i c (chunk b i)
theorem chunk_len (b : List Int) (i : Nat) : (chunk b i).length ≤ 48 := by unfold chunk; rw [List.length_take]; omega
theorem chunk_full (b : List Int) (i : Nat) (h : i * 48 + 48 ≤ b.length) : (chunk b i).length = 48 := by unfold chunk; rw [List.length_take, List.length_drop]; omega
theorem chunk_take (b : List Int) (i : Nat) : b.take (i * 48) ++ chunk b i = b.take ((i + 1) * 48) := by
  unfold chunk
  rw [show (i + 1) * 48 = i * 48 + 48 by omega, List.take_add]
/-- A record lies whole at a place. -/
structure RecHere (F : Nat → Option (List Int)) (n pl : Nat) (s nu : Int) (b : List Int) : Prop where
  fit : pl + needN b.length ≤ n
  big : needN b.length ≤ 65535
  s0 : 0 ≤ s ∧ s ≤ 4294967295
  nu0 : 0 ≤ nu ∧ nu ≤ 4294967295
  pc : ∀ i, i < needN b.length → F (pl + i) = some (pieceOf s nu b (needN b.length) i)
theorem RecHere.head {F : Nat → Option (List Int)} {n pl : Nat} {s nu : Int} {b : List Int} (h : RecHere F n pl s nu b) : F pl = some (pieceOf s nu b (needN b.length) 0) := h.pc 0 (by have := needN_bd b.length; omega)
theorem RecHere.cnt {F : Nat → Option (List Int)} {n pl : Nat} {s nu : Int} {b : List Int} (h : RecHere F n pl s nu b) (i : Nat) : fC (pieceOf s nu b (needN b.length) i) = needN b.length := mk_C _ _ _ _ _ (by omega) (by have := h.big; omega)
theorem RecHere.whole {F : Nat → Option (List Int)} {n pl : Nat} {s nu : Int} {b : List Int} (h : RecHere F n pl s nu b) : wholeF (fun i => F (pl + i)) (n - pl) = needN b.length := by
  have hn := needN_bd b.length
  have hf := h.fit
  have hc : (fC (pieceOf s nu b (needN b.length) 0)).toNat = needN b.length := by rw [h.cnt 0]; rfl
  have := wholeF_full (F := fun i => F (pl + i)) (k := n - pl) (by omega) h.head (by rw [hc]; omega) (fun i hi => by
    rw [hc] at hi ⊢
    rw [h.pc i hi]
    have e1 : fP (pieceOf s nu b (needN b.length) i) = i := mk_P _ _ _ _ _ (by omega) (by have := h.big; omega)
    have e2 : ∀ j, fS (pieceOf s nu b (needN b.length) j) = s := fun j => mk_S _ _ _ _ _ h.s0.1 h.s0.2
    have e3 : ∀ j, fN (pieceOf s nu b (needN b.length) j) = nu := fun j => mk_N _ _ _ _ _ h.nu0.1 h.nu0.2
    have e4 : i + 1 < needN b.length → fZ (pieceOf s nu b (needN b.length) i) = 48 := fun hl => by
      show ((chunk b i).length : Int) = 48
      rw [chunk_full b i (by split at hn <;> omega)]
      rfl
    simp only [okAt, e1, e2, e3, h.cnt, decide_true, Bool.and_true, Bool.and_eq_true, decide_eq_true_eq]
    exact ⟨trivial, e4⟩)
  rw [this, hc]
theorem RecHere.join {F : Nat → Option (List Int)} {n pl : Nat} {s nu : Int} {b : List Int} (h : RecHere F n pl s nu b) : ∀ k, k ≤ needN b.length → joinF (fun i => F (pl + i)) k = b.take (k * 48)
  | 0, _ => by simp [joinF, joinOf]
  | k + 1, hk => by
    rw [joinF_succ (fun i => F (pl + i)) k _ (h.pc k (by omega)), h.join k (by omega)]
    rw [show fB (pieceOf s nu b (needN b.length) k) = chunk b k from mk_B _ _ _ _ _, chunk_take]
theorem RecHere.told {F : Nat → Option (List Int)} {n pl : Nat} {s nu : Int} {b : List Int} (h : RecHere F n pl s nu b) : joinF (fun i => F (pl + i)) (needN b.length) = b := by
  rw [h.join _ (Nat.le_refl _), List.take_of_length_le (by have := needN_bd b.length; omega)]
theorem gath_rec {F : Nat → Option (List Int)} {n pl : Nat} {s nu : Int} {b : List Int} (h : RecHere F n pl s nu b) (f : Nat) (num : Int) (last : Option (List Int)) (out : List (List Int)) (hs : stopAt last num (pieceOf s nu b (needN b.length) 0) = false) :
    gathF F n (f + 1) pl num last out = gathF F n f (pl + needN b.length) ((nu + 1) % 4294967296) (some (pieceOf s nu b (needN b.length) 0)) (out ++ [b]) := by
  have hn := needN_bd b.length
  have hf := h.fit
  rw [gathF.eq_2, if_pos (by omega), h.whole, if_neg (by omega), h.head, h.told]
  simp only [Option.getD_some, hs]
  rw [show fN (pieceOf s nu b (needN b.length) 0) = nu from mk_N _ _ _ _ _ h.nu0.1 h.nu0.2]
  rfl
theorem gath_out {F : Nat → Option (List Int)} {n pl : Nat} (f : Nat) (num : Int) (last : Option (List Int)) (out : List (List Int)) (h : n ≤ pl) : gathF F n f pl num last out = (pl, num, out) := by
  cases f with
  | zero => rfl
  | succ f => rw [gathF.eq_2, if_neg (by omega)]
theorem gath_none {F : Nat → Option (List Int)} {n pl : Nat} (f : Nat) (num : Int) (last : Option (List Int)) (out : List (List Int)) (h : F pl = none) : gathF F n f pl num last out = (pl, num, out) := by
  cases f with
  | zero => rfl
  | succ f =>
    rw [gathF.eq_2]
    split
    · rw [wholeF_none (by omega) h, if_pos rfl]
    · rfl
/-- A piece that is not the first one of a record begins none. -/
theorem gath_mid {F : Nat → Option (List Int)} {n pl : Nat} (f : Nat) (num : Int) (last : Option (List Int)) (out : List (List Int)) (q : List Int) (h : F pl = some q) (hp : fP q ≠ 0) : gathF F n f pl num last out = (pl, num, out) := by
  cases f with
  | zero => rfl
  | succ f =>
    rw [gathF.eq_2]
    split
    · have : wholeF (fun i => F (pl + i)) (n - pl) = 0 := by
        by_cases hc : (fC q).toNat = 0
        · by_cases hl : (fC q).toNat ≤ n - pl
          · rw [wholeF_full (F := fun i => F (pl + i)) (k := n - pl) (by omega) h hl (fun i hi => by omega), hc]
          · exact wholeF_long (F := fun i => F (pl + i)) (by omega) h (by omega)
        · exact wholeF_bad (F := fun i => F (pl + i)) (by omega) h 0 (by omega) (by omega) (by
            show okAt q _ 0 (F (pl + 0)) = false
            rw [Nat.add_zero, h]
            simp [okAt, hp])
      rw [this, if_pos rfl]
    · rfl
end Go.Proofs.Yticiaiiedagalaa.dk
