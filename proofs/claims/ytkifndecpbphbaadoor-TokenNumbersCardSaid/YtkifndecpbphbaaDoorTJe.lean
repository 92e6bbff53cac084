/- strings.Builder's first WriteByte; Quote. -/
import Derived.Test.YtkifndecpbphbaaDoorTJd
import Derived.Test.YtkifndecpbphbaaDoorShelfT
import Derived.Test.YtkifndecpbphbaaDoorUJe
namespace Go.Proofs.YtkifndecpbphbaaDoor.utf
open Go.PlainAid Go.ChangeShapes Go.WideShapes Go.ChangeAt Go.RowKit

set_option maxRecDepth 100000 in
set_option maxHeartbeats 2000000 in
theorem copyCheck_new (b : Nat) (w : World) (hbk : w.heap[b]? = some (.cells #[.pointer none, .slice none 0 0] 45 (0, 0))) :
    Calls Tryd.prog 24 #[.pointer (some ⟨b, 0, none⟩)] w fun e w' => e = .returned (.tuple #[]) ∧ w' = w.setCell ⟨b, 0, none⟩ (.pointer (some ⟨b, 0, none⟩)) := by
  obtain ⟨j, hj, hjs⟩ := Option.map_eq_some_iff.1 sizeBuilder
  have h0 : w.cell? ⟨b, 0, none⟩ = some (.pointer none) := by rw [Lib.cell_of_heap hbk]; rfl
  have hfz : w.frozen? ⟨b, 0, none⟩ = false := Lib.frozen_of_heap hbk 0
  have hsh : w.shape? b = some (45, 2) := by unfold World.shape?; rw [hbk]; rfl
  clear hbk
  go_enter Tryd.func24, Tryd.ntmps24
  go_wp2
  rw [Lib.run_to_unsafe w ⟨b, 0, none⟩ Tryd.underlying43 Tryd.underlying75 hj (by rw [hjs]; decide) hsh (Nat.zero_lt_succ 1)]
  simp only [Result.andThen]
  rw [Oper.upon_value]
  go_wp2
  rw [run_callFunc_extern Tryd.func41 (by kernel_rfl) (by kernel_rfl) (by kernel_rfl) (e := Extern.AbiNoEscape.same) (by kernel_rfl)]
  rw [Lib.run_noEscape]
  simp only [Result.andThen]
  rw [Oper.upon_value]
  go_wp2
  rw [Lib.run_from_unsafe w ⟨b, 0, none⟩ Tryd.underlying75 Tryd.underlying43 hj hsh liesBuilder]
  simp only [Result.andThen]
  rw [Oper.upon_value]
  go_wp2
  go_end0
  exact ⟨rfl, rfl⟩
set_option maxRecDepth 100000 in
set_option maxHeartbeats 2000000 in
theorem WriteByte_new (b : Nat) (c : Int) (w : World) (hbk : w.heap[b]? = some (.cells #[.pointer none, .slice none 0 0] 45 (0, 0))) :
    Calls Tryd.prog 15 #[.pointer (some ⟨b, 0, none⟩), .int .u8 c] w fun e w' => e = .returned .nilIface ∧ (Lib.BuilderAt 45 5 b b (.pointer (some ⟨b, 0, none⟩)) [.int .u8 c] w' ∧ Below b w w') := by
  obtain ⟨i0, hi, hz0, hz1, hz2⟩ := info_parts infoByte
  have hlt : b < w.heap.size := (Array.getElem?_eq_some_iff.1 hbk).1
  have hS := dk.stepSet 0 (.pointer (some ⟨b, 0, none⟩)) (Nat.le_refl b) ⟨hbk, Below.refl b w⟩
  have hk1 : (w.setCell ⟨b, 0, none⟩ (.pointer (some ⟨b, 0, none⟩))).heap[b]? = some (.cells #[.pointer (some ⟨b, 0, none⟩), .slice none 0 0] 45 (0, 0)) := by simpa using hS.1
  have hb1 := hS.2
  have HCC := Lib.hid (copyCheck_new b w hbk)
  have hsz : (w.setCell ⟨b, 0, none⟩ (.pointer (some ⟨b, 0, none⟩))).heap.size = w.heap.size := by have h := hb1.size; simp
  obtain ⟨w1, hw1⟩ : ∃ w1, w1 = w.setCell ⟨b, 0, none⟩ (.pointer (some ⟨b, 0, none⟩)) := ⟨_, rfl⟩
  rw [← hw1] at hk1 hb1 hsz HCC
  obtain ⟨v, hv, hk1, hown, hne⟩ : ∃ v, v = .slice none 0 0 ∧ w1.heap[b]? = some (.cells #[.pointer (some ⟨b, 0, none⟩), v] 45 (0, 0)) ∧ w1.ownsRow b 5 1 v 0 [] ∧ some b ≠ v.ownBlock := ⟨_, rfl, hk1, World.ownsRow_nil w1 b 5 1, by simp [Value.ownBlock]⟩
  have c1 : w1.cell? ⟨b, 1, none⟩ = some v := by rw [Lib.cell_of_heap hk1]; rfl
  have HNe := Lib.hid hne
  have HK1 := Lib.hid hk1
  have HB1 := Lib.hid hb1
  have HZ := Lib.hid hsz
  clear hS hw1 hbk hk1 hb1 hsz hne hv
  obtain ⟨v', w3, hrun, hown', hgrow, _⟩ := run_append_own (P := Tryd.prog) (w1.alloc (.cells #[.int .u8 c] 5)) b 33 33 5 i0 (.int .u8 0) 1 1 Tryd.underlying33 hi hz0 hz1 hz2 rfl (by decide) v 0 [] (hown.alloc _) ⟨w1.heap.size, 0, none⟩ 1 1 [.int .u8 c] rfl
    (fun j u hj => by
      match j, hj with
      | 0, hj => simp at hj; subst hj; simp [Addr.add]) (fun u hu => by simp at hu; subst hu; rfl) (by unfold maxLen; omega) (by omega) (by have := HZ.out; simp; omega)
  have hb2 : w3.heap[b]? = some (.cells #[.pointer (some ⟨b, 0, none⟩), v] 45 (0, 0)) := by
    rw [hgrow.block b (by have := HZ.out; simp; omega) HNe.out, Lib.alloc_old w1 _ b (by have := HZ.out; omega)]
    exact HK1.out
  have d0 : w3.cell? ⟨b, 0, none⟩ = some (.pointer (some ⟨b, 0, none⟩)) := by rw [Lib.cell_of_heap hb2]; rfl
  have d1 : w3.cell? ⟨b, 1, none⟩ = some v := by rw [Lib.cell_of_heap hb2]; rfl
  have f1 : w3.frozen? ⟨b, 1, none⟩ = false := Lib.frozen_of_heap hb2 1
  obtain ⟨g, cap, rfl⟩ : ∃ g cap, v' = .slice (some ⟨g, 0, none⟩) 1 cap := by
    rcases hown'.2 with ⟨_, h0⟩ | ⟨g, cap, cur, hv, _⟩
    · omega
    · exact ⟨g, cap, hv⟩
  have HRun := Lib.hid hrun
  have HG := Lib.hid hgrow
  have HO := Lib.hid hown'
  have HO1 := Lib.hid hown
  have HB2 := Lib.hid hb2
  clear hrun hgrow hown' hown hb2
  go_enter Tryd.func15, Tryd.ntmps15
  go_wp2_with (go_at_call 24; refine HCC.out.mono ?_)
  rintro e w2 ⟨rfl, rfl⟩
  go_wp2_with (at_builtin; refine dk.wpList_append_run rfl _ _ _ rfl _ _ _ _ rfl rfl HRun.out ?_)
  go_ret
  refine ⟨rfl, ?_, ?_⟩
  · exact Lib.BuilderAt.put (T := 45) (e := 5) (Nat.le_refl b) HB2.out (bs' := [.int .u8 c]) (by simpa using HO.out) (by decide)
  · exact (((HB1.out.trans ((Below.refl b w2).alloc (by have := HZ.out; omega) _)).grown HG.out (by have := HZ.out; simp; omega) (fun k hk => (HO1.out.lt k hk).1))).setCell (p := ⟨b, 1, none⟩) (Nat.le_refl b) _
end Go.Proofs.YtkifndecpbphbaaDoor.utf
/- Quote: a text in signs. -/
namespace Go.Proofs.YtkifndecpbphbaaDoor.dk
open Go.PlainAid Go.ChangeShapes Go.WideShapes Go.ChangeAt Go.RowKit

/-- A byte in a quoted text. -/
def tqb (x : Int) : List Int := if x = 39 ∨ x = 92 then [92, x] else if x < 32 then utf.qb x else [x]
def tqs (l : List Int) : List Int := (l.map tqb).flatten
def quoteL (l : List Int) : List Int := 39 :: (tqs l ++ [39])
theorem tqs_drop {l : List Int} {k : Nat} (hk : k < l.length) : tqs (l.drop k) = tqb (l.getD k 0) ++ tqs (l.drop (k + 1)) := by
  have e : l.drop k = l.getD k 0 :: l.drop (k + 1) := by
    rw [List.drop_eq_getElem_cons hk, List.getD_eq_getElem?_getD, List.getElem?_eq_getElem hk]
    rfl
  rw [e]
  rfl
theorem strCells_ints (t : ByteArray) : Lib.strCells t = utf.bcells (unstr t) := by
  unfold Lib.strCells utf.bcells unstr
  rw [List.map_map]
  rfl
theorem put_s {B b : Nat} {xs : List Int} {W : World} (h : Lib.BuilderAt 45 5 B b (.pointer (some ⟨b, 0, none⟩)) (utf.bcells xs) W) (hx : xs.length ≤ 10000000) (t : ByteArray) (h0 : 0 < t.size) (ht : t.size ≤ 1000) (hB : B ≤ W.heap.size) :
    Calls Tryd.prog 16 #[.pointer (some ⟨b, 0, none⟩), .string t] W fun e w' => e = .returned (.tuple #[.int .i64 t.size, .nilIface]) ∧ (Lib.BuilderAt 45 5 B b (.pointer (some ⟨b, 0, none⟩)) (utf.bcells (xs ++ unstr t)) w' ∧ Below B W w') := by
  have := utf.WriteString_any B b (utf.bcells xs) t h0 W h (by rw [utf.bcells_length]; omega) hB
  rw [strCells_ints, ← utf.bcells_append] at this
  exact this
theorem put_b {B b : Nat} {xs : List Int} {W : World} (h : Lib.BuilderAt 45 5 B b (.pointer (some ⟨b, 0, none⟩)) (utf.bcells xs) W) (hx : xs.length ≤ 10000000) (c : Int) (hB : B ≤ W.heap.size) :
    Calls Tryd.prog 15 #[.pointer (some ⟨b, 0, none⟩), .int .u8 c] W fun e w' => e = .returned .nilIface ∧ (Lib.BuilderAt 45 5 B b (.pointer (some ⟨b, 0, none⟩)) (utf.bcells (xs ++ [c])) w' ∧ Below B W w') := by
  have := utf.WriteByte_any B b (utf.bcells xs) c W h (by rw [utf.bcells_length]; omega) hB
  rw [show utf.bcells xs ++ [.int .u8 c] = utf.bcells (xs ++ [c]) by rw [utf.bcells_append]; rfl] at this
  exact this
theorem tqb_oct {x : Int} (h : 0 ≤ x ∧ x ≤ 255) : utf.Oct (tqb x) := by
  unfold tqb
  split
  · intro y hy; simp at hy; omega
  · split
    · exact utf.qb_oct h.1 h.2
    · intro y hy; simp at hy; omega
theorem tqb_len (x : Int) : 1 ≤ (tqb x).length ∧ (tqb x).length ≤ 6 := by
  unfold tqb
  split
  · exact ⟨by show 1 ≤ 2; decide, by show 2 ≤ 6; decide⟩
  · split
    · exact utf.qb_len x
    · exact ⟨Nat.le_refl 1, by show 1 ≤ 6; decide⟩
theorem tqs_oct : ∀ {l : List Int}, utf.Oct l → utf.Oct (tqs l)
  | [], _ => fun x hx => by cases hx
  | a :: t, h => fun x hx => by
    have hx : x ∈ tqb a ++ tqs t := hx
    rcases List.mem_append.1 hx with hx | hx
    · exact tqb_oct (h a (by simp)) x hx
    · exact tqs_oct (fun y hy => h y (by simp [hy])) x hx
theorem cut_one (s : ByteArray) (k : Nat) (hk : k < s.size) : s.extract k (k + 1) = ⟨#[s[k]]⟩ := by
  apply ByteArray.ext
  apply Array.ext
  · simp
    show min (k + 1) s.size - k = 1
    omega
  · intro i h1 h2
    simp at h2
    subst h2
    simp
    rfl
theorem u8_cases {P : UInt8 → Prop} (h : ∀ n : Fin 32, P (UInt8.ofNat n.val)) (u : UInt8) (hu : u.toNat < 32) : P u := by
  have := h ⟨u.toNat, hu⟩
  rwa [show UInt8.ofNat u.toNat = u from UInt8.ofNat_toNat] at this
theorem trim_q (u : UInt8) (hu : u.toNat < 32) : (⟨(Lib.trimB (strOf (34 :: (utf.qs (utf.ints ⟨#[u]⟩) ++ [34]))).data.toList 34).toArray⟩ : ByteArray) = strOf (tqb ((u.toNat : Nat) : Int)) :=
  u8_cases (P := fun u => (⟨(Lib.trimB (strOf (34 :: (utf.qs (utf.ints ⟨#[u]⟩) ++ [34]))).data.toList 34).toArray⟩ : ByteArray) = strOf (tqb ((u.toNat : Nat) : Int))) (by decide +kernel) u hu
theorem qs_one (u : UInt8) : (utf.qs (utf.ints ⟨#[u]⟩)).length ≤ 6 := by
  show (utf.qb ((u.toNat : Nat) : Int) ++ []).length ≤ 6
  rw [List.append_nil]
  exact (utf.qb_len _).2
theorem own_past {B b : Nat} {v : Value} {bs : List Value} {W W' : World} (h : Lib.BuilderAt 45 5 B b v bs W) (hb : Below W.heap.size W W') : Lib.BuilderAt 45 5 B b v bs W' := by
  obtain ⟨hB, u, hbk, hown, hne⟩ := h
  exact ⟨hB, u, (hb.block _ (lt_of_block hbk)).trans hbk, own_block_keeps hown (fun g hg => hb.block g (hown.lt g hg).2), hne⟩
set_option maxRecDepth 100000 in
set_option maxHeartbeats 4000000 in
theorem Quote_any (w : World) (s : ByteArray) (hs : s.size ≤ 100000) :
    Calls Tryd.prog 11 #[.string s] w fun e w' => e = .returned (.string (strOf (quoteL (unstr s)))) ∧ Below w.heap.size w w' := by
  have hbk : (w.alloc (.cells #[.pointer none, .slice none 0 0] 45)).heap[w.heap.size]? = some (.cells #[.pointer none, .slice none 0 0] 45 (0, 0)) := heap_alloc_new w _
  have HW1 := Lib.hid (utf.WriteByte_new w.heap.size 39 _ hbk)
  have hb0 : Below w.heap.size w (w.alloc (.cells #[.pointer none, .slice none 0 0] 45)) := (Below.refl _ _).alloc (Nat.le_refl _) _
  have HB0 := Lib.hid hb0
  have hlen := unstr_length s
  obtain ⟨Q, hQ⟩ : ∃ Q, Q = quoteL (unstr s) := ⟨_, rfl⟩
  have HQ : Hid (Q = [39] ++ (tqs ((unstr s).drop 0) ++ [39])) := hQ
  have HO : Hid (utf.Oct Q) := by
    have h1 := tqs_oct (unstr_oct s)
    rw [hQ]
    intro x hx
    unfold quoteL at hx
    simp only [List.mem_cons, List.mem_append, List.not_mem_nil, or_false] at hx
    rcases hx with rfl | hx | rfl
    · omega
    · exact h1 x hx
    · omega
  have HLn := Lib.hid hlen
  rw [← hQ]
  clear hQ hbk hb0 hlen
  go_enter Tryd.func11, Tryd.ntmps11
  go_wp2_with (go_at_call 15; refine HW1.out.mono ?_)
  rintro e w1 ⟨rfl, hB1, hb1⟩
  have HB1 := Lib.hid hB1
  have HB := Lib.hid (HB0.out.trans hb1)
  clear hB1 hb1 HB0 HW1
  go_wp2_with fail
  go_loopw [9] (fun i wr => ∃ (k : Nat) (xs : List Int), i = .int .i64 k ∧ k ≤ s.size ∧ xs.length ≤ 1 + 6 * k ∧ Hid (Q = xs ++ (tqs ((unstr s).drop k) ++ [39])) ∧ Hid (Lib.BuilderAt 45 5 w.heap.size w.heap.size (.pointer (some ⟨w.heap.size, 0, none⟩)) (utf.bcells xs) wr) ∧ Hid (Below w.heap.size w wr)) (fun i _ => s.size - (intOf i).toNat)
  case atStart => exact ⟨0, [39], rfl, Nat.zero_le _, by simp, HQ, HB1, HB⟩
  case round =>
    clear HQ HB1 HB
    obtain ⟨k, xs, rfl, hk, hxl, hN, hBd, hb⟩ := hrel
    have hbs := hb.out.size
    by_cases hkl : k < s.size
    · have hat := byte_at s k hkl
      have hq := hN.out
      rw [tqs_drop (by rw [HLn.out]; exact hkl), ← hat] at hq
      have het := cut_one s k hkl
      have hu : (s[k]).toNat < 256 := s[k].toNat_lt
      have hbad : Hid (Q = xs ++ (tqb ((s[k].toNat : Nat) : Int)) ++ (tqs ((unstr s).drop (k + 1)) ++ [39])) := by show _ = _; rw [hq]; simp only [List.append_assoc]
      clear hN hq hat
      have wk : IntKind.i64.wrap ((k : Int) + 1) = ((k + 1 : Nat) : Int) := by rw [IntKind.wrap_i64]; omega
      generalize s[k] = u at het hbad hu
      by_cases h39 : u = 39
      · subst h39
        have ht : unstr ((⟨#[92]⟩ : ByteArray) ++ ⟨#[39]⟩) = tqb (((39 : UInt8).toNat : Nat) : Int) := by decide +kernel
        have hP := put_s hBd.out (by omega) ((⟨#[92]⟩ : ByteArray) ++ ⟨#[39]⟩) (by decide) (by decide) hbs
        rw [ht] at hP
        have hl6 := (tqb_len (((39 : UInt8).toNat : Nat) : Int)).2
        have HP := Lib.hid hP
        clear hP ht
        generalize tqb (((39 : UInt8).toNat : Nat) : Int) = y at hbad HP hl6
        go_wp2_with (go_at_call 16; refine HP.out.mono ?_)
        rintro e w3 ⟨rfl, hB3, hb3⟩
        have HB3 := Lib.hid hB3
        have Hb3 := Lib.hid (hb.out.trans hb3)
        clear hB3 hb3 hBd hb hbs
        go_wp2_with fail
        constructor
        · exact ⟨k + 1, _, by go_num, by omega, by rw [List.length_append]; omega, hbad, HB3, Hb3⟩
        · simp [intOf]; omega
      by_cases h92 : u = 92
      · subst h92
        have ht : unstr ((⟨#[92]⟩ : ByteArray) ++ ⟨#[92]⟩) = tqb (((92 : UInt8).toNat : Nat) : Int) := by decide +kernel
        have hP := put_s hBd.out (by omega) ((⟨#[92]⟩ : ByteArray) ++ ⟨#[92]⟩) (by decide) (by decide) hbs
        rw [ht] at hP
        have hl6 := (tqb_len (((92 : UInt8).toNat : Nat) : Int)).2
        have HP := Lib.hid hP
        clear hP ht
        generalize tqb (((92 : UInt8).toNat : Nat) : Int) = y at hbad HP hl6
        go_wp2_with (go_at_call 16; refine HP.out.mono ?_)
        rintro e w3 ⟨rfl, hB3, hb3⟩
        have HB3 := Lib.hid hB3
        have Hb3 := Lib.hid (hb.out.trans hb3)
        clear hB3 hb3 hBd hb hbs
        go_wp2_with fail
        constructor
        · exact ⟨k + 1, _, by go_num, by omega, by rw [List.length_append]; omega, hbad, HB3, Hb3⟩
        · simp [intOf]; omega
      have hx39 : ((u.toNat : Nat) : Int) ≠ 39 := fun e => h39 (UInt8.toNat_inj.1 (by show u.toNat = 39; omega))
      have hx92 : ((u.toNat : Nat) : Int) ≠ 92 := fun e => h92 (UInt8.toNat_inj.1 (by show u.toNat = 92; omega))
      have b39 : (u == 39) = false := beq_eq_false_iff_ne.2 h39
      have b92 : (u == 92) = false := beq_eq_false_iff_ne.2 h92
      have hix : ∀ (h : 0 < (⟨#[u]⟩ : ByteArray).size), (⟨#[u]⟩ : ByteArray)[0]'h = u := fun _ => rfl
      by_cases h32 : ((u.toNat : Nat) : Int) < 32
      · have d32 : decide (((u.toNat : Nat) : Int) < 32) = true := decide_eq_true h32
        have hl6 := (tqb_len ((u.toNat : Nat) : Int)).2
        have hl1 := (tqb_len ((u.toNat : Nat) : Int)).1
        have hTr := fun v => Tryd.strings_Trim_one (strOf (34 :: (utf.qs (utf.ints ⟨#[u]⟩) ++ [34]))) 34 (by decide) v (by rw [strOf_size]; show (utf.qs (utf.ints ⟨#[u]⟩) ++ [34]).length + 1 ≤ _; rw [List.length_append]; have := qs_one u; simp only [List.length_cons, List.length_nil]; omega)
        rw [trim_q u (by omega)] at hTr
        have hQu := fun v => utf.Quote_any ⟨#[u]⟩ v (by show 1 ≤ 1000; decide)
        have hun : unstr (strOf (tqb ((u.toNat : Nat) : Int))) = tqb ((u.toNat : Nat) : Int) := unstr_strOf _ (tqb_oct ⟨by omega, by omega⟩)
        have hP := fun v (h : Lib.BuilderAt 45 5 w.heap.size w.heap.size (.pointer (some ⟨w.heap.size, 0, none⟩)) (utf.bcells xs) v) (hv : w.heap.size ≤ v.heap.size) => put_s h (by omega) (strOf (tqb ((u.toNat : Nat) : Int))) (by rw [strOf_size]; omega) (by rw [strOf_size]; omega) hv
        rw [hun] at hP
        have HTr := Lib.hid hTr
        have HQu := Lib.hid hQu
        have HP := Lib.hid hP
        clear hTr hQu hP hun hx39 hx92 h39 h92 h32
        change ∀ v, Calls Tryd.prog 18 #[.string ⟨#[u]⟩] v fun e w' => e = .returned (.string (strOf (34 :: (utf.qs (utf.ints ⟨#[u]⟩) ++ [34])))) ∧ Below v.heap.size v w' at HQu
        generalize tqb ((u.toNat : Nat) : Int) = y at hbad HP hl6 hl1 HTr
        generalize strOf (34 :: (utf.qs (utf.ints ⟨#[u]⟩) ++ [34])) = qq at HTr HQu
        generalize strOf y = yy at HTr HP
        have HQu := Lib.hid HQu
        go_wp2_with (go_at_call 18; with_reducible refine (HQu.out _).mono ?_)
        rintro e w3 ⟨rfl, hb3⟩
        have HB3 := Lib.hid (own_past hBd.out hb3)
        have Hb3 := Lib.hid (hb.out.trans (hb3.mono hbs))
        clear hb3 hBd hb hbs
        go_wp2_with (go_at_call 17; with_reducible refine (HTr.out _).mono ?_)
        rintro e w4 ⟨rfl, hw4⟩
        have HB4 : Hid (Lib.BuilderAt 45 5 w.heap.size w.heap.size (.pointer (some ⟨w.heap.size, 0, none⟩)) (utf.bcells xs) w4) := by
          rcases hw4 with rfl | rfl
          · exact HB3.out
          · exact own_past HB3.out (Below.refl _ _).drew
        have Hb4 : Hid (Below w.heap.size w w4) := by
          rcases hw4 with rfl | rfl
          · exact Hb3.out
          · exact Hb3.out.drew
        clear hw4 HB3 Hb3
        go_wp2_with (go_at_call 16; with_reducible refine (HP.out _ HB4.out Hb4.out.size).mono ?_)
        rintro e w5 ⟨rfl, hB5, hb5⟩
        have HB5 := Lib.hid hB5
        have Hb5 := Lib.hid (Hb4.out.trans hb5)
        clear hB5 hb5
        go_wp2_with fail
        constructor
        · exact ⟨k + 1, _, by go_num, by omega, by rw [List.length_append]; omega, hbad, HB5, Hb5⟩
        · simp [intOf]; omega
      · have d32 : decide (((u.toNat : Nat) : Int) < 32) = false := decide_eq_false h32
        have ht : tqb ((u.toNat : Nat) : Int) = [((u.toNat : Nat) : Int)] := by unfold tqb; rw [if_neg (by omega), if_neg h32]
        rw [ht] at hbad
        have hP := put_s hBd.out (by omega) ⟨#[u]⟩ (by show 0 < 1; decide) (by show 1 ≤ 1000; decide) hbs
        have HP := Lib.hid hP
        clear hP ht hx39 hx92 h39 h92 h32
        go_wp2_with (go_at_call 16; refine HP.out.mono ?_)
        rintro e w3 ⟨rfl, hB3, hb3⟩
        have HB3 := Lib.hid hB3
        have Hb3 := Lib.hid (hb.out.trans hb3)
        clear hB3 hb3 hBd hb hbs
        go_wp2_with fail
        constructor
        · exact ⟨k + 1, _, by go_num, by omega, by rw [List.length_append]; show xs.length + 1 ≤ _; omega, hbad, HB3, Hb3⟩
        · simp [intOf]; omega
    · have hks : k = s.size := by omega
      have hd : decide ((k : Int) < s.size) = false := decide_eq_false (by omega)
      have hq' : Hid (Q = xs ++ [39]) := by
        have := hN.out
        rw [List.drop_eq_nil_of_le (by rw [HLn.out]; omega)] at this
        exact this
      clear hN hks
      go_wp2_with (first | (go_at_call 15; with_reducible refine (put_b hBd.out (by omega) 39 (by omega)).mono ?_))
      rintro e w3 ⟨rfl, hB3, hb3⟩
      have z3 := hb3.size
      rw [utf.octs_cells (by rw [← hq'.out]; exact HO.out)] at hB3
      have hS := Tryd.Builder_String_any w.heap.size w.heap.size (utf.octs (xs ++ [39])) w3 (.inr hB3) (by omega)
      rw [utf.strOf_arr, ← hq'.out] at hS
      have HS := Lib.hid hS
      have HB4 := Lib.hid (hb.out.trans hb3)
      clear HO hq' hS hB3 hb3 hb hbs
      go_wp2_with fail
      refine HS.out.mono ?_
      rintro e w6 ⟨rfl, hb6⟩
      go_wp2
      go_ret
      exact ⟨rfl, HB4.out.trans hb6⟩
end Go.Proofs.YtkifndecpbphbaaDoor.dk
/- awake: the document's example. -/
namespace Go.Proofs.YtkifndecpbphbaaDoor.dk
open Go.PlainAid Go.ChangeShapes Go.WideShapes Go.ChangeAt Go.RowKit

def awS : ByteArray := ⟨#[36, 46, 46, 97, 91, 63, 64, 46, 120, 60, 61, 45, 49, 46, 53, 93]⟩
def awR : TR := allL (unstr awS)
theorem aw_facts : awR.2 = 0 ∧ awR.1.length = 11 := by decide +kernel
theorem aw_one : strOf (awR.1.getD 1 default).1.s = ⟨#[46, 46]⟩ := by decide +kernel
theorem aw_nine : (awR.1.getD 9 default).1.neg = true ∧ (awR.1.getD 9 default).1.dg = ⟨#[49, 53]⟩ ∧ (awR.1.getD 9 default).1.ex = -1 := by decide +kernel
theorem aw_quote : strOf (quoteL (unstr ⟨#[97, 39]⟩)) = ⟨#[39, 97, 92, 39, 39]⟩ := by decide +kernel
/-- A token's seven cells. -/
theorem RdT.seven {W : World} {b n : Nat} {l : List TT} (h : RdT W (some ⟨b, 0, none⟩) n l) (i : Nat) (hi : i < n) :
    W.cell? ⟨b, i * 7, none⟩ = some (.int .i64 (l.getD i default).1.kind) ∧ W.cell? ⟨b, i * 7 + 1, none⟩ = some (.string (strOf (l.getD i default).1.s)) ∧ W.cell? ⟨b, i * 7 + 2, none⟩ = some (.bool (l.getD i default).1.neg) ∧
    W.cell? ⟨b, i * 7 + 3, none⟩ = some (.string (l.getD i default).1.dg) ∧ W.cell? ⟨b, i * 7 + 4, none⟩ = some (.int .i64 (l.getD i default).1.ex) ∧ W.cell? ⟨b, i * 7 + 5, none⟩ = some (.int .i64 ((l.getD i default).2.1 : Int)) ∧ W.cell? ⟨b, i * 7 + 6, none⟩ = some (.int .i64 ((l.getD i default).2.2 : Int)) := by
  obtain ⟨b', hp, _, hc⟩ := h.2 (by omega)
  injection hp with hp
  injection hp with hp
  subst hp
  exact ⟨hc i hi 0 (by omega), hc i hi 1 (by omega), hc i hi 2 (by omega), hc i hi 3 (by omega), hc i hi 4 (by omega), hc i hi 5 (by omega), hc i hi 6 (by omega)⟩
theorem RdT.form {W : World} {p : Option Addr} {n : Nat} {l : List TT} (h : RdT W p n l) (h0 : 0 < n) : ∃ b, p = some ⟨b, 0, none⟩ := by
  obtain ⟨b, hp, _⟩ := h.2 h0
  exact ⟨b, hp⟩
set_option maxRecDepth 100000 in
set_option maxHeartbeats 2000000 in
theorem awake_any (w : World) (hF : utf.Forms w) (mx : Int) (hm : w.cell? ⟨1, 0, none⟩ = some (.int .i64 mx)) :
    Calls Tryd.prog 8 #[] w fun e w' => e = .returned (.bool true) ∧ Below w.heap.size w w' := by
  have hA : Calls Tryd.prog 9 #[.string awS] w (AllP w awR) := All_any w awS hF (by decide) mx hm
  have hQ := fun v => Quote_any v ⟨#[97, 39]⟩ (by decide)
  rw [aw_quote] at hQ
  have HQ := Lib.hid hQ
  have HA := Lib.hid hA
  unfold awS at HA
  have HX := Lib.hid (And.intro aw_facts (And.intro aw_one aw_nine))
  generalize awR = r at HA HX
  obtain ⟨l, er⟩ := r
  clear hF hm hA hQ
  go_enter Tryd.func8, Tryd.ntmps8
  go_wp2_with fail
  with_reducible refine HA.out.mono ?_
  rintro e w2 ⟨p, c, rfl, hown, hb⟩
  obtain ⟨⟨h1, h2⟩, h3, h4, h5, h6⟩ := HX.out
  dsimp only at h1 h2 h3 h4 h5 h6 hown
  have hr := owned_rdT hown
  rw [h2] at hr
  subst h1
  obtain ⟨b, rfl⟩ := hr.form (by decide)
  have c1 := (hr.seven 1 (by decide)).2.1
  have c2 := (hr.seven 9 (by decide)).2.2.1
  have c3 := (hr.seven 9 (by decide)).2.2.2.1
  have c4 := (hr.seven 9 (by decide)).2.2.2.2.1
  rw [h3] at c1
  rw [h4] at c2
  rw [h5] at c3
  rw [h6] at c4
  have HB := Lib.hid hb
  clear hr hown hb HA HX h3 h4 h5 h6
  go_wp2_with fail
  with_reducible refine (HQ.out _).mono ?_
  rintro e w3 ⟨rfl, hb3⟩
  have HB3 := Lib.hid (HB.out.trans (hb3.mono HB.out.size))
  clear hb3 HB HQ
  go_wp2_with fail
  go_ret
  exact ⟨rfl, HB3.out⟩
end Go.Proofs.YtkifndecpbphbaaDoor.dk
