/- Next: the token at a place. -/
import Derived.Test.YtkifndecpbphbaaDoorTJc
namespace Go.Proofs.YtkifndecpbphbaaDoor.dk
open Go.PlainAid Go.ChangeShapes Go.WideShapes Go.ChangeAt Go.RowKit

def whs : ByteArray := ⟨#[32, 9, 10, 13]⟩
theorem wh_in (c : UInt8) : decide (0 ≤ Lib.indexByte whs.data.toList ((c.toNat : Nat) : Int).toNat.toUInt8) = isWh ((c.toNat : Nat) : Int) := by
  rw [u8_back, idx_in]
  unfold isWh whs
  show List.contains [((32 : Nat) : Int), ((9 : Nat) : Int), ((10 : Nat) : Int), ((13 : Nat) : Int)] _ = _
  generalize ((c.toNat : Nat) : Int) = x
  simp only [List.contains, List.elem]
  have e : ∀ n : Nat, (x == (n : Int)) = decide (x = (n : Int)) := fun n => rfl
  cases h1 : (x == ((32 : Nat) : Int)) <;> cases h2 : (x == ((9 : Nat) : Int)) <;> cases h3 : (x == ((10 : Nat) : Int)) <;> cases h4 : (x == ((13 : Nat) : Int)) <;> simp_all
theorem wsF_le : ∀ l : List Int, wsF l ≤ l.length
  | [] => Nat.le_refl _
  | c :: t => by
    unfold wsF
    split
    · have := wsF_le t; simp; omega
    · exact Nat.zero_le _
theorem wsF_step {l : List Int} {k : Nat} (hk : k < l.length) : wsF (l.drop k) = if isWh (l.getD k 0) = true then wsF (l.drop (k + 1)) + 1 else 0 := by
  have e : l.drop k = l.getD k 0 :: l.drop (k + 1) := by
    rw [List.drop_eq_getElem_cons hk, List.getD_eq_getElem?_getD, List.getElem?_eq_getElem hk]
    rfl
  rw [e]
  rfl
theorem toF_on {l : List Int} {k : Nat} (hk : k < l.length) (h : isWh (l.getD k 0) = true) : toF l k = toF l (k + 1) := by
  unfold toF
  rw [wsF_step hk, if_pos h]
  omega
theorem toF_stop {l : List Int} {k : Nat} (h : k < l.length → isWh (l.getD k 0) = false) : toF l k = k := by
  unfold toF
  by_cases hk : k < l.length
  · rw [wsF_step hk, if_neg (by rw [h hk]; decide)]
    rfl
  · rw [List.drop_eq_nil_of_le (by omega)]
    rfl
theorem toF_le {l : List Int} {k : Nat} (h : k ≤ l.length) : k ≤ toF l k ∧ toF l k ≤ l.length := by
  have := wsF_le (l.drop k)
  rw [List.length_drop] at this
  unfold toF
  omega
theorem textF_le : ∀ (f : Nat) {l : List Int}, utf.Oct l → ∀ (sg : Int) (q : List Int × Nat), textF f l sg = some q → 1 ≤ q.2 ∧ q.2 ≤ l.length := by
  intro f
  induction f with
  | zero => intro l _ sg q h; cases h
  | succ f ih =>
    intro l hO sg q h
    by_cases hn : l = []
    · subst hn; rw [textF_nil] at h; cases h
    have hp : 0 < l.length := List.length_pos_iff.2 hn
    have hle := inTextL_le hO hn sg
    rw [textF_succ, if_neg hn] at h
    split at h
    · injection h with h; subst h; exact ⟨Nat.le_refl _, hp⟩
    · split at h
      · cases h
      · obtain ⟨q2, hq2, rfl⟩ := Option.map_eq_some_iff.1 h
        have := ih (hO.drop _) sg q2 hq2
        rw [List.length_drop] at this
        show 1 ≤ (inTextL l sg).2 + q2.2 ∧ (inTextL l sg).2 + q2.2 ≤ l.length
        omega
theorem isDbl_len {s : ByteArray} (h : isDbl s = true) : 1 < s.size := by
  unfold isDbl at h
  by_cases hs : 1 < s.size
  · exact hs
  · rw [decide_eq_false hs] at h; simp at h
theorem oct_pos {l : List Int} (hn : l ≠ []) : 0 < l.length := List.length_pos_iff.2 hn
theorem inNum_dig {l : List Int} {k : Nat} (h : isDig (l.getD k 0) = true) : inNum l k = true := by
  have hd : 48 ≤ l.getD k 0 ∧ l.getD k 0 ≤ 57 := by unfold isDig at h; simpa using h
  unfold inNum
  rw [if_neg (by omega), if_neg (by omega), if_neg (by omega)]
  exact h
theorem inNum_minus {l : List Int} (h : l.getD 0 0 = 45) : inNum l 0 = true := by
  unfold inNum
  rw [if_neg (by omega), if_pos (.inr h)]
  rfl
theorem numL_pos {l : List Int} (hn : l ≠ []) (h : inNum l 0 = true) : 1 ≤ numL l := by
  have hp := oct_pos hn
  unfold numL
  rw [numF_go hp h (by omega)]
  exact (numF_le (l.length - 1) l 1 hp).1
/-- A token is no longer than its text; what is no End has bytes. -/
theorem first_ok {l : List Int} (hO : utf.Oct l) : (firstFs l).n ≤ l.length ∧ ((firstFs l).e = 0 → l ≠ [] → (firstFs l).t.kind ≠ 0 ∧ 1 ≤ (firstFs l).n) ∧ (l = [] → (firstFs l).t.kind = 0 ∧ (firstFs l).e = 0) := by
  unfold firstFs
  by_cases hn : l = []
  · rw [if_pos hn]
    exact ⟨Nat.zero_le _, fun _ h => absurd hn h, fun _ => ⟨rfl, rfl⟩⟩
  have hp := oct_pos hn
  rw [if_neg hn]
  refine and_assoc.1 ⟨?_, fun h => absurd h hn⟩
  split
  · rename_i hb
    unfold nameFs
    cases hN : nameL l with
    | none => exact ⟨Nat.zero_le _, fun h => by cases h⟩
    | some n =>
      refine ⟨nameL_le hO hN, fun _ _ => ⟨by show (1 : Int) ≠ 0; decide, ?_⟩⟩
      rw [nameL_step hO hn] at hN
      have hlen := utf.nxl_len hO
      show 1 ≤ n
      split at hN
      · rw [if_pos (by unfold nch; rw [hb]; rfl)] at hN
        obtain ⟨m, _, rfl⟩ := Option.map_eq_some_iff.1 hN
        omega
      · split at hN
        · cases hN
        · obtain ⟨m, _, rfl⟩ := Option.map_eq_some_iff.1 hN
          omega
  split
  · rename_i hd
    have hi : inNum l 0 = true := by
      rcases hd with h | ⟨h, _⟩
      · exact inNum_dig h
      · exact inNum_minus h
    have h1 := numL_pos hn hi
    have h2 := (numF_le l.length l 0 (Nat.zero_le _)).2
    unfold numberFs
    split
    · exact ⟨h2, fun _ _ => ⟨by show (3 : Int) ≠ 0; decide, h1⟩⟩
    · rename_i he
      exact ⟨Nat.zero_le _, fun h => absurd h he⟩
  split
  · unfold textFs
    cases hT : textL l with
    | none => exact ⟨Nat.zero_le _, fun h => by cases h⟩
    | some q =>
      obtain ⟨b, n⟩ := q
      rw [textL_T] at hT
      have h := textF_le _ (hO.drop 1) _ _ hT
      rw [List.length_drop] at h
      dsimp only at h
      exact ⟨by show n + 1 ≤ l.length; omega, fun _ _ => ⟨by show (2 : Int) ≠ 0; decide, by show 1 ≤ n + 1; omega⟩⟩
  · unfold signL
    split
    · rename_i hd
      have h := isDbl_len hd
      rw [strOf_size] at h
      exact ⟨h, fun _ _ => ⟨by show (4 : Int) ≠ 0; decide, by show 1 ≤ 2; decide⟩⟩
    · split
      · exact ⟨hp, fun _ _ => ⟨by show (4 : Int) ≠ 0; decide, Nat.le_refl _⟩⟩
      · exact ⟨Nat.zero_le _, fun h => by cases h⟩
theorem first_le {l : List Int} (hO : utf.Oct l) : (firstFs l).n ≤ l.length := (first_ok hO).1
set_option maxRecDepth 100000 in
set_option maxHeartbeats 8000000 in
theorem Next_any (w : World) (s : ByteArray) (k0 : Nat) (hk0 : k0 ≤ s.size) (hF : utf.Forms w) (hs : s.size ≤ 1000000) (mx : Int) (hm : w.cell? ⟨1, 0, none⟩ = some (.int .i64 mx)) :
    Calls Tryd.prog 13 #[.string s, .int .i64 k0] w fun e w' => e = .returned (nextC (firstFs ((unstr s).drop (toF (unstr s) k0))) (toF (unstr s) k0)) ∧ Below w.heap.size w w' := by
  obtain ⟨wa, hwa⟩ : ∃ wa, wa = w.alloc (.cells #[.int .i64 0, .string ⟨#[]⟩, .bool false, .string ⟨#[]⟩, .int .i64 0, .int .i64 0, .int .i64 0] 30) := ⟨_, rfl⟩
  have hr : wa.heap[w.heap.size]? = some (.cells #[.int .i64 0, .string ⟨#[]⟩, .bool false, .string ⟨#[]⟩, .int .i64 0, .int .i64 0, .int .i64 0] 30 (0, 0)) := by rw [hwa]; exact heap_alloc_new _ _
  have hb : Below w.heap.size w wa := by rw [hwa]; exact (Below.refl _ _).alloc (Nat.le_refl _) _
  have HW := Lib.hid hwa
  have HR := Lib.hid hr
  have HB := Lib.hid hb
  obtain ⟨L, hL⟩ : ∃ L, L = toF (unstr s) k0 := ⟨_, rfl⟩
  have hlen := unstr_length s
  have hLs : L ≤ s.size := by have := (toF_le (l := unstr s) (k := k0) (by omega)).2; omega
  rw [← hL]
  have hC : ∀ v, Below w.heap.size w v → Calls Tryd.prog 23 #[.string (s.extract L s.size)] v fun e w' => e = .returned (firstFs ((unstr s).drop L)).val ∧ Below v.heap.size v w' := fun v h => by
    have h := first_any v (s.extract L s.size) (hF.below h hF.size) (by rw [ByteArray.size_extract]; omega) mx ((h.cell (World.block_lt_of_cell? _ _ hm)).trans hm)
    rw [unstr_from] at h
    exact h
  have hfl := first_le ((unstr_oct s).drop L)
  rw [List.length_drop, hlen] at hfl
  generalize firstFs ((unstr s).drop L) = f at hC hfl ⊢
  obtain ⟨⟨a0, a1, a2, a3, a4⟩, n, er⟩ := f
  unfold Fs.val Tk.cells at hC
  dsimp only at hC hfl
  have HC := Lib.hid hC
  have hI := fun (i : Nat) (hi : i < s.size) v => Tryd.strings_IndexByte whs ((s[i].toNat : Nat) : Int) v
  have HI := Lib.hid hI
  have HLn := Lib.hid hlen
  have HL := Lib.hid hL
  have HLs := Lib.hid (And.intro hLs hfl)
  obtain ⟨R, hR⟩ : ∃ R, nextC ⟨⟨a0, a1, a2, a3, a4⟩, n, er⟩ L = R := ⟨_, rfl⟩
  have HV : Hid (R = if er ≠ 0 then .tuple #[.agg #[.int .i64 0, .string ⟨#[]⟩, .bool false, .string ⟨#[]⟩, .int .i64 0, .int .i64 0, .int .i64 0], .int .i64 er] else .tuple #[.agg #[.int .i64 a0, .string (strOf a1), .bool a2, .string a3, .int .i64 a4, .int .i64 L, .int .i64 ((L : Int) + (n : Int))], .int .i64 0]) := by
    show R = _
    rw [← hR]
    rfl
  rw [hR]
  have g1 : decide ((k0 : Int) < 0) = false := decide_eq_false (by omega)
  have g2 : decide ((s.size : Int) < (k0 : Int)) = false := decide_eq_false (by omega)
  clear hwa hr hb hF hm hI hL hlen hC hLs hfl hR
  unfold whs at HI
  go_enter Tryd.func13, Tryd.ntmps13
  go_upto_region 1 with fail
  rw [← HW.out]
  clear HW
  go_wp2_with fail
  go_loopw [1] (fun i wr => ∃ k : Nat, k ≤ s.size ∧ i = .int .i64 k ∧ Hid (L = toF (unstr s) k) ∧ wr = wa) (fun i _ => s.size - (intOf i).toNat)
  case atStart => exact ⟨k0, hk0, rfl, HL, rfl⟩
  case round =>
    clear HL g1 g2
    obtain ⟨k, hk, rfl, hN, rfl⟩ := hrel
    by_cases hkl : k < s.size
    · have hat := byte_at s k hkl
      have hIk := fun v => HI.out k hkl v
      have hwi := wh_in s[k]
      unfold whs at hwi
      generalize Lib.indexByte (ByteArray.mk #[32, 9, 10, 13]).data.toList ((s[k].toNat : Nat) : Int).toNat.toUInt8 = ix at hIk hwi
      rw [hat] at hwi
      have HIk := Lib.hid hIk
      cases hw : isWh ((unstr s).getD k 0) with
      | true =>
        have hN2 : Hid (L = toF (unstr s) (k + 1)) := by have h := hN.out; rw [toF_on (by rw [HLn.out]; exact hkl) hw] at h; exact h
        rw [hw] at hwi
        clear hN hw hat hIk HI
        go_wp2_with fail
        with_reducible refine (HIk.out _).mono ?_
        rintro e w3 ⟨rfl, rfl⟩
        go_wp2_with fail
        go_roundw
        case rel => exact ⟨k + 1, by omega, by go_num, hN2, trivial⟩
        case measure => simp [intOf]; omega
      | false =>
        have hK : L = k := by have h := hN.out; rw [toF_stop (fun _ => hw)] at h; exact h
        subst hK
        rw [hw] at hwi
        clear hN hw hat hIk HI
        go_wp2_with fail
        with_reducible refine (HIk.out _).mono ?_
        rintro e w9 ⟨rfl, rfl⟩
        go_upto_region 5 with fail
        go_wp2_with fail
        with_reducible refine (HC.out _ HB.out).mono ?_
        rintro e w3 ⟨rfl, hb3⟩
        have HR3 := Lib.hid (alloc_old (.cells #[.int .i64 a0, .string (strOf a1), .bool a2, .string a3, .int .i64 a4, .int .i64 0, .int .i64 0] 30) ((hb3.block _ (lt_of_block HR.out)).trans HR.out))
        have HB3 := Lib.hid ((HB.out.trans (hb3.mono HB.out.size)).alloc (Nat.le_trans HB.out.size hb3.size) (.cells #[.int .i64 a0, .string (strOf a1), .bool a2, .string a3, .int .i64 a4, .int .i64 0, .int .i64 0] 30))
        have HA3 : Hid ((w3.alloc (.cells #[.int .i64 a0, .string (strOf a1), .bool a2, .string a3, .int .i64 a4, .int .i64 0, .int .i64 0] 30)).heap[w3.heap.size]? = some (.cells #[.int .i64 a0, .string (strOf a1), .bool a2, .string a3, .int .i64 a4, .int .i64 0, .int .i64 0] 30 (0, 0))) := heap_alloc_new _ _
        have HLe : Hid (w.heap.size ≤ w3.heap.size) := Nat.le_trans HB.out.size hb3.size
        have HLt : Hid (w.heap.size ≠ w3.heap.size) := by have := (hb3.size); have := lt_of_block HR.out; show _ ≠ _; omega
        clear hb3 HR HB HC
        by_cases her : er = 0
        · subst her
          rw [if_neg (by simp)] at HV
          go_upto_region 8 with fail
          have hS8 := stepSet 6 (.int .i64 ((L : Int) + (n : Int))) HLe.out (stepSet 5 (.int .i64 L) HLe.out ⟨HA3.out, HB3.out⟩)
          have hA8 : (((w3.alloc (.cells #[.int .i64 a0, .string (strOf a1), .bool a2, .string a3, .int .i64 a4, .int .i64 0, .int .i64 0] 30)).setCell ⟨w3.heap.size, 5, none⟩ (.int .i64 L)).setCell ⟨w3.heap.size, 6, none⟩ (.int .i64 ((L : Int) + (n : Int)))).heap[w3.heap.size]? = some (.cells #[.int .i64 a0, .string (strOf a1), .bool a2, .string a3, .int .i64 a4, .int .i64 L, .int .i64 ((L : Int) + (n : Int))] 30 (0, 0)) := by simpa using hS8.1
          have hR8 : (((w3.alloc (.cells #[.int .i64 a0, .string (strOf a1), .bool a2, .string a3, .int .i64 a4, .int .i64 0, .int .i64 0] 30)).setCell ⟨w3.heap.size, 5, none⟩ (.int .i64 L)).setCell ⟨w3.heap.size, 6, none⟩ (.int .i64 ((L : Int) + (n : Int)))).heap[w.heap.size]? = some (.cells #[.int .i64 0, .string ⟨#[]⟩, .bool false, .string ⟨#[]⟩, .int .i64 0, .int .i64 0, .int .i64 0] 30 (0, 0)) := by
            rw [Below.heap_setCell _ _ _ _ HLt.out, Below.heap_setCell _ _ _ _ HLt.out]
            exact HR3.out
          have HB8 := Lib.hid hS8.2
          have HA8 := Lib.hid hA8
          have HR8 := Lib.hid hR8
          obtain ⟨_, z0, z1, z2, z3, z4, z5, z6⟩ := row7 HA3.out
          have wn : IntKind.i64.wrap ((L : Int) + (n : Int)) = (L : Int) + (n : Int) := by have := HLs.out; rw [IntKind.wrap_i64]; omega
          have c5 := (row7 HA3.out).1.2.2.2.2.2.1
          have c6 := (row7 HA3.out).1.2.2.2.2.2.2
          clear HA3 HR3 HB3 hS8 hA8 hR8 z0 z1 z2 z3 z4
          generalize w3.alloc (.cells #[.int .i64 a0, .string (strOf a1), .bool a2, .string a3, .int .i64 a4, .int .i64 0, .int .i64 0] 30) = W5 at HR8 HB8 HA8 c5 c6 z5 z6 ⊢
          go_upto_region 9 with fail
          clear z5 z6 c5 c6 wn
          generalize (W5.setCell ⟨w3.heap.size, 5, none⟩ (.int .i64 L)).setCell ⟨w3.heap.size, 6, none⟩ (.int .i64 ((L : Int) + (n : Int))) = W8 at HR8 HB8 HA8 ⊢
          obtain ⟨⟨c0, c1, c2, c3, c4, c5, c6⟩, _⟩ := row7 HA8.out
          have hS := set7 (v0 := .int .i64 a0) (v1 := .string (strOf a1)) (v2 := .bool a2) (v3 := .string a3) (v4 := .int .i64 a4) (v5 := .int .i64 L) (v6 := .int .i64 ((L : Int) + (n : Int))) HR8.out (Nat.le_refl _) HB8.out
          have HS := Lib.hid hS
          obtain ⟨_, y0, y1, y2, y3, y4, y5, y6⟩ := row7 HR8.out
          clear hS HR8 HB8 HA8
          go_wp2_with fail
          refine bodyPost_ret (results_row_tmp rfl _ _ w.heap.size _ _ _ _ rfl HS.out.1 Tryd.underlying30 rfl (by kernel_rfl)) rfl ⟨by rw [HV.out]; rfl, HS.out.2⟩
        · rw [if_pos her] at HV
          have der : (er != 0) = true := bne_iff_ne.2 her
          clear HA3 HLe HLt
          have hS := set7 (v0 := .int .i64 0) (v1 := .string ⟨#[]⟩) (v2 := .bool false) (v3 := .string ⟨#[]⟩) (v4 := .int .i64 0) (v5 := .int .i64 0) (v6 := .int .i64 0) HR3.out (Nat.le_refl _) HB3.out
          have HS := Lib.hid hS
          obtain ⟨_, y0, y1, y2, y3, y4, y5, y6⟩ := row7 HR3.out
          clear hS HR3 HB3
          go_wp2_with fail
          refine bodyPost_ret (results_row_tmp rfl _ _ w.heap.size _ _ _ _ rfl HS.out.1 Tryd.underlying30 rfl (by kernel_rfl)) rfl ⟨by rw [HV.out]; rfl, HS.out.2⟩
    · have hK : L = k := by have h := hN.out; rw [toF_stop (fun hh => absurd hh (by rw [HLn.out]; exact hkl))] at h; exact h
      subst hK
      clear hN HI
      go_upto_region 5 with fail
      go_wp2_with fail
      with_reducible refine (HC.out _ HB.out).mono ?_
      rintro e w3 ⟨rfl, hb3⟩
      have HR3 := Lib.hid (alloc_old (.cells #[.int .i64 a0, .string (strOf a1), .bool a2, .string a3, .int .i64 a4, .int .i64 0, .int .i64 0] 30) ((hb3.block _ (lt_of_block HR.out)).trans HR.out))
      have HB3 := Lib.hid ((HB.out.trans (hb3.mono HB.out.size)).alloc (Nat.le_trans HB.out.size hb3.size) (.cells #[.int .i64 a0, .string (strOf a1), .bool a2, .string a3, .int .i64 a4, .int .i64 0, .int .i64 0] 30))
      have HA3 : Hid ((w3.alloc (.cells #[.int .i64 a0, .string (strOf a1), .bool a2, .string a3, .int .i64 a4, .int .i64 0, .int .i64 0] 30)).heap[w3.heap.size]? = some (.cells #[.int .i64 a0, .string (strOf a1), .bool a2, .string a3, .int .i64 a4, .int .i64 0, .int .i64 0] 30 (0, 0))) := heap_alloc_new _ _
      have HLe : Hid (w.heap.size ≤ w3.heap.size) := Nat.le_trans HB.out.size hb3.size
      have HLt : Hid (w.heap.size ≠ w3.heap.size) := by have := (hb3.size); have := lt_of_block HR.out; show _ ≠ _; omega
      clear hb3 HR HB HC
      by_cases her : er = 0
      · subst her
        rw [if_neg (by simp)] at HV
        go_upto_region 8 with fail
        have hS8 := stepSet 6 (.int .i64 ((L : Int) + (n : Int))) HLe.out (stepSet 5 (.int .i64 L) HLe.out ⟨HA3.out, HB3.out⟩)
        have hA8 : (((w3.alloc (.cells #[.int .i64 a0, .string (strOf a1), .bool a2, .string a3, .int .i64 a4, .int .i64 0, .int .i64 0] 30)).setCell ⟨w3.heap.size, 5, none⟩ (.int .i64 L)).setCell ⟨w3.heap.size, 6, none⟩ (.int .i64 ((L : Int) + (n : Int)))).heap[w3.heap.size]? = some (.cells #[.int .i64 a0, .string (strOf a1), .bool a2, .string a3, .int .i64 a4, .int .i64 L, .int .i64 ((L : Int) + (n : Int))] 30 (0, 0)) := by simpa using hS8.1
        have hR8 : (((w3.alloc (.cells #[.int .i64 a0, .string (strOf a1), .bool a2, .string a3, .int .i64 a4, .int .i64 0, .int .i64 0] 30)).setCell ⟨w3.heap.size, 5, none⟩ (.int .i64 L)).setCell ⟨w3.heap.size, 6, none⟩ (.int .i64 ((L : Int) + (n : Int)))).heap[w.heap.size]? = some (.cells #[.int .i64 0, .string ⟨#[]⟩, .bool false, .string ⟨#[]⟩, .int .i64 0, .int .i64 0, .int .i64 0] 30 (0, 0)) := by
          rw [Below.heap_setCell _ _ _ _ HLt.out, Below.heap_setCell _ _ _ _ HLt.out]
          exact HR3.out
        have HB8 := Lib.hid hS8.2
        have HA8 := Lib.hid hA8
        have HR8 := Lib.hid hR8
        obtain ⟨_, z0, z1, z2, z3, z4, z5, z6⟩ := row7 HA3.out
        have wn : IntKind.i64.wrap ((L : Int) + (n : Int)) = (L : Int) + (n : Int) := by have := HLs.out; rw [IntKind.wrap_i64]; omega
        have c5 := (row7 HA3.out).1.2.2.2.2.2.1
        have c6 := (row7 HA3.out).1.2.2.2.2.2.2
        clear HA3 HR3 HB3 hS8 hA8 hR8 z0 z1 z2 z3 z4
        generalize w3.alloc (.cells #[.int .i64 a0, .string (strOf a1), .bool a2, .string a3, .int .i64 a4, .int .i64 0, .int .i64 0] 30) = W5 at HR8 HB8 HA8 c5 c6 z5 z6 ⊢
        go_upto_region 9 with fail
        clear z5 z6 c5 c6 wn
        generalize (W5.setCell ⟨w3.heap.size, 5, none⟩ (.int .i64 L)).setCell ⟨w3.heap.size, 6, none⟩ (.int .i64 ((L : Int) + (n : Int))) = W8 at HR8 HB8 HA8 ⊢
        obtain ⟨⟨c0, c1, c2, c3, c4, c5, c6⟩, _⟩ := row7 HA8.out
        have hS := set7 (v0 := .int .i64 a0) (v1 := .string (strOf a1)) (v2 := .bool a2) (v3 := .string a3) (v4 := .int .i64 a4) (v5 := .int .i64 L) (v6 := .int .i64 ((L : Int) + (n : Int))) HR8.out (Nat.le_refl _) HB8.out
        have HS := Lib.hid hS
        obtain ⟨_, y0, y1, y2, y3, y4, y5, y6⟩ := row7 HR8.out
        clear hS HR8 HB8 HA8
        go_wp2_with fail
        refine bodyPost_ret (results_row_tmp rfl _ _ w.heap.size _ _ _ _ rfl HS.out.1 Tryd.underlying30 rfl (by kernel_rfl)) rfl ⟨by rw [HV.out]; rfl, HS.out.2⟩
      · rw [if_pos her] at HV
        have der : (er != 0) = true := bne_iff_ne.2 her
        clear HA3 HLe HLt
        have hS := set7 (v0 := .int .i64 0) (v1 := .string ⟨#[]⟩) (v2 := .bool false) (v3 := .string ⟨#[]⟩) (v4 := .int .i64 0) (v5 := .int .i64 0) (v6 := .int .i64 0) HR3.out (Nat.le_refl _) HB3.out
        have HS := Lib.hid hS
        obtain ⟨_, y0, y1, y2, y3, y4, y5, y6⟩ := row7 HR3.out
        clear hS HR3 HB3
        go_wp2_with fail
        refine bodyPost_ret (results_row_tmp rfl _ _ w.heap.size _ _ _ _ rfl HS.out.1 Tryd.underlying30 rfl (by kernel_rfl)) rfl ⟨by rw [HV.out]; rfl, HS.out.2⟩
end Go.Proofs.YtkifndecpbphbaaDoor.dk
/- All: a text's tokens. -/
namespace Go.Proofs.YtkifndecpbphbaaDoor.dk
open Go.PlainAid Go.ChangeShapes Go.WideShapes Go.ChangeAt Go.RowKit

abbrev TT := Tk × Nat × Nat
instance : Inhabited Tk := ⟨Tk.no⟩
def tarr (x : TT) : Array Value := x.1.cells (x.2.1 : Int) (x.2.2 : Int)
def tcells (l : List TT) : List Value := (l.map fun q => (tarr q).toList).flatten
theorem tcells_cons (q : TT) (l : List TT) : tcells (q :: l) = (tarr q).toList ++ tcells l := rfl
theorem tcells_app (a b : List TT) : tcells (a ++ b) = tcells a ++ tcells b := by unfold tcells; rw [List.map_append, List.flatten_append]
theorem tarr_len (q : TT) : (tarr q).toList.length = 7 := rfl
theorem tcells_len : ∀ (l : List TT), (tcells l).length = l.length * 7
  | [] => rfl
  | q :: l => by rw [tcells_cons, List.length_append, tarr_len, tcells_len l, List.length_cons]; omega
theorem tcells_at : ∀ (l : List TT) (i j : Nat), i < l.length → j < 7 → (tcells l)[i * 7 + j]? = (tarr (l.getD i default))[j]?
  | q :: l, 0, j, _, hj => by
    rw [tcells_cons, Nat.zero_mul, Nat.zero_add, List.getElem?_append_left (by rw [tarr_len]; exact hj), Array.getElem?_toList]
    rfl
  | q :: l, i + 1, j, hi, hj => by
    rw [tcells_cons, List.getElem?_append_right (by rw [tarr_len]; omega), tarr_len, show (i + 1) * 7 + j - 7 = i * 7 + j by omega, tcells_at l i j (by simpa using hi) hj]
    rfl
theorem tarr_one (q : TT) : ∀ u ∈ (tarr q).toList, u.oneCell' = true := by
  intro u hu
  simp only [tarr, Tk.cells, List.mem_cons, List.not_mem_nil, or_false] at hu
  rcases hu with rfl | rfl | rfl | rfl | rfl | rfl | rfl <;> rfl
/-- Tokens in memory. -/
def RdT (W : World) (p : Option Addr) (n : Nat) (l : List TT) : Prop := l.length = n ∧ (0 < n → ∃ b, p = some ⟨b, 0, none⟩ ∧ b < W.heap.size ∧ ∀ i, i < n → ∀ j, j < 7 → W.cell? ⟨b, i * 7 + j, none⟩ = (tarr (l.getD i default))[j]?)
theorem RdT.below {W W' : World} {p : Option Addr} {n : Nat} {l : List TT} (h : RdT W p n l) (hb : Below W.heap.size W W') : RdT W' p n l := by
  refine ⟨h.1, fun h0 => ?_⟩
  obtain ⟨b, hp, hlt, hc⟩ := h.2 h0
  exact ⟨b, hp, Nat.lt_of_lt_of_le hlt hb.size, fun i hi j hj => (hb.cell (p := ⟨b, i * 7 + j, none⟩) hlt).trans (hc i hi j hj)⟩
theorem owned_rdT {w : World} {B n c : Nat} {T : TypeId} {p : Option Addr} {l : List TT} (h : w.ownsRow B T 7 (.slice p n c) n (tcells l)) : RdT w p n l := by
  have hl : l.length = n := by have := h.1; rw [tcells_len] at this; omega
  refine ⟨hl, fun h0 => ?_⟩
  rcases h.2 with ⟨hv, h1⟩ | ⟨g, cap, cur, hv, hg, hh, _⟩
  · omega
  · injection hv with hp _ _
    refine ⟨g, hp, (Array.getElem?_eq_some_iff.1 hh).1, fun i hi j hj => ?_⟩
    have hat := tcells_at l i j (by omega) hj
    obtain ⟨u, hu⟩ : ∃ u, (tarr (l.getD i default))[j]? = some u := ⟨_, Array.getElem?_eq_getElem (by show j < 7; exact hj)⟩
    rw [hu] at hat ⊢
    have := h.cells (g := g) (by rw [hp]; rfl) (i * 7 + j) _ hat
    rw [add_off] at this
    rw [Nat.zero_add] at this
    exact this
theorem infoT : ∃ i z, Tryd.prog.info? 30 = some i ∧ i.zero = some z ∧ i.size = 7 ∧ i.bytes = 72 ∧ z.cells.size = 7 := by
  have h : (Tryd.prog.info? 30).map (fun i => (i.zero, i.size, i.bytes)) = some (some (.agg #[.int .i64 0, .string ⟨#[]⟩, .bool false, .string ⟨#[]⟩, .int .i64 0, .int .i64 0, .int .i64 0]), 7, 72) := by kernel_rfl
  obtain ⟨i0, hi, hz0, hz1, hz2⟩ := info_parts h
  exact ⟨i0, _, hi, hz0, hz1, hz2, by simp [Value.cells]⟩
theorem tcells_app_one (l : List TT) (x : TT) : tcells (l ++ [x]) = tcells l ++ (tarr x).toList := by rw [tcells_app]; show tcells l ++ ((tarr x).toList ++ []) = _; rw [List.append_nil]
/-- append of one token that lies in a row of its own. -/
theorem append_tok {w : World} {B c cc g : Nat} {p0 : Option Addr} {l : List TT} {x : TT} (hown : w.ownsRow B 30 7 (.slice p0 l.length c) l.length (tcells l)) (hg : w.heap[g]? = some (.cells (tarr x) 30 (0, 0))) (hl : l.length ≤ 1000000) (hB : B ≤ w.heap.size) :
    ∃ p c2 w', (Builtin.append_ #[23, 23] 23 #[.slice p0 l.length c, .slice (some ⟨g, 0, none⟩) 1 cc]).run Tryd.prog w = .ok (.slice p (l.length + 1) c2) w' ∧ w'.ownsRow B 30 7 (.slice p (l ++ [x]).length c2) (l ++ [x]).length (tcells (l ++ [x])) ∧ Below B w w' ∧ (∀ k, k < w.heap.size → (Value.slice p0 l.length c).ownBlock ≠ some k → w'.heap[k]? = w.heap[k]?) := by
  obtain ⟨i0, z, hi, hz0, hz1, hz2, hz3⟩ := infoT
  obtain ⟨v', w', hr, h2, h3, _⟩ := run_append_own (P := Tryd.prog) w B 23 23 30 i0 z 7 72 Tryd.underlying23 hi hz0 hz1 hz2 hz3 (by decide) (.slice p0 l.length c) l.length (tcells l) hown ⟨g, 0, none⟩ 1 cc (tarr x).toList (by rw [tarr_len])
    (fun j u hj => by
      rw [add_off, Nat.zero_add, cell_of_row w g j _ _ _ hg, ← Array.getElem?_toList]
      exact hj) (tarr_one x) (by unfold maxLen; omega) (by omega) hB
  have e : l.length + 1 = (l ++ [x]).length := by rw [List.length_append]; rfl
  obtain ⟨p, c2, rfl⟩ := owned_form h2
  rw [← tcells_app_one, e] at h2
  exact ⟨p, c2, w', hr, h2, (Below.refl _ _).grown h3 hB (fun k hk => (hown.lt k hk).1), fun k hk hne => h3.block k hk (fun e => hne e.symm)⟩
theorem own_none {w : World} {B : Nat} (hB : B ≤ w.heap.size) : (w.alloc (.cells #[] 30)).ownsRow B 30 7 (.slice (some ⟨w.heap.size, 0, none⟩) 0 0) 0 (tcells []) :=
  ⟨rfl, .inr ⟨w.heap.size, 0, #[], rfl, hB, heap_alloc_new w _, Nat.le_refl _, Nat.zero_le _, rfl, rfl⟩⟩
/-! the plain reading, step by step -/
def joinF (acc : List TT) (q : TR) : TR := if q.2 ≠ 0 then ([], q.2) else (acc ++ q.1, 0)
theorem joinF_nil (q : TR) : joinF [] q = if q.2 ≠ 0 then ([], q.2) else (q.1, 0) := rfl
theorem joinF_cons (acc : List TT) (x : TT) (q : TR) : joinF acc (consF x q) = joinF (acc ++ [x]) q := by
  unfold joinF consF
  by_cases h : q.2 = 0
  · rw [if_neg (c := q.2 ≠ 0) (fun k => k h), if_neg (c := q.2 ≠ 0) (fun k => k h), if_neg (fun k => k rfl), List.append_assoc]
    rfl
  · rw [if_pos h, if_pos h, if_pos h]
theorem allF_succ (f : Nat) (l : List Int) (k : Nat) : allF (f + 1) l k = allC (firstFs (l.drop (toF l k))) (toF l k) (allF f l) := rfl
theorem allC_ok {f : Fs} {p : Nat} {r1 r2 : Nat → TR} (h : f.e = 0 → f.t.kind ≠ 0 → r1 (p + f.n) = r2 (p + f.n)) : allC f p r1 = allC f p r2 := by
  unfold allC
  split
  · rfl
  · rename_i h1
    split
    · rfl
    · rename_i h2
      rw [h (by simpa using h1) h2]
theorem step_le {l : List Int} (hO : utf.Oct l) {k : Nat} (hk : k ≤ l.length) (he : (firstFs (l.drop (toF l k))).e = 0) (ht : (firstFs (l.drop (toF l k))).t.kind ≠ 0) : k + 1 ≤ toF l k + (firstFs (l.drop (toF l k))).n ∧ toF l k + (firstFs (l.drop (toF l k))).n ≤ l.length := by
  have h1 := toF_le (l := l) hk
  have h := first_ok (hO.drop (toF l k))
  rw [List.length_drop] at h
  have hn : l.drop (toF l k) ≠ [] := fun e => ht (h.2.2 e).1
  have := (h.2.1 he hn).2
  omega
theorem allF_fuel : ∀ (f g : Nat) {l : List Int}, utf.Oct l → ∀ (k : Nat), k ≤ l.length → l.length + 1 - k ≤ f → l.length + 1 - k ≤ g → allF f l k = allF g l k := by
  intro f
  induction f with
  | zero => intro g l _ k hk hf _; omega
  | succ f ih =>
    intro g l hO k hk hf hg
    cases g with
    | zero => omega
    | succ g =>
      rw [allF_succ, allF_succ]
      refine allC_ok fun he ht => ?_
      have := step_le hO hk he ht
      exact ih g hO _ this.2 (by omega) (by omega)
/-- The tokens from a place on. -/
def allT (l : List Int) (k : Nat) : TR := allF (l.length + 1 - k) l k
theorem allT_step {l : List Int} (hO : utf.Oct l) {k : Nat} (hk : k ≤ l.length) : allT l k = allC (firstFs (l.drop (toF l k))) (toF l k) (allT l) := by
  unfold allT
  rw [show l.length + 1 - k = (l.length - k) + 1 by omega, allF_succ]
  refine allC_ok fun he ht => ?_
  have := step_le hO hk he ht
  exact allF_fuel _ _ hO _ this.2 (by omega) (by omega)
theorem allL_T (l : List Int) : allL l = if 8192 < l.length then ([], 4) else allT l 0 := rfl
theorem joinF_none (l : List Int) (f : Nat) (k : Nat) : joinF [] (allF f l k) = allF f l k := by
  cases f with
  | zero => rfl
  | succ f =>
    rw [allF_succ, joinF_nil]
    unfold allC
    split
    · rfl
    · split
      · rfl
      · unfold consF
        split
        · rfl
        · rfl
def AlI (w : World) (v : Value) (acc : List TT) (W : World) : Prop := W.ownsRow w.heap.size 30 7 v acc.length (tcells acc) ∧ Below w.heap.size w W
theorem AlI.past {w : World} {v : Value} {acc : List TT} {W W' : World} (h : AlI w v acc W) (hb : Below W.heap.size W W') : AlI w v acc W' :=
  ⟨own_block_keeps h.1 (fun g hg => hb.block g (h.1.lt g hg).2), h.2.trans (hb.mono h.2.size)⟩
/-- What All answers. -/
def AllP (w : World) (r : TR) (e : Ending) (w' : World) : Prop := ∃ p c, e = .returned (.tuple #[.slice p r.1.length c, .int .i64 r.2]) ∧ w'.ownsRow w.heap.size 30 7 (.slice p r.1.length c) r.1.length (tcells r.1) ∧ Below w.heap.size w w'
theorem AllP.bad {w W : World} {x : Int} (hb : Below w.heap.size w W) : AllP w ([], x) (.returned (.tuple #[.slice none 0 0, .int .i64 x])) W := ⟨none, 0, rfl, World.ownsRow_nil _ _ _ _, hb⟩
set_option maxRecDepth 100000 in
set_option maxHeartbeats 8000000 in
theorem All_any (w : World) (s : ByteArray) (hF : utf.Forms w) (hs : s.size ≤ 1000000) (mx : Int) (hm : w.cell? ⟨1, 0, none⟩ = some (.int .i64 mx)) :
    Calls Tryd.prog 9 #[.string s] w (AllP w (allL (unstr s))) := by
  have hlen := unstr_length s
  rw [allL_T]
  by_cases hbig : 8192 < s.size
  · rw [if_pos (by omega)]
    have d1 : decide ((8192 : Int) < (s.size : Int)) = true := decide_eq_true (by omega)
    clear hF hm hlen
    go_enter Tryd.func9, Tryd.ntmps9
    go_wp2_with fail
    go_ret2
    exact AllP.bad (Below.refl _ _)
  rw [if_neg (by omega)]
  have d1 : decide ((8192 : Int) < (s.size : Int)) = false := decide_eq_false (by omega)
  obtain ⟨R, hR⟩ : ∃ R, R = allT (unstr s) 0 := ⟨_, rfl⟩
  have HR : Hid (R = joinF [] (allT (unstr s) 0)) := by show _ = _; rw [hR]; exact (joinF_none _ _ _).symm
  have HO := Lib.hid (fun k hk => allT_step (unstr_oct s) (k := k) hk)
  have HSt := Lib.hid (fun k hk => step_le (k := k) (unstr_oct s) hk)
  rw [← hR]
  have hN : ∀ v, Below w.heap.size w v → ∀ k : Nat, k ≤ s.size → Calls Tryd.prog 13 #[.string s, .int .i64 k] v fun e w' => e = .returned (nextC (firstFs ((unstr s).drop (toF (unstr s) k))) (toF (unstr s) k)) ∧ Below v.heap.size v w' := fun v h k hk =>
    Next_any v s k hk (hF.below h hF.size) hs mx ((h.cell (World.block_lt_of_cell? _ _ hm)).trans hm)
  have HN := Lib.hid hN
  have HI0 : Hid (AlI w (.slice (some ⟨w.heap.size, 0, none⟩) 0 0) [] (w.alloc (.cells #[] 30))) := ⟨own_none (Nat.le_refl _), (Below.refl _ _).alloc (Nat.le_refl _) _⟩
  have HLn := Lib.hid hlen
  clear hF hm hR hN hlen
  go_enter Tryd.func9, Tryd.ntmps9
  go_wp2_with fail
  go_loopw [4, 5] (fun v i wr => ∃ (k : Nat) (acc : List TT) (p : Option Addr) (c : Nat), v = .slice p acc.length c ∧ i = .int .i64 k ∧ k ≤ s.size ∧ acc.length ≤ k ∧ Hid (R = joinF acc (allT (unstr s) k)) ∧ Hid (AlI w (.slice p acc.length c) acc wr)) (fun _ i _ => s.size - (intOf i).toNat)
  case atStart => exact ⟨0, [], _, 0, rfl, rfl, Nat.zero_le _, Nat.le_refl _, HR, HI0⟩
  case round =>
    clear HR HI0 d1
    obtain ⟨k, acc, p, c, rfl, rfl, hk, hal, hA, hI⟩ := hrel
    have hst := HSt.out k (by rw [HLn.out]; exact hk)
    have hA2 := hA.out
    rw [HO.out k (by rw [HLn.out]; exact hk)] at hA2
    have hC := HN.out wr hI.out.2 k hk
    rw [HLn.out] at hst
    generalize toF (unstr s) k = q at hC hst hA2
    generalize firstFs ((unstr s).drop q) = f at hC hst hA2
    obtain ⟨⟨a0, a1, a2, a3, a4⟩, n, er⟩ := f
    unfold allC at hA2
    unfold nextC at hC
    dsimp only at hC hst hA2
    clear hA
    by_cases her : er = 0
    · subst her
      rw [if_neg (by simp)] at hC
      rw [if_neg (by simp)] at hA2
      unfold Tk.cells at hC
      dsimp only at hC
      rw [show (((q + n : Nat)) : Int) = (q : Int) + (n : Int) by omega] at hC
      have HC := Lib.hid hC
      by_cases hkd : a0 = 0
      · subst hkd
        rw [if_pos rfl] at hA2
        have HRR : Hid (R = (acc, 0)) := by
          show _ = _
          rw [hA2]
          unfold joinF
          rw [if_neg (by simp), List.append_nil]
        clear hA2 hst hC
        go_wp2_with fail
        with_reducible refine HC.out.mono ?_
        rintro e w2 ⟨rfl, hb2⟩
        have HI2 := Lib.hid ((hI.out.past hb2).past ((Below.refl w2.heap.size w2).alloc (Nat.le_refl _) (.cells #[.int .i64 0, .string (strOf a1), .bool a2, .string a3, .int .i64 a4, .int .i64 (q : Int), .int .i64 ((q : Int) + (n : Int))] 30)))
        clear hb2 hI HC
        go_wp2_with fail
        go_ret2
        rw [HRR.out]
        exact ⟨p, c, rfl, HI2.out.1, HI2.out.2⟩
      · have dk : (a0 == 0) = false := beq_eq_false_iff_ne.2 hkd
        rw [if_neg hkd, joinF_cons] at hA2
        have HRR := Lib.hid hA2
        have hst2 := hst rfl hkd
        have HSt2 := Lib.hid (And.intro hst2 hal)
        clear hA2 hst hC hst2 hkd
        go_wp2_with fail
        with_reducible refine HC.out.mono ?_
        rintro e w2 ⟨rfl, hb2⟩
        have hb3 : Below w2.heap.size w2 (w2.alloc (.cells #[.int .i64 a0, .string (strOf a1), .bool a2, .string a3, .int .i64 a4, .int .i64 (q : Int), .int .i64 ((q : Int) + (n : Int))] 30)) := (Below.refl _ _).alloc (Nat.le_refl _) _
        have hA3 : (w2.alloc (.cells #[.int .i64 a0, .string (strOf a1), .bool a2, .string a3, .int .i64 a4, .int .i64 (q : Int), .int .i64 ((q : Int) + (n : Int))] 30)).heap[w2.heap.size]? = some (.cells #[.int .i64 a0, .string (strOf a1), .bool a2, .string a3, .int .i64 a4, .int .i64 (q : Int), .int .i64 ((q : Int) + (n : Int))] 30 (0, 0)) := heap_alloc_new _ _
        have HI3 := Lib.hid ((hI.out.past hb2).past hb3)
        have HA3 := Lib.hid hA3
        have HLe : Hid (w.heap.size ≤ w2.heap.size) := Nat.le_trans hI.out.2.size hb2.size
        have HOb : Hid (∀ g, (Value.slice p acc.length c).ownBlock = some g → g < w2.heap.size) := fun g hg => Nat.lt_of_lt_of_le (hI.out.1.lt g hg).2 hb2.size
        clear hb2 hb3 hI HC hA3
        have hx : tarr ((⟨a0, a1, a2, a3, a4⟩ : Tk), q, q + n) = #[.int .i64 a0, .string (strOf a1), .bool a2, .string a3, .int .i64 a4, .int .i64 (q : Int), .int .i64 ((q : Int) + (n : Int))] := by
          unfold tarr Tk.cells
          rw [show (((q + n : Nat)) : Int) = (q : Int) + (n : Int) by omega]
        have HX := Lib.hid hx
        clear hx
        go_upto_region 10 with fail
        generalize w2.alloc (.cells #[.int .i64 a0, .string (strOf a1), .bool a2, .string a3, .int .i64 a4, .int .i64 (q : Int), .int .i64 ((q : Int) + (n : Int))] 30) = W3 at HI3 HA3 ⊢
        obtain ⟨⟨c0, c1, c2, c3, c4, c5, c6⟩, _⟩ := row7 HA3.out
        obtain ⟨p5, cc5, w5, hrun, hown5, hb5, hot5⟩ := append_tok (x := ((⟨a0, a1, a2, a3, a4⟩ : Tk), q, q + n)) (cc := 1) (HI3.out.past ((Below.refl W3.heap.size W3).alloc (Nat.le_refl _) (.cells #[.int .i64 a0, .string (strOf a1), .bool a2, .string a3, .int .i64 a4, .int .i64 (q : Int), .int .i64 ((q : Int) + (n : Int))] 30))).1 (by rw [HX.out]; exact heap_alloc_new _ _) (by have := HSt2.out; omega) (Nat.le_trans HI3.out.2.size (by simp))
        have hA5 : w5.heap[w2.heap.size]? = some (.cells #[.int .i64 a0, .string (strOf a1), .bool a2, .string a3, .int .i64 a4, .int .i64 (q : Int), .int .i64 ((q : Int) + (n : Int))] 30 (0, 0)) := by
          rw [hot5 _ (by have := lt_of_block HA3.out; simp; omega) (fun e => absurd (HOb.out _ e) (Nat.lt_irrefl _))]
          exact alloc_old _ HA3.out
        have HI5 : Hid (AlI w (.slice p5 (acc ++ [((⟨a0, a1, a2, a3, a4⟩ : Tk), q, q + n)]).length cc5) (acc ++ [((⟨a0, a1, a2, a3, a4⟩ : Tk), q, q + n)]) w5) := ⟨hown5, (HI3.out.2.alloc HI3.out.2.size _).trans hb5⟩
        have HRun := Lib.hid hrun
        have HA5 := Lib.hid hA5
        clear hrun hown5 hb5 hot5 hA5 HI3 HA3 HX
        obtain ⟨⟨d0, d1, d2, d3, d4, d5, d6⟩, _⟩ := row7 HA5.out
        clear HA5 d0 d1 d2 d3 d4 d5
        go_wp2_with (at_builtin; refine wpList_append_run rfl _ _ _ rfl _ _ _ _ rfl rfl HRun.out ?_)
        go_roundw
        case rel =>
          have hs2 := HSt2.out
          exact ⟨q + n, acc ++ [((⟨a0, a1, a2, a3, a4⟩ : Tk), q, q + n)], p5, cc5, by rw [List.length_append]; rfl, by go_num, by omega, by rw [List.length_append]; show acc.length + 1 ≤ q + n; omega, HRR, HI5⟩
        case measure =>
          have hs2 := HSt2.out
          simp [intOf]
          omega
    · have der : (er != 0) = true := bne_iff_ne.2 her
      rw [if_pos her] at hC
      rw [if_pos her] at hA2
      unfold Tk.cells Tk.no at hC
      dsimp only at hC
      have HC := Lib.hid hC
      have HRR : Hid (R = ([], er)) := by
        show _ = _
        rw [hA2]
        unfold joinF
        rw [if_pos her]
      clear hA2 hst hC her
      go_wp2_with fail
      with_reducible refine HC.out.mono ?_
      rintro e w2 ⟨rfl, hb2⟩
      have HI2 := Lib.hid ((hI.out.past hb2).past ((Below.refl w2.heap.size w2).alloc (Nat.le_refl _) (.cells #[.int .i64 0, .string (strOf []), .bool false, .string ⟨#[]⟩, .int .i64 0, .int .i64 0, .int .i64 0] 30)))
      clear hb2 hI HC
      go_wp2_with fail
      go_ret2
      rw [HRR.out]
      exact AllP.bad HI2.out.2
end Go.Proofs.YtkifndecpbphbaaDoor.dk
/- IsName. -/
namespace Go.Proofs.YtkifndecpbphbaaDoor.dk
open Go.PlainAid Go.ChangeShapes Go.WideShapes Go.ChangeAt Go.RowKit

/-- Is a text a name? -/
def isNameL (l : List Int) : Bool := match l with | [] => false | c :: _ => bgn c && decide (nameL l = some l.length)
theorem isNameL_eq {l : List Int} (hn : l ≠ []) : isNameL l = (bgn (l.getD 0 0) && decide (nameL l = some l.length)) := by
  cases l with
  | nil => exact absurd rfl hn
  | cons c t => rfl
set_option maxRecDepth 100000 in
set_option maxHeartbeats 2000000 in
theorem IsName_any (w : World) (s : ByteArray) (hF : utf.Forms w) (hs : s.size ≤ 1000000000) :
    Calls Tryd.prog 12 #[.string s] w fun e w' => e = .returned (.bool (isNameL (unstr s))) ∧ Below w.heap.size w w' := by
  by_cases hz : s.size = 0
  · have hsn : s = ⟨#[]⟩ := ba_nil hz
    subst hsn
    have hv : isNameL (unstr ⟨#[]⟩) = false := rfl
    rw [hv]
    clear hF hv hz hs
    go_enter Tryd.func12, Tryd.ntmps12
    go_wp2_with fail
    go_ret
    exact ⟨rfl, Below.refl _ _⟩
  have h0 : 0 < s.size := by omega
  have hlen := unstr_length s
  have hnl : unstr s ≠ [] := fun e => by rw [e] at hlen; simp at hlen; omega
  have hfull := ba_full hz
  have hat := byte_at s 0 h0
  obtain ⟨x, hxv⟩ : ∃ x, ((s[0].toNat : Nat) : Int) = x := ⟨_, rfl⟩
  rw [hxv] at hat
  have hx255 : 0 ≤ x ∧ x ≤ 255 := by have := s[0].toNat_lt; omega
  have wx : IntKind.i32.wrap x = x := by rw [IntKind.wrap_i32]; omega
  have hG := fun v => begins_any v x
  have hNs := nameSize_any w s hF hs
  rw [isNameL_eq hnl, ← hat, hlen]
  clear hF hx255 hnl hat hlen
  cases hbg : bgn x with
  | false =>
    rw [hbg] at hG
    have HG := Lib.hid hG
    clear hG hNs hbg
    rw [Bool.false_and]
    go_enter Tryd.func12, Tryd.ntmps12
    go_wp2_with fail
    with_reducible refine (HG.out _).mono ?_
    rintro e w3 ⟨rfl, rfl⟩
    go_wp2_with fail
    go_ret
    exact ⟨rfl, Below.refl _ _⟩
  | true =>
    rw [hbg] at hG
    rw [Bool.true_and]
    have HG := Lib.hid hG
    have HN := Lib.hid hNs
    clear hG hNs hbg
    cases hn : nameL (unstr s) with
    | none =>
      rw [hn] at HN
      rw [show decide ((none : Option Nat) = some s.size) = false from decide_eq_false (by simp)]
      clear hn
      go_enter Tryd.func12, Tryd.ntmps12
      go_wp2_with fail
      with_reducible refine (HG.out _).mono ?_
      rintro e w3 ⟨rfl, rfl⟩
      go_wp2_with fail
      with_reducible refine HN.out.mono ?_
      rintro e w4 ⟨n, ok, rfl, hok, hb⟩
      obtain rfl : ok = false := hok
      go_wp2_with fail
      go_ret
      exact ⟨rfl, hb⟩
    | some m =>
      rw [hn] at HN
      clear hn
      by_cases hm : m = s.size
      · subst hm
        rw [show decide (some s.size = some s.size) = true from decide_eq_true rfl]
        go_enter Tryd.func12, Tryd.ntmps12
        go_wp2_with fail
        with_reducible refine (HG.out _).mono ?_
        rintro e w3 ⟨rfl, rfl⟩
        go_wp2_with fail
        with_reducible refine HN.out.mono ?_
        rintro e w4 ⟨n, ok, rfl, hok, hb⟩
        obtain ⟨rfl, rfl⟩ : n = (s.size : Int) ∧ ok = true := hok
        go_wp2_with fail
        go_ret
        exact ⟨rfl, hb⟩
      · rw [show decide (some m = some s.size) = false from decide_eq_false (by simpa using hm)]
        have dm : (((m : Nat) : Int) == (s.size : Int)) = false := beq_eq_false_iff_ne.2 (by omega)
        go_enter Tryd.func12, Tryd.ntmps12
        go_wp2_with fail
        with_reducible refine (HG.out _).mono ?_
        rintro e w3 ⟨rfl, rfl⟩
        go_wp2_with fail
        with_reducible refine HN.out.mono ?_
        rintro e w4 ⟨n, ok, rfl, hok, hb⟩
        obtain ⟨rfl, rfl⟩ : n = (m : Int) ∧ ok = true := hok
        go_wp2_with fail
        go_ret
        exact ⟨rfl, hb⟩
end Go.Proofs.YtkifndecpbphbaaDoor.dk
