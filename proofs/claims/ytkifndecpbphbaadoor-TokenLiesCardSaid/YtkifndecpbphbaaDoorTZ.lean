/- TokenLies. -/
import Derived.Test.YtkifndecpbphbaaDoorTY
import Derived.Deep.RegionHeld3
namespace Go.Proofs.YtkifndecpbphbaaDoor.dk
open Go.PlainAid Go.ChangeShapes Go.WideShapes Go.ChangeAt Go.RowKit

theorem strOf_cut (s : ByteArray) (f n : Nat) : s.extract f (f + n) = strOf (((unstr s).drop f).take n) := by rw [← cut_unstr, strOf_unstr]
/-- What the law asks of the next token. -/
theorem lies_next {s : ByteArray} (hs : s.size ≤ 1000) {k : Nat} {x : TT} {r : List TT} (h : Chain (unstr s) k (x :: r)) :
    ∃ (tk : Int) (ts : List Int) (tn : Bool) (td : ByteArray) (te : Int) (f n : Nat), x = (⟨tk, ts, tn, td, te⟩, f, f + n) ∧ k ≤ f ∧ 1 ≤ n ∧ f + n ≤ s.size ∧ (∀ j, k ≤ j → j < f → isWh ((unstr s).getD j 0) = true) ∧ allL (unstr (s.extract f (f + n))) = ([(⟨tk, ts, tn, td, te⟩, 0, n)], 0) ∧ Chain (unstr s) (f + n) r := by
  have hl := unstr_length s
  cases h with
  | cons _ hk t n _ hn hle hF hq h =>
    obtain ⟨tk, ts, tn, td, te⟩ := t
    refine ⟨tk, ts, tn, td, te, toF (unstr s) k, n, rfl, (toF_le hk).1, hn, by omega, fun j h1 h2 => toF_white h1 h2, ?_, h⟩
    rw [cut_unstr, allL_small (by rw [List.length_take, List.length_drop]; omega)]
    exact one_self (unstr_oct s) hle hn hF hq
theorem lies_last {s : ByteArray} {k : Nat} (h : Chain (unstr s) k []) : k ≤ s.size ∧ ∀ j, k ≤ j → j < s.size → isWh ((unstr s).getD j 0) = true := by
  have hl := unstr_length s
  cases h with
  | nil _ hk h => exact ⟨by omega, fun j h1 h2 => toF_white h1 (by omega)⟩
theorem drop_cons {l : List TT} {i : Nat} (h : i < l.length) : l.drop i = l.getD i default :: l.drop (i + 1) := by
  rw [List.drop_eq_getElem_cons h, List.getD_eq_getElem?_getD, List.getElem?_eq_getElem h]
  rfl
set_option maxRecDepth 100000 in
set_option maxHeartbeats 2000000 in
theorem lies_great (w : World) (s : ByteArray) (ss : s.size ≤ 140737488351232) (hg : 1000 < s.size) (hF : utf.Forms w) (mx : Int) (hm : w.cell? ⟨1, 0, none⟩ = some (.int .i64 mx)) :
    Calls Tryd.prog 3 #[.string s] w fun e w' => e = .returned (.bool true) ∧ Below w.heap.size w w' := by
  have HAw := Lib.hid (awake_any w hF mx hm)
  have d1 : decide ((1000 : Int) < (s.size : Int)) = true := decide_eq_true (by omega)
  clear hF hm
  go_enter Tryd.func3, Tryd.ntmps3
  go_wp2_with fail
  with_reducible refine HAw.out.mono ?_
  rintro e w1 ⟨rfl, hb1⟩
  have HB := Lib.hid hb1
  clear hb1
  go_wp2_with fail
  go_ret
  exact ⟨rfl, HB.out⟩
set_option maxRecDepth 100000 in
set_option maxHeartbeats 8000000 in
theorem lies_small (w : World) (s : ByteArray) (hs : ¬ 1000 < s.size) (hF : utf.Forms w) (mx : Int) (hm : w.cell? ⟨1, 0, none⟩ = some (.int .i64 mx)) :
    Calls Tryd.prog 3 #[.string s] w fun e w' => e = .returned (.bool true) ∧ Below w.heap.size w w' := by
  have HAw := Lib.hid (awake_any w hF mx hm)
  have d1 : decide ((1000 : Int) < (s.size : Int)) = false := decide_eq_false (by omega)
  have hAA : ∀ (t : ByteArray), t.size ≤ 1000 → ∀ v, Below w.heap.size w v → Calls Tryd.prog 9 #[.string t] v (AllP v (allL (unstr t))) := fun t ht v h => All_any v t (hF.below h hF.size) (by omega) mx ((h.cell (World.block_lt_of_cell? _ _ hm)).trans hm)
  have hA := hAA s (by omega)
  have hch : (allL (unstr s)).2 = 0 → Chain (unstr s) 0 (allL (unstr s)).1 := fun h0 => by
    have hl := unstr_length s
    rw [allL_small (by omega)] at h0 ⊢
    exact chain_of _ (unstr_oct s) (Nat.le_refl _) (Nat.zero_le _) (Prod.ext rfl h0)
  have hcnt := fun (r : List TT) (h : Chain (unstr s) 0 r) => chain_count h
  rw [unstr_length] at hcnt
  have er1 := empty_err (allL_err (unstr s))
  generalize allL (unstr s) = r at hA hch er1
  obtain ⟨l, er⟩ := r
  dsimp only at hch er1
  have HA := Lib.hid hA
  have HCh := Lib.hid hch
  have HE := Lib.hid er1
  have HAA := Lib.hid hAA
  have HCnt := Lib.hid hcnt
  clear hA hch er1 hAA hF hm hcnt
  go_enter Tryd.func3, Tryd.ntmps3
  go_wp2_with fail
  with_reducible refine HAw.out.mono ?_
  rintro e w1 ⟨rfl, hb1⟩
  have HB1 := Lib.hid hb1
  clear hb1
  go_wp2_with fail
  with_reducible refine (HA.out _ HB1.out).mono ?_
  rintro e w2 ⟨p, c, rfl, hown, hb2⟩
  dsimp only at hown
  have HR := Lib.hid (owned_rdT hown)
  have HB2 := Lib.hid (HB1.out.trans (hb2.mono HB1.out.size))
  clear hown hb2 HB1 HA
  by_cases he : er = 0
  · subst he
    have hc0 := HCh.out rfl
    have hcn := HCnt.out l hc0
    have hlen : l.length ≤ 1000 := by omega
    have HC0 := Lib.hid hc0
    clear hc0 hcn HCh HE HCnt
    go_upto_region 9 with fail
    go_loopw [6, 7] (fun a v wr => ∃ (i k : Nat), i ≤ l.length + 1 ∧ v = .int .i64 i ∧ a = .int .i64 k ∧ Hid (i ≤ l.length → Chain (unstr s) k (l.drop i)) ∧ RdT wr p l.length l ∧ Below w.heap.size w wr) (fun _ v _ => l.length + 1 - (intOf v).toNat)
    case atStart => exact ⟨0, 0, Nat.zero_le _, rfl, rfl, fun _ => HC0.out, HR.out, HB2.out⟩
    case round =>
      clear HR HB2 HC0
      obtain ⟨i, k, hi, rfl, rfl, hC, hr, hb⟩ := hrel
      by_cases hil : i < l.length
      · have dle : decide ((i : Int) ≤ (l.length : Int)) = true := decide_eq_true (by omega)
        have hcc := hC.out (by omega)
        rw [drop_cons hil] at hcc
        obtain ⟨tk, ts, tn, td, te, f, n, hx, hto, hn, hfn, hwh, hone, hch2⟩ := lies_next (by omega) hcc
        obtain ⟨b, rfl⟩ := hr.form (by omega)
        obtain ⟨g, hg⟩ : ∃ g, g = f + n := ⟨_, rfl⟩
        rw [← hg] at hx hone hch2 hfn
        have hgf : f < g := by omega
        have HYs : Hid (∀ W, Below wr.heap.size wr W → W.cell? ⟨b, i * 7, none⟩ = some (.int .i64 tk) ∧ W.cell? ⟨b, i * 7 + 1, none⟩ = some (.string (strOf ts)) ∧ W.cell? ⟨b, i * 7 + 2, none⟩ = some (.bool tn) ∧ W.cell? ⟨b, i * 7 + 3, none⟩ = some (.string td) ∧ W.cell? ⟨b, i * 7 + 4, none⟩ = some (.int .i64 te) ∧ W.cell? ⟨b, i * 7 + 5, none⟩ = some (.int .i64 (f : Int)) ∧ W.cell? ⟨b, i * 7 + 6, none⟩ = some (.int .i64 (g : Int))) := fun W h => by
          have h := (hr.below h).seven i hil
          rw [hx] at h
          exact h
        have HOne : Hid (∀ v, Below w.heap.size w v → Calls Tryd.prog 9 #[.string (s.extract f g)] v (AllP v ([(⟨tk, ts, tn, td, te⟩, 0, n)], 0))) := fun v h => by
          have h := HAA.out (s.extract f g) (by rw [ByteArray.size_extract]; omega) v h
          rw [hone] at h
          exact h
        have HWh := Lib.hid hwh
        have HI := Lib.hid (And.intro hr hb)
        have HCh2 : Hid (i + 1 ≤ l.length → Chain (unstr s) g (l.drop (i + 1))) := fun _ => hch2
        have dto : decide ((f : Int) < (k : Int)) = false := decide_eq_false (by omega)
        have dil : decide ((i : Int) < (l.length : Int)) = true := decide_eq_true (by omega)
        have dne : ((i : Int) == (l.length : Int)) = false := beq_eq_false_iff_ne.2 (by omega)
        have dgf : decide ((g : Int) ≤ (f : Int)) = false := decide_eq_false (by omega)
        have hgs : (g : Int) ≤ (s.size : Int) := by omega
        have hfg : f ≤ g := by omega
        obtain ⟨y0, y1, y2, y3, y4, y5, y6⟩ := HYs.out wr (Below.refl _ _)
        clear hC hcc hx hone hch2 hwh hr hb hg y0 y1 y2 y3 y4 y6
        go_upto_region 17 with fail
        go_loopw [9] (fun v wq => ∃ j : Nat, k ≤ j ∧ j ≤ f ∧ v = .int .i64 j ∧ wq = wr) (fun v _ => f - (intOf v).toNat)
        case atStart => exact ⟨k, Nat.le_refl _, hto, rfl, rfl⟩
        case round =>
          obtain ⟨j, hj1, hj2, rfl, rfl⟩ := hrel
          by_cases hjl : j < f
          · have hjs : j < s.size := by omega
            have hat := byte_at s j hjs
            have hwh := HWh.out j hj1 hjl
            rw [← hat] at hwh
            have hc : ((s[j].toNat : Nat) : Int) = 32 ∨ ((s[j].toNat : Nat) : Int) = 9 ∨ ((s[j].toNat : Nat) : Int) = 10 ∨ ((s[j].toNat : Nat) : Int) = 13 := by
              unfold isWh at hwh
              simpa [or_assoc] using hwh
            clear hat hwh
            rcases hc with hc | hc | hc | hc
            all_goals
              go_wp2_with fail
              go_roundw
            all_goals first
              | (exact ⟨j + 1, by omega, by omega, by go_num, trivial⟩)
              | (simp [intOf]; omega)
          · have hje : f = j := by omega
            subst hje
            go_upto_region 22 with fail
            refine wp_region_held_drew (S := (fun W : World => Below wr.drew.heap.size wr.drew W)) (by kernel_rfl) (Below.refl _ _) (fun hHeld => ?_)
            clear hHeld
            have hbd : Below wr.heap.size wr wr.drew := (Below.refl _ _).drew
            have HYd : Hid (∀ W, Below wr.drew.heap.size wr.drew W → W.cell? ⟨b, i * 7, none⟩ = some (.int .i64 tk) ∧ W.cell? ⟨b, i * 7 + 1, none⟩ = some (.string (strOf ts)) ∧ W.cell? ⟨b, i * 7 + 2, none⟩ = some (.bool tn) ∧ W.cell? ⟨b, i * 7 + 3, none⟩ = some (.string td) ∧ W.cell? ⟨b, i * 7 + 4, none⟩ = some (.int .i64 te) ∧ W.cell? ⟨b, i * 7 + 5, none⟩ = some (.int .i64 (f : Int)) ∧ W.cell? ⟨b, i * 7 + 6, none⟩ = some (.int .i64 (g : Int))) := fun W h => HYs.out W (hbd.trans (h.mono hbd.size))
            have HId := Lib.hid (And.intro (HI.out.1.below hbd) (HI.out.2.trans (hbd.mono HI.out.2.size)))
            have HAd : Hid (∀ W, Below wr.drew.heap.size wr.drew W → Calls Tryd.prog 9 #[.string (s.extract f g)] W (AllP W ([(⟨tk, ts, tn, td, te⟩, 0, n)], 0))) := fun W h => HOne.out W (HId.out.2.trans (h.mono HId.out.2.size))
            have hT : (fun W : World => Below wr.drew.heap.size wr.drew W) wr.drew := Below.refl _ _
            clear hbd HYs HI
            generalize wr.drew = wd at HYd HId HAd hT ⊢
            refine wpAnyH_take (i := 0) (oi := { dst := some 83, op := Op.move (Operand.tmp 0), type := 9, pos := "law.go:66", after := #[], guard := none }) (v := ?_) rfl (by kernel_rfl) (by kernel_rfl) (by kernel_rfl) (fun _ _ _ h => h) (Or.inl ⟨by rfl, ?_⟩) (by assumption) ?_
            rotate_left
            · intro w hSw
              try dsimp only at hSw
              go_simp
              try with_reducible rfl
            try simp only [Act.put, List.setIfInBounds_toArray, List.set_cons_zero, List.set_cons_succ]
            refine wpAnyH_take (i := 1) (oi := { dst := some 84, op := Op.move (Operand.tmp 4), type := 23, pos := "law.go:66", after := #[], guard := none }) (v := ?_) rfl (by kernel_rfl) (by kernel_rfl) (by kernel_rfl) (fun _ _ _ h => h) (Or.inl ⟨by rfl, ?_⟩) (by assumption) ?_
            rotate_left
            · intro w hSw
              try dsimp only at hSw
              go_simp
              try with_reducible rfl
            try simp only [Act.put, List.setIfInBounds_toArray, List.set_cons_zero, List.set_cons_succ]
            refine wpAnyH_take (i := 2) (oi := { dst := some 85, op := Op.move (Operand.tmp 7), type := 3, pos := "law.go:66", after := #[], guard := none }) (v := ?_) rfl (by kernel_rfl) (by kernel_rfl) (by kernel_rfl) (fun _ _ _ h => h) (Or.inl ⟨by rfl, ?_⟩) (by assumption) ?_
            rotate_left
            · intro w hSw
              try dsimp only at hSw
              go_simp
              try with_reducible rfl
            try simp only [Act.put, List.setIfInBounds_toArray, List.set_cons_zero, List.set_cons_succ]
            refine wpAnyH_take (i := 3) (oi := { dst := some 86, op := Op.indexAddr 23 (Operand.tmp 84) (Operand.tmp 85), type := 0, pos := "law.go:66", after := #[{ on := 1, ground := Ground.data }, { on := 2, ground := Ground.data }], guard := none }) (v := ?_) rfl (by kernel_rfl) (by kernel_rfl) (by kernel_rfl) (fun _ _ _ h => h) (Or.inl ⟨by rfl, ?_⟩) (by assumption) ?_
            rotate_left
            · intro w hSw
              try dsimp only at hSw
              go_simp
              try with_reducible rfl
            try simp only [Act.put, List.setIfInBounds_toArray, List.set_cons_zero, List.set_cons_succ]
            refine wpAnyH_take (i := 4) (oi := { dst := some 87, op := Op.fieldAddr 30 (Operand.tmp 86) 3, type := 0, pos := "law.go:66", after := #[{ on := 3, ground := Ground.data }], guard := none }) (v := ?_) rfl (by kernel_rfl) (by kernel_rfl) (by kernel_rfl) (fun _ _ _ h => h) (Or.inl ⟨by rfl, ?_⟩) (by assumption) ?_
            rotate_left
            · intro w hSw
              try dsimp only at hSw
              go_simp
              try with_reducible rfl
            try simp only [Act.put, List.setIfInBounds_toArray, List.set_cons_zero, List.set_cons_succ]
            refine wpAnyH_take (i := 5) (oi := { dst := some 88, op := Op.load 3 (Operand.tmp 87), type := 3, pos := "law.go:66", after := #[{ on := 4, ground := Ground.data }], guard := none }) (v := ?_) rfl (by kernel_rfl) (by kernel_rfl) (by kernel_rfl) (fun _ _ _ h => h) (Or.inl ⟨by rfl, ?_⟩) (by assumption) ?_
            rotate_left
            · intro w hSw
              try dsimp only at hSw
              obtain ⟨y0, y1, y2, y3, y4, y5, y6⟩ := HYd.out _ hSw
              go_simp
              try with_reducible rfl
            try simp only [Act.put, List.setIfInBounds_toArray, List.set_cons_zero, List.set_cons_succ]
            refine wpAnyH_take (i := 6) (oi := { dst := some 89, op := Op.move (Operand.tmp 4), type := 23, pos := "law.go:66", after := #[], guard := none }) (v := ?_) rfl (by kernel_rfl) (by kernel_rfl) (by kernel_rfl) (fun _ _ _ h => h) (Or.inl ⟨by rfl, ?_⟩) (by assumption) ?_
            rotate_left
            · intro w hSw
              try dsimp only at hSw
              go_simp
              try with_reducible rfl
            try simp only [Act.put, List.setIfInBounds_toArray, List.set_cons_zero, List.set_cons_succ]
            refine wpAnyH_take (i := 7) (oi := { dst := some 90, op := Op.move (Operand.tmp 7), type := 3, pos := "law.go:66", after := #[], guard := none }) (v := ?_) rfl (by kernel_rfl) (by kernel_rfl) (by kernel_rfl) (fun _ _ _ h => h) (Or.inl ⟨by rfl, ?_⟩) (by assumption) ?_
            rotate_left
            · intro w hSw
              try dsimp only at hSw
              go_simp
              try with_reducible rfl
            try simp only [Act.put, List.setIfInBounds_toArray, List.set_cons_zero, List.set_cons_succ]
            refine wpAnyH_take (i := 8) (oi := { dst := some 91, op := Op.indexAddr 23 (Operand.tmp 89) (Operand.tmp 90), type := 0, pos := "law.go:66", after := #[{ on := 6, ground := Ground.data }, { on := 7, ground := Ground.data }], guard := none }) (v := ?_) rfl (by kernel_rfl) (by kernel_rfl) (by kernel_rfl) (fun _ _ _ h => h) (Or.inl ⟨by rfl, ?_⟩) (by assumption) ?_
            rotate_left
            · intro w hSw
              try dsimp only at hSw
              go_simp
              try with_reducible rfl
            try simp only [Act.put, List.setIfInBounds_toArray, List.set_cons_zero, List.set_cons_succ]
            refine wpAnyH_take (i := 9) (oi := { dst := some 92, op := Op.fieldAddr 30 (Operand.tmp 91) 4, type := 0, pos := "law.go:66", after := #[{ on := 8, ground := Ground.data }], guard := none }) (v := ?_) rfl (by kernel_rfl) (by kernel_rfl) (by kernel_rfl) (fun _ _ _ h => h) (Or.inl ⟨by rfl, ?_⟩) (by assumption) ?_
            rotate_left
            · intro w hSw
              try dsimp only at hSw
              go_simp
              try with_reducible rfl
            try simp only [Act.put, List.setIfInBounds_toArray, List.set_cons_zero, List.set_cons_succ]
            refine wpAnyH_take (i := 10) (oi := { dst := some 93, op := Op.load 3 (Operand.tmp 92), type := 3, pos := "law.go:66", after := #[{ on := 9, ground := Ground.data }], guard := none }) (v := ?_) rfl (by kernel_rfl) (by kernel_rfl) (by kernel_rfl) (fun _ _ _ h => h) (Or.inl ⟨by rfl, ?_⟩) (by assumption) ?_
            rotate_left
            · intro w hSw
              try dsimp only at hSw
              obtain ⟨y0, y1, y2, y3, y4, y5, y6⟩ := HYd.out _ hSw
              go_simp
              try with_reducible rfl
            try simp only [Act.put, List.setIfInBounds_toArray, List.set_cons_zero, List.set_cons_succ]
            refine wpAnyH_take (i := 11) (oi := { dst := some 94, op := Op.slice 9 (Operand.tmp 83) (some (Operand.tmp 88)) (some (Operand.tmp 93)) none, type := 9, pos := "law.go:66", after := #[{ on := 0, ground := Ground.data }, { on := 5, ground := Ground.data }, { on := 10, ground := Ground.data }], guard := none }) (v := ?_) rfl (by kernel_rfl) (by kernel_rfl) (by kernel_rfl) (fun _ _ _ h => h) (Or.inl ⟨by rfl, ?_⟩) (by assumption) ?_
            rotate_left
            · intro w hSw
              try dsimp only at hSw
              go_simp
              try with_reducible rfl
            try simp only [Act.put, List.setIfInBounds_toArray, List.set_cons_zero, List.set_cons_succ]
            refine wpAnyH_ready (rs := [12]) (by kernel_rfl) (by simp) ?_
            refine AllReadyH.cons (o := { dst := some 95, op := Op.call { callee := Callee.value (Operand.func 9), args := #[Operand.tmp 94], argTypes := #[9] }, type := 25, pos := "law.go:66", after := #[{ on := 11, ground := Ground.data }], guard := none }) rfl (fun K hK => ?_) AllReadyH.nil
            go_simp
            with_reducible refine (HAd.out _ hT).mono ?_
            rintro e w2 ⟨mp, mc, rfl, hown, hb⟩
            have hT2 : (fun W : World => Below wd.heap.size wd W) w2 := hT.trans (hb.mono hT.size)
            refine hK.out _ _ hT2 (fun _ => ?_)
            have HOw := Lib.hid hown
            have HbT := Lib.hid hb
            clear hK K hb hown
            try dsimp only
            refine wpAnyH_take (i := 13) (oi := { dst := some 82, op := Op.move (Operand.tmp 95), type := 25, pos := "law.go:66", after := #[{ on := 12, ground := Ground.data }], guard := none }) (v := ?_) rfl (by kernel_rfl) (by kernel_rfl) (by kernel_rfl) (fun _ _ _ h => h) (Or.inl ⟨by rfl, ?_⟩) (by assumption) ?_
            rotate_left
            · intro w hSw
              try dsimp only at hSw
              go_simp
              try with_reducible rfl
            try simp only [Act.put, List.setIfInBounds_toArray, List.set_cons_zero, List.set_cons_succ]
            refine wpAnyH_take (i := 14) (oi := { dst := some 96, op := Op.extract (Operand.tmp 82) 0, type := 23, pos := "law.go:66", after := #[{ on := 13, ground := Ground.data }], guard := none }) (v := ?_) rfl (by kernel_rfl) (by kernel_rfl) (by kernel_rfl) (fun _ _ _ h => h) (Or.inl ⟨by rfl, ?_⟩) (by assumption) ?_
            rotate_left
            · intro w hSw
              try dsimp only at hSw
              go_simp
              try with_reducible rfl
            try simp only [Act.put, List.setIfInBounds_toArray, List.set_cons_zero, List.set_cons_succ]
            refine wpAnyH_take (i := 15) (oi := { dst := some 97, op := Op.extract (Operand.tmp 82) 1, type := 24, pos := "law.go:66", after := #[{ on := 13, ground := Ground.data }, { on := 16, ground := Ground.gcOnly Departure.lateStores }], guard := none }) (v := ?_) rfl (by kernel_rfl) (by kernel_rfl) (by kernel_rfl) (fun _ _ _ h => h) (Or.inl ⟨by rfl, ?_⟩) (by assumption) ?_
            rotate_left
            · intro w hSw
              try dsimp only at hSw
              go_simp
              try with_reducible rfl
            try simp only [Act.put, List.setIfInBounds_toArray, List.set_cons_zero, List.set_cons_succ]
            refine wpAnyH_take (i := 16) (oi := { dst := some 10, op := Op.assign (Operand.tmp 96), type := 23, pos := "law.go:66", after := #[{ on := 14, ground := Ground.data }, { on := 12, ground := Ground.chain }, { on := 0, ground := Ground.phase }, { on := 1, ground := Ground.phase }, { on := 2, ground := Ground.phase }, { on := 3, ground := Ground.phase }, { on := 4, ground := Ground.phase }, { on := 5, ground := Ground.phase }, { on := 6, ground := Ground.phase }, { on := 7, ground := Ground.phase }, { on := 8, ground := Ground.phase }, { on := 9, ground := Ground.phase }, { on := 10, ground := Ground.phase }, { on := 11, ground := Ground.phase }, { on := 12, ground := Ground.phase }, { on := 13, ground := Ground.phase }, { on := 14, ground := Ground.phase }, { on := 15, ground := Ground.textOnly Departure.lateStores }], guard := none }) (v := ?_) rfl (by kernel_rfl) (by kernel_rfl) (by kernel_rfl) (fun _ _ _ h => h) (Or.inl ⟨by rfl, ?_⟩) (by assumption) ?_
            rotate_left
            · intro w hSw
              try dsimp only at hSw
              go_simp
              try with_reducible rfl
            try simp only [Act.put, List.setIfInBounds_toArray, List.set_cons_zero, List.set_cons_succ]
            refine wpAnyH_take (i := 17) (oi := { dst := some 11, op := Op.assign (Operand.tmp 97), type := 24, pos := "law.go:66", after := #[{ on := 15, ground := Ground.data }, { on := 16, ground := Ground.chain }, { on := 0, ground := Ground.phase }, { on := 1, ground := Ground.phase }, { on := 2, ground := Ground.phase }, { on := 3, ground := Ground.phase }, { on := 4, ground := Ground.phase }, { on := 5, ground := Ground.phase }, { on := 6, ground := Ground.phase }, { on := 7, ground := Ground.phase }, { on := 8, ground := Ground.phase }, { on := 9, ground := Ground.phase }, { on := 10, ground := Ground.phase }, { on := 11, ground := Ground.phase }, { on := 12, ground := Ground.phase }, { on := 13, ground := Ground.phase }, { on := 14, ground := Ground.phase }, { on := 15, ground := Ground.phase }, { on := 16, ground := Ground.phase }], guard := none }) (v := ?_) rfl (by kernel_rfl) (by kernel_rfl) (by kernel_rfl) (fun _ _ _ h => h) (Or.inl ⟨by rfl, ?_⟩) (by assumption) ?_
            rotate_left
            · intro w hSw
              try dsimp only at hSw
              go_simp
              try with_reducible rfl
            try simp only [Act.put, List.setIfInBounds_toArray, List.set_cons_zero, List.set_cons_succ]
            refine wpAnyH_done (by kernel_rfl) ?_ _
            have hmr : RdT w2 mp 1 [((⟨tk, ts, tn, td, te⟩ : Tk), 0, n)] := owned_rdT HOw.out
            obtain ⟨mb, rfl⟩ := hmr.form (by decide)
            have hI2 := And.intro (HId.out.1.below hT2) (HId.out.2.trans (hT2.mono HId.out.2.size))
            have hY2 : ∀ W, Below w2.heap.size w2 W → W.cell? ⟨b, i * 7, none⟩ = some (.int .i64 tk) ∧ W.cell? ⟨b, i * 7 + 1, none⟩ = some (.string (strOf ts)) ∧ W.cell? ⟨b, i * 7 + 2, none⟩ = some (.bool tn) ∧ W.cell? ⟨b, i * 7 + 3, none⟩ = some (.string td) ∧ W.cell? ⟨b, i * 7 + 4, none⟩ = some (.int .i64 te) ∧ W.cell? ⟨b, i * 7 + 5, none⟩ = some (.int .i64 (f : Int)) ∧ W.cell? ⟨b, i * 7 + 6, none⟩ = some (.int .i64 (g : Int)) := fun W h => HYd.out W (hT2.trans (h.mono hT2.size))
            have hM2 : ∀ W, Below w2.heap.size w2 W → W.cell? ⟨mb, 0, none⟩ = some (.int .i64 tk) ∧ W.cell? ⟨mb, 1, none⟩ = some (.string (strOf ts)) ∧ W.cell? ⟨mb, 2, none⟩ = some (.bool tn) ∧ W.cell? ⟨mb, 3, none⟩ = some (.string td) ∧ W.cell? ⟨mb, 4, none⟩ = some (.int .i64 te) ∧ W.cell? ⟨mb, 5, none⟩ = some (.int .i64 ((0 : Nat) : Int)) ∧ W.cell? ⟨mb, 6, none⟩ = some (.int .i64 (n : Int)) := fun W h => (hmr.below h).seven 0 (by decide)
            clear HYd HId HAd hT hT2 HOw HbT hmr HOne
            go_upto_region 23 with fail
            refine wp_region_held_drew (S := (fun W : World => Below w2.drew.heap.size w2.drew W)) (by kernel_rfl) (Below.refl _ _) (fun hHeld => ?_)
            clear hHeld
            have hbd : Below w2.heap.size w2 w2.drew := (Below.refl _ _).drew
            have HYd : Hid (∀ W, Below w2.drew.heap.size w2.drew W → W.cell? ⟨b, i * 7, none⟩ = some (.int .i64 tk) ∧ W.cell? ⟨b, i * 7 + 1, none⟩ = some (.string (strOf ts)) ∧ W.cell? ⟨b, i * 7 + 2, none⟩ = some (.bool tn) ∧ W.cell? ⟨b, i * 7 + 3, none⟩ = some (.string td) ∧ W.cell? ⟨b, i * 7 + 4, none⟩ = some (.int .i64 te) ∧ W.cell? ⟨b, i * 7 + 5, none⟩ = some (.int .i64 (f : Int)) ∧ W.cell? ⟨b, i * 7 + 6, none⟩ = some (.int .i64 (g : Int))) := fun W h => hY2 W (hbd.trans (h.mono hbd.size))
            have HMd : Hid (∀ W, Below w2.drew.heap.size w2.drew W → W.cell? ⟨mb, 0, none⟩ = some (.int .i64 tk) ∧ W.cell? ⟨mb, 1, none⟩ = some (.string (strOf ts)) ∧ W.cell? ⟨mb, 2, none⟩ = some (.bool tn) ∧ W.cell? ⟨mb, 3, none⟩ = some (.string td) ∧ W.cell? ⟨mb, 4, none⟩ = some (.int .i64 te) ∧ W.cell? ⟨mb, 5, none⟩ = some (.int .i64 ((0 : Nat) : Int)) ∧ W.cell? ⟨mb, 6, none⟩ = some (.int .i64 (n : Int))) := fun W h => hM2 W (hbd.trans (h.mono hbd.size))
            have HId := Lib.hid (And.intro (hI2.1.below hbd) (hI2.2.trans (hbd.mono hI2.2.size)))
            have hT : (fun W : World => Below w2.drew.heap.size w2.drew W) w2.drew := Below.refl _ _
            clear hbd hY2 hM2 hI2
            generalize w2.drew = wd at HYd HMd HId hT ⊢
            refine wpAnyH_take (i := 0) (oi := { dst := some 98, op := Op.move (Operand.tmp 11), type := 24, pos := "law.go:67", after := #[], guard := none }) (v := ?_) rfl (by kernel_rfl) (by kernel_rfl) (by kernel_rfl) (fun _ _ _ h => h) (Or.inl ⟨by rfl, ?_⟩) (by assumption) ?_
            rotate_left
            · intro w hSw
              try dsimp only at hSw
              go_simp
              try with_reducible rfl
            try simp only [Act.put, List.setIfInBounds_toArray, List.set_cons_zero, List.set_cons_succ]
            refine wpAnyH_take (i := 1) (oi := { dst := some 99, op := Op.binOp BinOp.neq 24 (Operand.tmp 98) (Operand.const (Value.int IntKind.i64 0)) 24, type := 4, pos := "law.go:67", after := #[{ on := 0, ground := Ground.data }], guard := none }) (v := ?_) rfl (by kernel_rfl) (by kernel_rfl) (by kernel_rfl) (fun _ _ _ h => h) (Or.inl ⟨by rfl, ?_⟩) (by assumption) ?_
            rotate_left
            · intro w hSw
              try dsimp only at hSw
              go_simp
              try with_reducible rfl
            try simp only [Act.put, List.setIfInBounds_toArray, List.set_cons_zero, List.set_cons_succ]
            refine wpAnyH_take (i := 2) (oi := { dst := some 100, op := Op.move (Operand.tmp 99), type := 4, pos := "law.go:67", after := #[{ on := 1, ground := Ground.data }], guard := none }) (v := ?_) rfl (by kernel_rfl) (by kernel_rfl) (by kernel_rfl) (fun _ _ _ h => h) (Or.inl ⟨by rfl, ?_⟩) (by assumption) ?_
            rotate_left
            · intro w hSw
              try dsimp only at hSw
              go_simp
              try with_reducible rfl
            try simp only [Act.put, List.setIfInBounds_toArray, List.set_cons_zero, List.set_cons_succ]
            refine wpAnyH_take (i := 3) (oi := { dst := some 101, op := Op.move (Operand.tmp 10), type := 23, pos := "law.go:67", after := #[{ on := 2, ground := Ground.guard }], guard := some (2, false) }) (v := ?_) rfl (by kernel_rfl) (by kernel_rfl) (by kernel_rfl) (fun _ _ _ h => h) (Or.inl ⟨by rfl, ?_⟩) (by assumption) ?_
            rotate_left
            · intro w hSw
              try dsimp only at hSw
              go_simp
              try with_reducible rfl
            try simp only [Act.put, List.setIfInBounds_toArray, List.set_cons_zero, List.set_cons_succ]
            refine wpAnyH_take (i := 4) (oi := { dst := some 102, op := Op.call { callee := Callee.builtin Builtin.len, args := #[Operand.tmp 101], argTypes := #[23] }, type := 3, pos := "law.go:67", after := #[{ on := 3, ground := Ground.data }, { on := 2, ground := Ground.guard }], guard := some (2, false) }) (v := ?_) rfl (by kernel_rfl) (by kernel_rfl) (by kernel_rfl) (fun _ _ _ h => h) (Or.inl ⟨by rfl, ?_⟩) (by assumption) ?_
            rotate_left
            · intro w hSw
              try dsimp only at hSw
              go_simp
              try with_reducible rfl
            try simp only [Act.put, List.setIfInBounds_toArray, List.set_cons_zero, List.set_cons_succ]
            refine wpAnyH_take (i := 5) (oi := { dst := some 103, op := Op.binOp BinOp.neq 3 (Operand.tmp 102) (Operand.const (Value.int IntKind.i64 1)) 3, type := 4, pos := "law.go:67", after := #[{ on := 4, ground := Ground.data }, { on := 2, ground := Ground.guard }], guard := some (2, false) }) (v := ?_) rfl (by kernel_rfl) (by kernel_rfl) (by kernel_rfl) (fun _ _ _ h => h) (Or.inl ⟨by rfl, ?_⟩) (by assumption) ?_
            rotate_left
            · intro w hSw
              try dsimp only at hSw
              go_simp
              try with_reducible rfl
            try simp only [Act.put, List.setIfInBounds_toArray, List.set_cons_zero, List.set_cons_succ]
            refine wpAnyH_take (i := 6) (oi := { dst := some 104, op := Op.pick (Operand.tmp 100) (Operand.const (Value.bool true)) (Operand.tmp 103), type := 4, pos := "law.go:67", after := #[{ on := 2, ground := Ground.data }, { on := 5, ground := Ground.data }], guard := none }) (v := ?_) rfl (by kernel_rfl) (by kernel_rfl) (by kernel_rfl) (fun _ _ _ h => h) (Or.inl ⟨by rfl, ?_⟩) (by assumption) ?_
            rotate_left
            · intro w hSw
              try dsimp only at hSw
              go_simp
              try with_reducible rfl
            try simp only [Act.put, List.setIfInBounds_toArray, List.set_cons_zero, List.set_cons_succ]
            refine wpAnyH_take (i := 7) (oi := { dst := some 105, op := Op.move (Operand.tmp 104), type := 4, pos := "law.go:67", after := #[{ on := 6, ground := Ground.data }, { on := 2, ground := Ground.chain }], guard := none }) (v := ?_) rfl (by kernel_rfl) (by kernel_rfl) (by kernel_rfl) (fun _ _ _ h => h) (Or.inl ⟨by rfl, ?_⟩) (by assumption) ?_
            rotate_left
            · intro w hSw
              try dsimp only at hSw
              go_simp
              try with_reducible rfl
            try simp only [Act.put, List.setIfInBounds_toArray, List.set_cons_zero, List.set_cons_succ]
            refine wpAnyH_take (i := 8) (oi := { dst := some 106, op := Op.move (Operand.tmp 10), type := 23, pos := "law.go:67", after := #[{ on := 7, ground := Ground.guard }], guard := some (7, false) }) (v := ?_) rfl (by kernel_rfl) (by kernel_rfl) (by kernel_rfl) (fun _ _ _ h => h) (Or.inl ⟨by rfl, ?_⟩) (by assumption) ?_
            rotate_left
            · intro w hSw
              try dsimp only at hSw
              go_simp
              try with_reducible rfl
            try simp only [Act.put, List.setIfInBounds_toArray, List.set_cons_zero, List.set_cons_succ]
            refine wpAnyH_take (i := 9) (oi := { dst := some 107, op := Op.indexAddr 23 (Operand.tmp 106) (Operand.const (Value.int IntKind.i64 0)), type := 0, pos := "law.go:67", after := #[{ on := 8, ground := Ground.data }, { on := 7, ground := Ground.guard }], guard := some (7, false) }) (v := ?_) rfl (by kernel_rfl) (by kernel_rfl) (by kernel_rfl) (fun _ _ _ h => h) (Or.inl ⟨by rfl, ?_⟩) (by assumption) ?_
            rotate_left
            · intro w hSw
              try dsimp only at hSw
              go_simp
              try with_reducible rfl
            try simp only [Act.put, List.setIfInBounds_toArray, List.set_cons_zero, List.set_cons_succ]
            refine wpAnyH_take (i := 10) (oi := { dst := some 108, op := Op.fieldAddr 30 (Operand.tmp 107) 0, type := 0, pos := "law.go:67", after := #[{ on := 9, ground := Ground.data }, { on := 7, ground := Ground.guard }], guard := some (7, false) }) (v := ?_) rfl (by kernel_rfl) (by kernel_rfl) (by kernel_rfl) (fun _ _ _ h => h) (Or.inl ⟨by rfl, ?_⟩) (by assumption) ?_
            rotate_left
            · intro w hSw
              try dsimp only at hSw
              go_simp
              try with_reducible rfl
            try simp only [Act.put, List.setIfInBounds_toArray, List.set_cons_zero, List.set_cons_succ]
            refine wpAnyH_take (i := 11) (oi := { dst := some 109, op := Op.load 3 (Operand.tmp 108), type := 3, pos := "law.go:67", after := #[{ on := 10, ground := Ground.data }, { on := 7, ground := Ground.guard }], guard := some (7, false) }) (v := ?_) rfl (by kernel_rfl) (by kernel_rfl) (by kernel_rfl) (fun _ _ _ h => h) (Or.inl ⟨by rfl, ?_⟩) (by assumption) ?_
            rotate_left
            · intro w hSw
              try dsimp only at hSw
              obtain ⟨m0, m1, m2, m3, m4, m5, m6⟩ := HMd.out _ hSw
              go_simp
              try with_reducible rfl
            try simp only [Act.put, List.setIfInBounds_toArray, List.set_cons_zero, List.set_cons_succ]
            refine wpAnyH_take (i := 12) (oi := { dst := some 110, op := Op.move (Operand.tmp 4), type := 23, pos := "law.go:67", after := #[{ on := 7, ground := Ground.guard }], guard := some (7, false) }) (v := ?_) rfl (by kernel_rfl) (by kernel_rfl) (by kernel_rfl) (fun _ _ _ h => h) (Or.inl ⟨by rfl, ?_⟩) (by assumption) ?_
            rotate_left
            · intro w hSw
              try dsimp only at hSw
              go_simp
              try with_reducible rfl
            try simp only [Act.put, List.setIfInBounds_toArray, List.set_cons_zero, List.set_cons_succ]
            refine wpAnyH_take (i := 13) (oi := { dst := some 111, op := Op.move (Operand.tmp 7), type := 3, pos := "law.go:67", after := #[{ on := 7, ground := Ground.guard }], guard := some (7, false) }) (v := ?_) rfl (by kernel_rfl) (by kernel_rfl) (by kernel_rfl) (fun _ _ _ h => h) (Or.inl ⟨by rfl, ?_⟩) (by assumption) ?_
            rotate_left
            · intro w hSw
              try dsimp only at hSw
              go_simp
              try with_reducible rfl
            try simp only [Act.put, List.setIfInBounds_toArray, List.set_cons_zero, List.set_cons_succ]
            refine wpAnyH_take (i := 14) (oi := { dst := some 112, op := Op.indexAddr 23 (Operand.tmp 110) (Operand.tmp 111), type := 0, pos := "law.go:67", after := #[{ on := 12, ground := Ground.data }, { on := 13, ground := Ground.data }, { on := 7, ground := Ground.guard }], guard := some (7, false) }) (v := ?_) rfl (by kernel_rfl) (by kernel_rfl) (by kernel_rfl) (fun _ _ _ h => h) (Or.inl ⟨by rfl, ?_⟩) (by assumption) ?_
            rotate_left
            · intro w hSw
              try dsimp only at hSw
              go_simp
              try with_reducible rfl
            try simp only [Act.put, List.setIfInBounds_toArray, List.set_cons_zero, List.set_cons_succ]
            refine wpAnyH_take (i := 15) (oi := { dst := some 113, op := Op.fieldAddr 30 (Operand.tmp 112) 0, type := 0, pos := "law.go:67", after := #[{ on := 14, ground := Ground.data }, { on := 7, ground := Ground.guard }], guard := some (7, false) }) (v := ?_) rfl (by kernel_rfl) (by kernel_rfl) (by kernel_rfl) (fun _ _ _ h => h) (Or.inl ⟨by rfl, ?_⟩) (by assumption) ?_
            rotate_left
            · intro w hSw
              try dsimp only at hSw
              go_simp
              try with_reducible rfl
            try simp only [Act.put, List.setIfInBounds_toArray, List.set_cons_zero, List.set_cons_succ]
            refine wpAnyH_take (i := 16) (oi := { dst := some 114, op := Op.load 3 (Operand.tmp 113), type := 3, pos := "law.go:67", after := #[{ on := 15, ground := Ground.data }, { on := 7, ground := Ground.guard }], guard := some (7, false) }) (v := ?_) rfl (by kernel_rfl) (by kernel_rfl) (by kernel_rfl) (fun _ _ _ h => h) (Or.inl ⟨by rfl, ?_⟩) (by assumption) ?_
            rotate_left
            · intro w hSw
              try dsimp only at hSw
              obtain ⟨y0, y1, y2, y3, y4, y5, y6⟩ := HYd.out _ hSw
              go_simp
              try with_reducible rfl
            try simp only [Act.put, List.setIfInBounds_toArray, List.set_cons_zero, List.set_cons_succ]
            refine wpAnyH_take (i := 17) (oi := { dst := some 115, op := Op.binOp BinOp.neq 3 (Operand.tmp 109) (Operand.tmp 114) 3, type := 4, pos := "law.go:67", after := #[{ on := 11, ground := Ground.data }, { on := 16, ground := Ground.data }, { on := 7, ground := Ground.guard }], guard := some (7, false) }) (v := ?_) rfl (by kernel_rfl) (by kernel_rfl) (by kernel_rfl) (fun _ _ _ h => h) (Or.inl ⟨by rfl, ?_⟩) (by assumption) ?_
            rotate_left
            · intro w hSw
              try dsimp only at hSw
              go_simp
              try with_reducible rfl
            try simp only [Act.put, List.setIfInBounds_toArray, List.set_cons_zero, List.set_cons_succ]
            refine wpAnyH_take (i := 18) (oi := { dst := some 116, op := Op.pick (Operand.tmp 105) (Operand.const (Value.bool true)) (Operand.tmp 115), type := 4, pos := "law.go:67", after := #[{ on := 7, ground := Ground.data }, { on := 17, ground := Ground.data }], guard := none }) (v := ?_) rfl (by kernel_rfl) (by kernel_rfl) (by kernel_rfl) (fun _ _ _ h => h) (Or.inl ⟨by rfl, ?_⟩) (by assumption) ?_
            rotate_left
            · intro w hSw
              try dsimp only at hSw
              go_simp
              try with_reducible rfl
            try simp only [Act.put, List.setIfInBounds_toArray, List.set_cons_zero, List.set_cons_succ]
            refine wpAnyH_take (i := 19) (oi := { dst := some 117, op := Op.move (Operand.tmp 116), type := 4, pos := "law.go:67", after := #[{ on := 18, ground := Ground.data }, { on := 7, ground := Ground.chain }], guard := none }) (v := ?_) rfl (by kernel_rfl) (by kernel_rfl) (by kernel_rfl) (fun _ _ _ h => h) (Or.inl ⟨by rfl, ?_⟩) (by assumption) ?_
            rotate_left
            · intro w hSw
              try dsimp only at hSw
              go_simp
              try with_reducible rfl
            try simp only [Act.put, List.setIfInBounds_toArray, List.set_cons_zero, List.set_cons_succ]
            refine wpAnyH_take (i := 20) (oi := { dst := some 118, op := Op.move (Operand.tmp 10), type := 23, pos := "law.go:67", after := #[{ on := 19, ground := Ground.guard }], guard := some (19, false) }) (v := ?_) rfl (by kernel_rfl) (by kernel_rfl) (by kernel_rfl) (fun _ _ _ h => h) (Or.inl ⟨by rfl, ?_⟩) (by assumption) ?_
            rotate_left
            · intro w hSw
              try dsimp only at hSw
              go_simp
              try with_reducible rfl
            try simp only [Act.put, List.setIfInBounds_toArray, List.set_cons_zero, List.set_cons_succ]
            refine wpAnyH_take (i := 21) (oi := { dst := some 119, op := Op.indexAddr 23 (Operand.tmp 118) (Operand.const (Value.int IntKind.i64 0)), type := 0, pos := "law.go:67", after := #[{ on := 20, ground := Ground.data }, { on := 19, ground := Ground.guard }], guard := some (19, false) }) (v := ?_) rfl (by kernel_rfl) (by kernel_rfl) (by kernel_rfl) (fun _ _ _ h => h) (Or.inl ⟨by rfl, ?_⟩) (by assumption) ?_
            rotate_left
            · intro w hSw
              try dsimp only at hSw
              go_simp
              try with_reducible rfl
            try simp only [Act.put, List.setIfInBounds_toArray, List.set_cons_zero, List.set_cons_succ]
            refine wpAnyH_take (i := 22) (oi := { dst := some 120, op := Op.fieldAddr 30 (Operand.tmp 119) 1, type := 0, pos := "law.go:67", after := #[{ on := 21, ground := Ground.data }, { on := 19, ground := Ground.guard }], guard := some (19, false) }) (v := ?_) rfl (by kernel_rfl) (by kernel_rfl) (by kernel_rfl) (fun _ _ _ h => h) (Or.inl ⟨by rfl, ?_⟩) (by assumption) ?_
            rotate_left
            · intro w hSw
              try dsimp only at hSw
              go_simp
              try with_reducible rfl
            try simp only [Act.put, List.setIfInBounds_toArray, List.set_cons_zero, List.set_cons_succ]
            refine wpAnyH_take (i := 23) (oi := { dst := some 121, op := Op.load 9 (Operand.tmp 120), type := 9, pos := "law.go:67", after := #[{ on := 22, ground := Ground.data }, { on := 19, ground := Ground.guard }], guard := some (19, false) }) (v := ?_) rfl (by kernel_rfl) (by kernel_rfl) (by kernel_rfl) (fun _ _ _ h => h) (Or.inl ⟨by rfl, ?_⟩) (by assumption) ?_
            rotate_left
            · intro w hSw
              try dsimp only at hSw
              obtain ⟨m0, m1, m2, m3, m4, m5, m6⟩ := HMd.out _ hSw
              go_simp
              try with_reducible rfl
            try simp only [Act.put, List.setIfInBounds_toArray, List.set_cons_zero, List.set_cons_succ]
            refine wpAnyH_take (i := 24) (oi := { dst := some 122, op := Op.move (Operand.tmp 4), type := 23, pos := "law.go:67", after := #[{ on := 19, ground := Ground.guard }], guard := some (19, false) }) (v := ?_) rfl (by kernel_rfl) (by kernel_rfl) (by kernel_rfl) (fun _ _ _ h => h) (Or.inl ⟨by rfl, ?_⟩) (by assumption) ?_
            rotate_left
            · intro w hSw
              try dsimp only at hSw
              go_simp
              try with_reducible rfl
            try simp only [Act.put, List.setIfInBounds_toArray, List.set_cons_zero, List.set_cons_succ]
            refine wpAnyH_take (i := 25) (oi := { dst := some 123, op := Op.move (Operand.tmp 7), type := 3, pos := "law.go:67", after := #[{ on := 19, ground := Ground.guard }], guard := some (19, false) }) (v := ?_) rfl (by kernel_rfl) (by kernel_rfl) (by kernel_rfl) (fun _ _ _ h => h) (Or.inl ⟨by rfl, ?_⟩) (by assumption) ?_
            rotate_left
            · intro w hSw
              try dsimp only at hSw
              go_simp
              try with_reducible rfl
            try simp only [Act.put, List.setIfInBounds_toArray, List.set_cons_zero, List.set_cons_succ]
            refine wpAnyH_take (i := 26) (oi := { dst := some 124, op := Op.indexAddr 23 (Operand.tmp 122) (Operand.tmp 123), type := 0, pos := "law.go:67", after := #[{ on := 24, ground := Ground.data }, { on := 25, ground := Ground.data }, { on := 19, ground := Ground.guard }], guard := some (19, false) }) (v := ?_) rfl (by kernel_rfl) (by kernel_rfl) (by kernel_rfl) (fun _ _ _ h => h) (Or.inl ⟨by rfl, ?_⟩) (by assumption) ?_
            rotate_left
            · intro w hSw
              try dsimp only at hSw
              go_simp
              try with_reducible rfl
            try simp only [Act.put, List.setIfInBounds_toArray, List.set_cons_zero, List.set_cons_succ]
            refine wpAnyH_take (i := 27) (oi := { dst := some 125, op := Op.fieldAddr 30 (Operand.tmp 124) 1, type := 0, pos := "law.go:67", after := #[{ on := 26, ground := Ground.data }, { on := 19, ground := Ground.guard }], guard := some (19, false) }) (v := ?_) rfl (by kernel_rfl) (by kernel_rfl) (by kernel_rfl) (fun _ _ _ h => h) (Or.inl ⟨by rfl, ?_⟩) (by assumption) ?_
            rotate_left
            · intro w hSw
              try dsimp only at hSw
              go_simp
              try with_reducible rfl
            try simp only [Act.put, List.setIfInBounds_toArray, List.set_cons_zero, List.set_cons_succ]
            refine wpAnyH_take (i := 28) (oi := { dst := some 126, op := Op.load 9 (Operand.tmp 125), type := 9, pos := "law.go:67", after := #[{ on := 27, ground := Ground.data }, { on := 19, ground := Ground.guard }], guard := some (19, false) }) (v := ?_) rfl (by kernel_rfl) (by kernel_rfl) (by kernel_rfl) (fun _ _ _ h => h) (Or.inl ⟨by rfl, ?_⟩) (by assumption) ?_
            rotate_left
            · intro w hSw
              try dsimp only at hSw
              obtain ⟨y0, y1, y2, y3, y4, y5, y6⟩ := HYd.out _ hSw
              go_simp
              try with_reducible rfl
            try simp only [Act.put, List.setIfInBounds_toArray, List.set_cons_zero, List.set_cons_succ]
            refine wpAnyH_take (i := 29) (oi := { dst := some 127, op := Op.binOp BinOp.neq 9 (Operand.tmp 121) (Operand.tmp 126) 9, type := 4, pos := "law.go:67", after := #[{ on := 23, ground := Ground.data }, { on := 28, ground := Ground.data }, { on := 19, ground := Ground.guard }], guard := some (19, false) }) (v := ?_) rfl (by kernel_rfl) (by kernel_rfl) (by kernel_rfl) (fun _ _ _ h => h) (Or.inl ⟨by rfl, ?_⟩) (by assumption) ?_
            rotate_left
            · intro w hSw
              try dsimp only at hSw
              go_simp
              try with_reducible rfl
            try simp only [Act.put, List.setIfInBounds_toArray, List.set_cons_zero, List.set_cons_succ]
            refine wpAnyH_take (i := 30) (oi := { dst := some 128, op := Op.pick (Operand.tmp 117) (Operand.const (Value.bool true)) (Operand.tmp 127), type := 4, pos := "law.go:67", after := #[{ on := 19, ground := Ground.data }, { on := 29, ground := Ground.data }], guard := none }) (v := ?_) rfl (by kernel_rfl) (by kernel_rfl) (by kernel_rfl) (fun _ _ _ h => h) (Or.inl ⟨by rfl, ?_⟩) (by assumption) ?_
            rotate_left
            · intro w hSw
              try dsimp only at hSw
              go_simp
              try with_reducible rfl
            try simp only [Act.put, List.setIfInBounds_toArray, List.set_cons_zero, List.set_cons_succ]
            refine wpAnyH_take (i := 31) (oi := { dst := some 129, op := Op.move (Operand.tmp 128), type := 4, pos := "law.go:67", after := #[{ on := 30, ground := Ground.data }, { on := 19, ground := Ground.chain }], guard := none }) (v := ?_) rfl (by kernel_rfl) (by kernel_rfl) (by kernel_rfl) (fun _ _ _ h => h) (Or.inl ⟨by rfl, ?_⟩) (by assumption) ?_
            rotate_left
            · intro w hSw
              try dsimp only at hSw
              go_simp
              try with_reducible rfl
            try simp only [Act.put, List.setIfInBounds_toArray, List.set_cons_zero, List.set_cons_succ]
            refine wpAnyH_take (i := 32) (oi := { dst := some 130, op := Op.move (Operand.tmp 10), type := 23, pos := "law.go:67", after := #[{ on := 31, ground := Ground.guard }], guard := some (31, false) }) (v := ?_) rfl (by kernel_rfl) (by kernel_rfl) (by kernel_rfl) (fun _ _ _ h => h) (Or.inl ⟨by rfl, ?_⟩) (by assumption) ?_
            rotate_left
            · intro w hSw
              try dsimp only at hSw
              go_simp
              try with_reducible rfl
            try simp only [Act.put, List.setIfInBounds_toArray, List.set_cons_zero, List.set_cons_succ]
            refine wpAnyH_take (i := 33) (oi := { dst := some 131, op := Op.indexAddr 23 (Operand.tmp 130) (Operand.const (Value.int IntKind.i64 0)), type := 0, pos := "law.go:67", after := #[{ on := 32, ground := Ground.data }, { on := 31, ground := Ground.guard }], guard := some (31, false) }) (v := ?_) rfl (by kernel_rfl) (by kernel_rfl) (by kernel_rfl) (fun _ _ _ h => h) (Or.inl ⟨by rfl, ?_⟩) (by assumption) ?_
            rotate_left
            · intro w hSw
              try dsimp only at hSw
              go_simp
              try with_reducible rfl
            try simp only [Act.put, List.setIfInBounds_toArray, List.set_cons_zero, List.set_cons_succ]
            refine wpAnyH_take (i := 34) (oi := { dst := some 132, op := Op.fieldAddr 30 (Operand.tmp 131) 2, type := 0, pos := "law.go:67", after := #[{ on := 33, ground := Ground.data }, { on := 31, ground := Ground.guard }], guard := some (31, false) }) (v := ?_) rfl (by kernel_rfl) (by kernel_rfl) (by kernel_rfl) (fun _ _ _ h => h) (Or.inl ⟨by rfl, ?_⟩) (by assumption) ?_
            rotate_left
            · intro w hSw
              try dsimp only at hSw
              go_simp
              try with_reducible rfl
            try simp only [Act.put, List.setIfInBounds_toArray, List.set_cons_zero, List.set_cons_succ]
            refine wpAnyH_take (i := 35) (oi := { dst := some 133, op := Op.load 28 (Operand.tmp 132), type := 28, pos := "law.go:67", after := #[{ on := 34, ground := Ground.data }, { on := 31, ground := Ground.guard }], guard := some (31, false) }) (v := ?_) rfl (by kernel_rfl) (by kernel_rfl) (by kernel_rfl) (fun _ _ _ h => h) (Or.inl ⟨by rfl, ?_⟩) (by assumption) ?_
            rotate_left
            · intro w hSw
              try dsimp only at hSw
              obtain ⟨m0, m1, m2, m3, m4, m5, m6⟩ := HMd.out _ hSw
              go_simp
              try with_reducible rfl
            try simp only [Act.put, List.setIfInBounds_toArray, List.set_cons_zero, List.set_cons_succ]
            refine wpAnyH_take (i := 36) (oi := { dst := some 134, op := Op.move (Operand.tmp 4), type := 23, pos := "law.go:67", after := #[{ on := 31, ground := Ground.guard }], guard := some (31, false) }) (v := ?_) rfl (by kernel_rfl) (by kernel_rfl) (by kernel_rfl) (fun _ _ _ h => h) (Or.inl ⟨by rfl, ?_⟩) (by assumption) ?_
            rotate_left
            · intro w hSw
              try dsimp only at hSw
              go_simp
              try with_reducible rfl
            try simp only [Act.put, List.setIfInBounds_toArray, List.set_cons_zero, List.set_cons_succ]
            refine wpAnyH_take (i := 37) (oi := { dst := some 135, op := Op.move (Operand.tmp 7), type := 3, pos := "law.go:67", after := #[{ on := 31, ground := Ground.guard }], guard := some (31, false) }) (v := ?_) rfl (by kernel_rfl) (by kernel_rfl) (by kernel_rfl) (fun _ _ _ h => h) (Or.inl ⟨by rfl, ?_⟩) (by assumption) ?_
            rotate_left
            · intro w hSw
              try dsimp only at hSw
              go_simp
              try with_reducible rfl
            try simp only [Act.put, List.setIfInBounds_toArray, List.set_cons_zero, List.set_cons_succ]
            refine wpAnyH_take (i := 38) (oi := { dst := some 136, op := Op.indexAddr 23 (Operand.tmp 134) (Operand.tmp 135), type := 0, pos := "law.go:67", after := #[{ on := 36, ground := Ground.data }, { on := 37, ground := Ground.data }, { on := 31, ground := Ground.guard }], guard := some (31, false) }) (v := ?_) rfl (by kernel_rfl) (by kernel_rfl) (by kernel_rfl) (fun _ _ _ h => h) (Or.inl ⟨by rfl, ?_⟩) (by assumption) ?_
            rotate_left
            · intro w hSw
              try dsimp only at hSw
              go_simp
              try with_reducible rfl
            try simp only [Act.put, List.setIfInBounds_toArray, List.set_cons_zero, List.set_cons_succ]
            refine wpAnyH_take (i := 39) (oi := { dst := some 137, op := Op.fieldAddr 30 (Operand.tmp 136) 2, type := 0, pos := "law.go:67", after := #[{ on := 38, ground := Ground.data }, { on := 31, ground := Ground.guard }], guard := some (31, false) }) (v := ?_) rfl (by kernel_rfl) (by kernel_rfl) (by kernel_rfl) (fun _ _ _ h => h) (Or.inl ⟨by rfl, ?_⟩) (by assumption) ?_
            rotate_left
            · intro w hSw
              try dsimp only at hSw
              go_simp
              try with_reducible rfl
            try simp only [Act.put, List.setIfInBounds_toArray, List.set_cons_zero, List.set_cons_succ]
            refine wpAnyH_take (i := 40) (oi := { dst := some 138, op := Op.load 28 (Operand.tmp 137), type := 28, pos := "law.go:67", after := #[{ on := 39, ground := Ground.data }, { on := 31, ground := Ground.guard }], guard := some (31, false) }) (v := ?_) rfl (by kernel_rfl) (by kernel_rfl) (by kernel_rfl) (fun _ _ _ h => h) (Or.inl ⟨by rfl, ?_⟩) (by assumption) ?_
            rotate_left
            · intro w hSw
              try dsimp only at hSw
              obtain ⟨y0, y1, y2, y3, y4, y5, y6⟩ := HYd.out _ hSw
              go_simp
              try with_reducible rfl
            try simp only [Act.put, List.setIfInBounds_toArray, List.set_cons_zero, List.set_cons_succ]
            refine wpAnyH_take (i := 41) (oi := { dst := some 139, op := Op.binOp BinOp.neq 28 (Operand.tmp 133) (Operand.tmp 138) 28, type := 4, pos := "law.go:67", after := #[{ on := 35, ground := Ground.data }, { on := 40, ground := Ground.data }, { on := 31, ground := Ground.guard }], guard := some (31, false) }) (v := ?_) rfl (by kernel_rfl) (by kernel_rfl) (by kernel_rfl) (fun _ _ _ h => h) (Or.inl ⟨by rfl, ?_⟩) (by assumption) ?_
            rotate_left
            · intro w hSw
              try dsimp only at hSw
              go_simp
              try with_reducible rfl
            try simp only [Act.put, List.setIfInBounds_toArray, List.set_cons_zero, List.set_cons_succ]
            refine wpAnyH_take (i := 42) (oi := { dst := some 140, op := Op.pick (Operand.tmp 129) (Operand.const (Value.bool true)) (Operand.tmp 139), type := 4, pos := "law.go:67", after := #[{ on := 31, ground := Ground.data }, { on := 41, ground := Ground.data }], guard := none }) (v := ?_) rfl (by kernel_rfl) (by kernel_rfl) (by kernel_rfl) (fun _ _ _ h => h) (Or.inl ⟨by rfl, ?_⟩) (by assumption) ?_
            rotate_left
            · intro w hSw
              try dsimp only at hSw
              go_simp
              try with_reducible rfl
            try simp only [Act.put, List.setIfInBounds_toArray, List.set_cons_zero, List.set_cons_succ]
            refine wpAnyH_take (i := 43) (oi := { dst := some 141, op := Op.move (Operand.tmp 140), type := 4, pos := "law.go:67", after := #[{ on := 42, ground := Ground.data }, { on := 31, ground := Ground.chain }], guard := none }) (v := ?_) rfl (by kernel_rfl) (by kernel_rfl) (by kernel_rfl) (fun _ _ _ h => h) (Or.inl ⟨by rfl, ?_⟩) (by assumption) ?_
            rotate_left
            · intro w hSw
              try dsimp only at hSw
              go_simp
              try with_reducible rfl
            try simp only [Act.put, List.setIfInBounds_toArray, List.set_cons_zero, List.set_cons_succ]
            refine wpAnyH_take (i := 44) (oi := { dst := some 142, op := Op.move (Operand.tmp 4), type := 23, pos := "law.go:67", after := #[{ on := 43, ground := Ground.guard }], guard := some (43, false) }) (v := ?_) rfl (by kernel_rfl) (by kernel_rfl) (by kernel_rfl) (fun _ _ _ h => h) (Or.inl ⟨by rfl, ?_⟩) (by assumption) ?_
            rotate_left
            · intro w hSw
              try dsimp only at hSw
              go_simp
              try with_reducible rfl
            try simp only [Act.put, List.setIfInBounds_toArray, List.set_cons_zero, List.set_cons_succ]
            refine wpAnyH_take (i := 45) (oi := { dst := some 143, op := Op.move (Operand.tmp 7), type := 3, pos := "law.go:67", after := #[{ on := 43, ground := Ground.guard }], guard := some (43, false) }) (v := ?_) rfl (by kernel_rfl) (by kernel_rfl) (by kernel_rfl) (fun _ _ _ h => h) (Or.inl ⟨by rfl, ?_⟩) (by assumption) ?_
            rotate_left
            · intro w hSw
              try dsimp only at hSw
              go_simp
              try with_reducible rfl
            try simp only [Act.put, List.setIfInBounds_toArray, List.set_cons_zero, List.set_cons_succ]
            refine wpAnyH_take (i := 46) (oi := { dst := some 144, op := Op.indexAddr 23 (Operand.tmp 142) (Operand.tmp 143), type := 0, pos := "law.go:67", after := #[{ on := 44, ground := Ground.data }, { on := 45, ground := Ground.data }, { on := 43, ground := Ground.guard }], guard := some (43, false) }) (v := ?_) rfl (by kernel_rfl) (by kernel_rfl) (by kernel_rfl) (fun _ _ _ h => h) (Or.inl ⟨by rfl, ?_⟩) (by assumption) ?_
            rotate_left
            · intro w hSw
              try dsimp only at hSw
              go_simp
              try with_reducible rfl
            try simp only [Act.put, List.setIfInBounds_toArray, List.set_cons_zero, List.set_cons_succ]
            refine wpAnyH_take (i := 47) (oi := { dst := some 145, op := Op.fieldAddr 30 (Operand.tmp 144) 4, type := 0, pos := "law.go:67", after := #[{ on := 46, ground := Ground.data }, { on := 43, ground := Ground.guard }], guard := some (43, false) }) (v := ?_) rfl (by kernel_rfl) (by kernel_rfl) (by kernel_rfl) (fun _ _ _ h => h) (Or.inl ⟨by rfl, ?_⟩) (by assumption) ?_
            rotate_left
            · intro w hSw
              try dsimp only at hSw
              go_simp
              try with_reducible rfl
            try simp only [Act.put, List.setIfInBounds_toArray, List.set_cons_zero, List.set_cons_succ]
            refine wpAnyH_take (i := 48) (oi := { dst := some 146, op := Op.load 3 (Operand.tmp 145), type := 3, pos := "law.go:67", after := #[{ on := 47, ground := Ground.data }, { on := 43, ground := Ground.guard }], guard := some (43, false) }) (v := ?_) rfl (by kernel_rfl) (by kernel_rfl) (by kernel_rfl) (fun _ _ _ h => h) (Or.inl ⟨by rfl, ?_⟩) (by assumption) ?_
            rotate_left
            · intro w hSw
              try dsimp only at hSw
              obtain ⟨y0, y1, y2, y3, y4, y5, y6⟩ := HYd.out _ hSw
              go_simp
              try with_reducible rfl
            try simp only [Act.put, List.setIfInBounds_toArray, List.set_cons_zero, List.set_cons_succ]
            refine wpAnyH_take (i := 49) (oi := { dst := some 147, op := Op.move (Operand.tmp 4), type := 23, pos := "law.go:67", after := #[{ on := 43, ground := Ground.guard }], guard := some (43, false) }) (v := ?_) rfl (by kernel_rfl) (by kernel_rfl) (by kernel_rfl) (fun _ _ _ h => h) (Or.inl ⟨by rfl, ?_⟩) (by assumption) ?_
            rotate_left
            · intro w hSw
              try dsimp only at hSw
              go_simp
              try with_reducible rfl
            try simp only [Act.put, List.setIfInBounds_toArray, List.set_cons_zero, List.set_cons_succ]
            refine wpAnyH_take (i := 50) (oi := { dst := some 148, op := Op.move (Operand.tmp 7), type := 3, pos := "law.go:67", after := #[{ on := 43, ground := Ground.guard }], guard := some (43, false) }) (v := ?_) rfl (by kernel_rfl) (by kernel_rfl) (by kernel_rfl) (fun _ _ _ h => h) (Or.inl ⟨by rfl, ?_⟩) (by assumption) ?_
            rotate_left
            · intro w hSw
              try dsimp only at hSw
              go_simp
              try with_reducible rfl
            try simp only [Act.put, List.setIfInBounds_toArray, List.set_cons_zero, List.set_cons_succ]
            refine wpAnyH_take (i := 51) (oi := { dst := some 149, op := Op.indexAddr 23 (Operand.tmp 147) (Operand.tmp 148), type := 0, pos := "law.go:67", after := #[{ on := 49, ground := Ground.data }, { on := 50, ground := Ground.data }, { on := 43, ground := Ground.guard }], guard := some (43, false) }) (v := ?_) rfl (by kernel_rfl) (by kernel_rfl) (by kernel_rfl) (fun _ _ _ h => h) (Or.inl ⟨by rfl, ?_⟩) (by assumption) ?_
            rotate_left
            · intro w hSw
              try dsimp only at hSw
              go_simp
              try with_reducible rfl
            try simp only [Act.put, List.setIfInBounds_toArray, List.set_cons_zero, List.set_cons_succ]
            refine wpAnyH_take (i := 52) (oi := { dst := some 150, op := Op.fieldAddr 30 (Operand.tmp 149) 3, type := 0, pos := "law.go:67", after := #[{ on := 51, ground := Ground.data }, { on := 43, ground := Ground.guard }], guard := some (43, false) }) (v := ?_) rfl (by kernel_rfl) (by kernel_rfl) (by kernel_rfl) (fun _ _ _ h => h) (Or.inl ⟨by rfl, ?_⟩) (by assumption) ?_
            rotate_left
            · intro w hSw
              try dsimp only at hSw
              go_simp
              try with_reducible rfl
            try simp only [Act.put, List.setIfInBounds_toArray, List.set_cons_zero, List.set_cons_succ]
            refine wpAnyH_take (i := 53) (oi := { dst := some 151, op := Op.load 3 (Operand.tmp 150), type := 3, pos := "law.go:67", after := #[{ on := 52, ground := Ground.data }, { on := 43, ground := Ground.guard }], guard := some (43, false) }) (v := ?_) rfl (by kernel_rfl) (by kernel_rfl) (by kernel_rfl) (fun _ _ _ h => h) (Or.inl ⟨by rfl, ?_⟩) (by assumption) ?_
            rotate_left
            · intro w hSw
              try dsimp only at hSw
              obtain ⟨y0, y1, y2, y3, y4, y5, y6⟩ := HYd.out _ hSw
              go_simp
              try with_reducible rfl
            try simp only [Act.put, List.setIfInBounds_toArray, List.set_cons_zero, List.set_cons_succ]
            refine wpAnyH_take (i := 54) (oi := { dst := some 152, op := Op.binOp BinOp.leq 3 (Operand.tmp 146) (Operand.tmp 151) 3, type := 4, pos := "law.go:67", after := #[{ on := 48, ground := Ground.data }, { on := 53, ground := Ground.data }, { on := 43, ground := Ground.guard }], guard := some (43, false) }) (v := ?_) rfl (by kernel_rfl) (by kernel_rfl) (by kernel_rfl) (fun _ _ _ h => h) (Or.inl ⟨by rfl, ?_⟩) (by assumption) ?_
            rotate_left
            · intro w hSw
              try dsimp only at hSw
              go_simp
              try with_reducible rfl
            try simp only [Act.put, List.setIfInBounds_toArray, List.set_cons_zero, List.set_cons_succ]
            refine wpAnyH_take (i := 55) (oi := { dst := some 153, op := Op.pick (Operand.tmp 141) (Operand.const (Value.bool true)) (Operand.tmp 152), type := 4, pos := "law.go:67", after := #[{ on := 43, ground := Ground.data }, { on := 54, ground := Ground.data }], guard := none }) (v := ?_) rfl (by kernel_rfl) (by kernel_rfl) (by kernel_rfl) (fun _ _ _ h => h) (Or.inl ⟨by rfl, ?_⟩) (by assumption) ?_
            rotate_left
            · intro w hSw
              try dsimp only at hSw
              go_simp
              try with_reducible rfl
            try simp only [Act.put, List.setIfInBounds_toArray, List.set_cons_zero, List.set_cons_succ]
            refine wpAnyH_done (by kernel_rfl) ?_ _
            obtain ⟨y0, y1, y2, y3, y4, y5, y6⟩ := HYd.out _ (Below.refl _ _)
            clear HYd HMd hT y0 y1 y2 y3 y4 y5
            go_wp2_with fail
            go_roundw
            case rel => exact ⟨i + 1, g, by omega, by go_num, rfl, HCh2, HId.out.1, HId.out.2⟩
            case measure => simp [intOf]; omega
      · by_cases hie : i = l.length
        · subst hie
          have dle : decide ((l.length : Int) ≤ (l.length : Int)) = true := decide_eq_true (by omega)
          have hcc := hC.out (Nat.le_refl _)
          rw [List.drop_length] at hcc
          obtain ⟨hto, hwh⟩ := lies_last hcc
          have HWh := Lib.hid hwh
          have dto : decide ((s.size : Int) < (k : Int)) = false := decide_eq_false (by omega)
          have dil : decide ((l.length : Int) < (l.length : Int)) = false := decide_eq_false (by omega)
          have HBe := Lib.hid hb
          clear hC hcc hwh hr hb hil
          go_upto_region 17 with fail
          go_loopw [9] (fun v wq => ∃ j : Nat, k ≤ j ∧ j ≤ s.size ∧ v = .int .i64 j ∧ wq = wr) (fun v _ => s.size - (intOf v).toNat)
          case atStart => exact ⟨k, Nat.le_refl _, hto, rfl, rfl⟩
          case round =>
            obtain ⟨j, hj1, hj2, rfl, rfl⟩ := hrel
            by_cases hjl : j < s.size
            · have hjs : j < s.size := by omega
              have hat := byte_at s j hjs
              have hwh := HWh.out j hj1 hjl
              rw [← hat] at hwh
              have hc : ((s[j].toNat : Nat) : Int) = 32 ∨ ((s[j].toNat : Nat) : Int) = 9 ∨ ((s[j].toNat : Nat) : Int) = 10 ∨ ((s[j].toNat : Nat) : Int) = 13 := by
                unfold isWh at hwh
                simpa [or_assoc] using hwh
              clear hat hwh
              rcases hc with hc | hc | hc | hc
              all_goals
                go_wp2_with fail
                go_roundw
              all_goals first
                | (exact ⟨j + 1, by omega, by omega, by go_num, trivial⟩)
                | (simp [intOf]; omega)
            · have hje : s.size = j := by omega
              subst hje
              go_wp2_with fail
              go_ret
              exact ⟨rfl, HBe.out⟩
        · have dle : decide ((i : Int) ≤ (l.length : Int)) = false := decide_eq_false (by omega)
          have HBe := Lib.hid hb
          clear hC hr hb
          go_wp2_with fail
          go_ret
          exact ⟨rfl, HBe.out⟩
  · have de : (er != 0) = true := bne_iff_ne.2 he
    have hl0 := HE.out he
    have hl0' : (((l.length : Nat) : Int) == 0) = true := beq_iff_eq.2 (by omega)
    clear hl0 HCh
    go_wp2_with fail
    go_ret
    exact ⟨rfl, HB2.out⟩
theorem lies_any (w : World) (s : ByteArray) (ss : s.size ≤ 140737488351232) (hF : utf.Forms w) (mx : Int) (hm : w.cell? ⟨1, 0, none⟩ = some (.int .i64 mx)) :
    Calls Tryd.prog 3 #[.string s] w fun e w' => e = .returned (.bool true) ∧ Below w.heap.size w w' := by
  by_cases h : 1000 < s.size
  · exact lies_great w s ss h hF mx hm
  · exact lies_small w s h hF mx hm
end Go.Proofs.YtkifndecpbphbaaDoor.dk
