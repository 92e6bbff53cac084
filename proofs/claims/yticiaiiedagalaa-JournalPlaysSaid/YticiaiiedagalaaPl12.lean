/- gather: the records that lie one behind the other. -/
import Derived.Test.YticiaiiedagalaaPl11
import Derived.Deep.DeepCutAuto
import Derived.Deep.CutBlock
namespace Go.Proofs.Yticiaiiedagalaa.dk
open Go.PlainAid Go.ChangeShapes Go.WideShapes Go.ChangeAt Go.RowKit

def gathF (F : Nat → Option (List Int)) (n : Nat) : Nat → Nat → Int → Option (List Int) → List (List Int) → Nat × Int × List (List Int)
  | 0, pl, num, _, out => (pl, num, out)
  | f + 1, pl, num, last, out =>
    if pl < n then
      if wholeF (fun i => F (pl + i)) (n - pl) = 0 then (pl, num, out) else
      if stopAt last num ((F pl).getD []) = true then (pl, num, out) else
      gathF F n f (pl + wholeF (fun i => F (pl + i)) (n - pl)) ((fN ((F pl).getD []) + 1) % 4294967296) (F pl) (out ++ [joinF (fun i => F (pl + i)) (wholeF (fun i => F (pl + i)) (n - pl))])
    else (pl, num, out)
theorem wholeF_head {F : Nat → Option (List Int)} {k : Nat} (h : wholeF F k ≠ 0) : ∃ p, F 0 = some p := by
  obtain ⟨p, hp⟩ := wholeOf_some h
  rw [lget] at hp
  split at hp
  · exact ⟨p, hp⟩
  · cases hp
theorem wholeF_all {F : Nat → Option (List Int)} {k : Nat} (i : Nat) (hi : i < wholeF F k) : ∃ q, F i = some q := by
  obtain ⟨p, hp⟩ := wholeOf_all i hi
  rw [lget] at hp
  split at hp
  · exact ⟨p, hp⟩
  · cases hp
theorem PcAt.keep {B b n : Nat} {F : Nat → Option (List Int)} {gs : Nat → Nat} {W W' : World} (h : PcAt B b n F gs W) (hb : ∀ (k : Nat) (cur : Array Value) (t : TypeId), W.heap[k]? = some (.cells cur t (0, 0)) → (t = 74 ∨ t = 5) → W'.heap[k]? = W.heap[k]?) : PcAt B b n F gs W' :=
  ⟨h.bB, (hb _ _ _ h.row (.inl rfl)).trans h.row, fun i hi l e => ⟨(hb _ _ _ (h.el i hi l e).1 (.inr rfl)).trans (h.el i hi l e).1, (h.el i hi l e).2⟩⟩
def GathPost (w : World) (A : Nat) (g : Lg) (r : Nat × Int × List (List Int)) (e : Ending) (w' : World) : Prop := ∃ p cc vs, e = .returned (.slice p r.2.2.length cc) ∧ RecAt w.heap.size (.slice p r.2.2.length cc) r.2.2 vs w' ∧ LogAt A { g with place := r.1, num := r.2.1 } w' ∧ Bf A (· = A) w w'
theorem PcAt.bf {B b n A : Nat} {F : Nat → Option (List Int)} {gs : Nat → Nat} {g : Lg} {w wr : World} (h : PcAt B b n F gs w) (hg : LogAt A g w) (hb : Bf A (· = A) w wr) : PcAt B b n F gs wr :=
  h.keep fun k cur t hk ht => hb.fr k (Array.getElem?_eq_some_iff.1 hk).1 (row_ne hk hg (by rcases ht with rfl | rfl <;> decide))
theorem RowB.bf {A x : Nat} {l : List Int} {g : Lg} {w wr : World} (h : RowB x l w) (hg : LogAt A g w) (hb : Bf A (· = A) w wr) : RowB x l wr :=
  (hb.fr x h.lt (row_ne h hg (by decide))).trans h
def lenOf : Value → Nat
  | .slice _ n _ => n
  | _ => 0
theorem same_of {f : FuncId} {args : Array Value} {w : World} {v : Value} (h : Calls Try.prog f args w fun e w' => e = .returned v ∧ w = w') : Calls Try.prog f args w fun e w' => e = .returned v ∧ w' = w := h.mono fun _ _ hh => ⟨hh.1, hh.2.symm⟩
set_option maxHeartbeats 4000000 in
set_option maxRecDepth 100000 in
theorem gather_any {B b n A : Nat} {F : Nat → Option (List Int)} {gs : Nat → Nat} {g : Lg} {w : World} (h : PcAt B b n F gs w) (hF : ∀ i l, F i = some l → l.length = 64 ∧ Bys l) (hP : ∀ i l, F i = some l → isP l = true) (hn : n ≤ 65536) (hg : LogAt A { g with place := 0 } w) :
    Calls Try.prog 40 #[.pointer (some ⟨A, 0, none⟩), .slice (some ⟨b, 0, none⟩) n n] w (GathPost w A g (gathF F n n 0 ((gr2 fN F n + 1) % 4294967296) none [])) := by
  have HGr := Lib.hid (greatest_number h hF hn)
  have hgb := gr2_bd fN F fN_bd n
  have f4 := hg.frozen 4
  have c4 := hg.cell 4
  simp only [lgcells] at c4
  simp at c4
  have HT := Lib.hid (hg.turn (g' := { g with place := 0, num := (gr2 fN F n + 1) % 4294967296 }) 4 (.int .u32 ((gr2 fN F n + 1) % 4294967296)) rfl (Nat.le_refl _) (Below.refl A w))
  have HP := Lib.hid h
  have HF := Lib.hid hF
  have HIP := Lib.hid hP
  have HG := Lib.hid hg
  clear h hF hP hg
  generalize gr2 fN F n = x at HGr hgb HT ⊢
  obtain ⟨num0, hnm⟩ : ∃ y, y = (x + 1) % 4294967296 := ⟨_, rfl⟩
  rw [← hnm]
  have HNm := Lib.hid hnm
  clear hnm
  go_enter Try.func40, Try.ntmps40
  go_wp2_with fail
  with_reducible refine HGr.out.mono ?_
  rintro e w' ⟨rfl, rfl⟩
  go_wp2_with fail
  have HX := Lib.hid (show LogAt A { g with place := 0, num := (x + 1) % 4294967296 } _ ∧ Bf A (· = A) w _ from ⟨HT.out.1, Bf.one HT.out.2.1 HT.out.2.2 rfl⟩)
  clear HT c4 f4
  generalize World.setCell _ _ _ = w1 at HX ⊢
  have hnum : 0 ≤ num0 ∧ num0 ≤ 4294967295 := by rw [HNm.out]; omega
  rw [← HNm.out] at HX ⊢
  go_loopw [5, 6] (fun v5 v6 wr => ∃ (f pl : Nat) (num : Int) (last : Option (List Int)) (lg : Nat) (out : List (List Int)) (p : Option Addr) (cc : Nat) (vs : List Value), v5 = .slice p out.length cc ∧ v6 = pv last lg ∧ pl ≤ n ∧ out.length ≤ pl ∧ 0 ≤ num ∧ num ≤ 4294967295 ∧ n ≤ f + pl ∧
      Hid (gathF F n n 0 num0 none [] = gathF F n f pl num last out) ∧ Hid (∀ q, last = some q → RowB lg q w ∧ q.length = 64 ∧ Bys q) ∧ Hid (RecAt w.heap.size (.slice p out.length cc) out vs wr) ∧ Hid (LogAt A { g with place := pl, num := num } wr) ∧ Hid (Bf A (· = A) w wr)) (fun v5 _ _ => n - lenOf v5)
  case atStart => exact ⟨n, 0, num0, none, 0, [], none, 0, [], rfl, rfl, Nat.zero_le _, Nat.zero_le _, hnum.1, hnum.2, Nat.le_refl _, rfl, (fun q hq => by cases hq), ⟨World.ownsRow_nil _ _ _ _, fun i hi => absurd hi (by simp)⟩, HX.out.1, HX.out.2⟩
  case round =>
    clear HX hnum
    obtain ⟨f, pl, num, last, lg, out, p, cc, vs, rfl, rfl, hpl, hol, hn0, hn1, hf, HE, HL, HR, HGr2, HB⟩ := hrel
    have c3 := HGr2.out.cell 3
    simp only [lgcells] at c3
    simp at c3
    by_cases hpn : pl < n
    · have dj : decide ((pl : Int) < (n : Int)) = true := decide_eq_true (by omega)
      obtain ⟨f, rfl⟩ : ∃ f', f = f' + 1 := ⟨f - 1, by omega⟩
      have hPr := HP.out.bf HG.out HB.out
      have HWh := Lib.hid (whole_any hPr HF.out pl (n - pl) (by omega) (by omega) hn)
      have hEq : gathF F n (f + 1) pl num last out = _ := gathF.eq_2 F n pl num last out f
      rw [if_pos hpn] at hEq
      have HEq := Lib.hid hEq
      have hwl := wholeF_le (fun i => F (pl + i)) (n - pl)
      have HHd : Hid (wholeF (fun i => F (pl + i)) (n - pl) ≠ 0 → ∃ q, F pl = some q) := fun h => wholeF_head h
      have HAll : Hid (∀ i, i < wholeF (fun i => F (pl + i)) (n - pl) → ∃ q, F (pl + i) = some q) := fun i hi => wholeF_all i hi
      generalize wholeF (fun i => F (pl + i)) (n - pl) = c at HWh HEq hwl HHd HAll
      clear hPr hEq
      go_wp2_with fail
      with_reducible refine HWh.out.mono ?_
      clear HWh
      rintro e w2 ⟨rfl, hb2⟩
      have HB2 := Lib.hid hb2
      clear hb2
      by_cases hc0 : c = 0
      · subst hc0
        have e2 : Hid (gathF F n n 0 num0 none [] = (pl, num, out)) := HE.out.trans (HEq.out.trans (if_pos rfl))
        go_wp2_with fail
        go_ret
        rw [e2.out]
        exact ⟨p, cc, vs, rfl, HR.out.below HB2.out, HGr2.out.below HB2.out, HB.out.trans (Bf.new HB2.out (Nat.le_trans (Nat.le_of_lt HG.out.lt) HB.out.below.size))⟩
      · have dc : ((c : Int) == 0) = false := beq_eq_false_iff_ne.2 (by omega)
        obtain ⟨q0, hq0⟩ := HHd.out hc0
        have hP2 := (HP.out.bf HG.out HB.out).below HB2.out
        have c0 := hP2.cell pl (by omega)
        rw [hq0] at c0
        unfold pv at c0
        have c3' := (HGr2.out.below HB2.out).cell 3
        simp only [lgcells] at c3'
        simp at c3'
        have HQ0 := Lib.hid hq0
        clear hq0 hP2
        go_wp2_with fail
        have hq0 := HF.out pl q0 HQ0.out
        have hr0 := (((HP.out.bf HG.out HB.out).below HB2.out).el pl (by omega) q0 HQ0.out).1.rd hq0.1
        have hlt3 : A < wr.heap.size := HGr2.out.lt
        have hs2 := HB2.out.size
        go_cut [55] (fun v wx => v = .bool (stopAt last num q0) ∧ Hid (Below w2.heap.size w2 wx))
        case first =>
          clear c0 c3 c3'
          have c4 := (HGr2.out.below HB2.out).cell 4
          simp only [lgcells] at c4
          simp at c4
          have CN : ∀ y, Calls Try.prog 53 #[.slice (some ⟨gs pl, 0, none⟩) 64 64] (w2.drewN y) fun e w' => e = .returned (.int .u32 (fN q0)) ∧ w' = w2.drewN y := fun y => same_of (number_any _ _ q0 (hr0.below (below_drewN (Below.refl _ _) y)) hq0.2)
          have CS : ∀ y, Calls Try.prog 39 #[.slice (some ⟨gs pl, 0, none⟩) 64 64] (w2.drewN y) fun e w' => e = .returned (.int .u32 (fS q0)) ∧ w' = w2.drewN y := fun y => same_of (session_any _ _ q0 (hr0.below (below_drewN (Below.refl _ _) y)) hq0.2)
          have HCN := Lib.hid CN
          have HCS := Lib.hid CS
          clear CN CS
          cases last with
          | none =>
            simp only [pv]
            have es : Hid (stopAt none num q0 = false) := rfl
            go_quiet (fail)
            go_wp2
            go_meet
            exact ⟨by rw [es.out], below_drewN (Below.refl _ _) _⟩
          | some ql =>
            simp only [pv]
            obtain ⟨hl1, hl2, hl3⟩ := HL.out ql rfl
            have hrl := (((hl1.bf HG.out HB.out).below HB2.out)).rd hl2
            have CL : ∀ y, Calls Try.prog 39 #[.slice (some ⟨lg, 0, none⟩) 64 64] (w2.drewN y) fun e w' => e = .returned (.int .u32 (fS ql)) ∧ w' = w2.drewN y := fun y => same_of (session_any _ _ ql (hrl.below (below_drewN (Below.refl _ _) y)) hl3)
            have HCL := Lib.hid CL
            have es : Hid (stopAt (some ql) num q0 = (decide (fN q0 ≠ num) || decide (fS q0 < fS ql))) := rfl
            clear CL hl1 hl2 hl3 hrl
            by_cases hN : fN q0 = num
            · have HCN2 := HCN.out
              rw [hN] at HCN2
              have HCN3 := Lib.hid HCN2
              have eb : Hid (stopAt (some ql) num q0 = decide (fS q0 < fS ql)) := by
                show stopAt (some ql) num q0 = _
                rw [es.out, hN]; simp
              clear hN HCN2 es
              by_cases hS : fS q0 < fS ql
              · have ds : decide (fS q0 < fS ql) = true := decide_eq_true hS
                have eb2 : Hid (stopAt (some ql) num q0 = true) := eb.out.trans ds
                generalize fS q0 = x1 at HCS ds hS
                generalize fS ql = x2 at HCL ds hS
                go_quiet ((first
                  | (go_at_call_of 53 (Value.slice (some ⟨gs pl, 0, none⟩) 64 64); exact Calls.quiet_of_same (HCN3.out _))
                  | (go_at_call_of 39 (Value.slice (some ⟨gs pl, 0, none⟩) 64 64); exact Calls.quiet_of_same (HCS.out _))
                  | (go_at_call_of 39 (Value.slice (some ⟨lg, 0, none⟩) 64 64); exact Calls.quiet_of_same (HCL.out _))))
                go_wp2
                go_meet
                exact ⟨by rw [eb2.out], below_drewN (Below.refl _ _) _⟩
              · have ds : decide (fS q0 < fS ql) = false := decide_eq_false hS
                have eb2 : Hid (stopAt (some ql) num q0 = false) := eb.out.trans ds
                generalize fS q0 = x1 at HCS ds hS
                generalize fS ql = x2 at HCL ds hS
                go_quiet ((first
                  | (go_at_call_of 53 (Value.slice (some ⟨gs pl, 0, none⟩) 64 64); exact Calls.quiet_of_same (HCN3.out _))
                  | (go_at_call_of 39 (Value.slice (some ⟨gs pl, 0, none⟩) 64 64); exact Calls.quiet_of_same (HCS.out _))
                  | (go_at_call_of 39 (Value.slice (some ⟨lg, 0, none⟩) 64 64); exact Calls.quiet_of_same (HCL.out _))))
                go_wp2
                go_meet
                exact ⟨by rw [eb2.out], below_drewN (Below.refl _ _) _⟩
            · have dn : (fN q0 != num) = true := by simpa using hN
              have eb2 : Hid (stopAt (some ql) num q0 = true) := by
                show stopAt (some ql) num q0 = _
                rw [es.out]; simp [hN]
              generalize fN q0 = x1 at HCN dn hN
              clear es
              go_quiet ((first
                  | (go_at_call_of 53 (Value.slice (some ⟨gs pl, 0, none⟩) 64 64); exact Calls.quiet_of_same (HCN.out _))))
              go_wp2
              go_meet
              exact ⟨by rw [eb2.out], below_drewN (Below.refl _ _) _⟩
        case rest =>
          obtain ⟨rfl, hbc⟩ := hcut
          have HBc := Lib.hid hbc
          clear hbc
          have hbc := HBc.out
          have HBc := Lib.hid hbc.out
          clear hbc
          have HRest := HEq.out
          rw [if_neg hc0, HQ0.out] at HRest
          have HEq2 := Lib.hid HRest
          clear HRest HEq c0 c3 c3' hr0
          by_cases hst : stopAt last num q0 = true
          · have e2 : Hid (gathF F n n 0 num0 none [] = (pl, num, out)) := HE.out.trans (HEq2.out.trans (if_pos hst))
            rw [hst]
            go_wp2_with fail
            go_ret
            rw [e2.out]
            have hbw := HB2.out.trans (HBc.out.mono hs2)
            exact ⟨p, cc, vs, rfl, HR.out.below hbw, HGr2.out.below hbw, HB.out.trans (Bf.new hbw (Nat.le_trans (Nat.le_of_lt HG.out.lt) HB.out.below.size))⟩
          · have hst' : stopAt last num q0 = false := by simpa using hst
            rw [hst']
            have e2 : Hid (gathF F n n 0 num0 none [] = gathF F n f (pl + c) ((fN q0 + 1) % 4294967296) (some q0) (out ++ [joinF (fun i => F (pl + i)) c])) := HE.out.trans (HEq2.out.trans (if_neg hst))
            clear hst hst' HEq2 HE
            have hbw := HB2.out.trans (HBc.out.mono hs2)
            have hbd : Below wc.heap.size wc wc.drew := (Below.refl _ _).drew
            have hbw2 : Below wr.heap.size wr wc.drew := hbw.trans (hbd.mono hbw.size)
            have hLc := HGr2.out.below hbw2
            have hPc := (HP.out.bf HG.out HB.out).below hbw2
            have HJ := Lib.hid (joined_any hPc HF.out HIP.out pl c (n - pl) (by omega) hn HAll.out)
            have hwS : w.heap.size ≤ wc.drew.heap.size := Nat.le_trans HB.out.below.size hbw2.size
            have HRc := Lib.hid (HR.out.below hbw2)
            have HLc := Lib.hid hLc
            have HBd := Lib.hid (HB.out.trans (Bf.new hbw2 (Nat.le_trans (Nat.le_of_lt HG.out.lt) HB.out.below.size)))
            have hT : (fun W : World => W.cell? ⟨A, 3, none⟩ = some (.int .i64 (pl : Int))) wc.drew := by
              have := hLc.cell 3
              simp only [lgcells] at this
              simpa using this
            have hcn : c ≤ 65536 := by omega
            obtain ⟨e9, he9⟩ : ∃ e, e = pl + c := ⟨_, rfl⟩
            have he1 : e9 ≤ n := by omega
            have he2 : pl ≤ e9 := by omega
            have he3 : e9 - pl = c := by omega
            have he4 : ¬ n = pl := by omega
            have ws : IntKind.i64.wrap ((pl : Int) + c) = (e9 : Int) := by rw [IntKind.wrap_i64]; omega
            have HE9 := Lib.hid he9
            clear he9
            clear hbw hbd hbw2 hLc hPc HR HGr2 HB2 HBc
            go_wp2_with fail
            refine wp_region_held_drew (S := (fun W : World => W.cell? ⟨A, 3, none⟩ = some (.int .i64 (pl : Int)))) (by kernel_rfl) hT (fun hHeld => ?_)
            clear hHeld
            refine wpAnyH_take (i := 0) (oi := { dst := some 56, op := Op.move (Operand.tmp 5), type := 33, pos := "journal.go:69", after := #[], guard := none }) (v := ?_) rfl (by kernel_rfl) (by kernel_rfl) (by kernel_rfl) (fun _ _ _ h => h) (Or.inl ⟨by rfl, ?_⟩) (by assumption) ?_
            rotate_left
            · intro w hSw
              try dsimp only at hSw
              go_simp
              try with_reducible rfl
            try simp only [Act.put, List.setIfInBounds_toArray, List.set_cons_zero, List.set_cons_succ]
            refine wpAnyH_take (i := 1) (oi := { dst := some 57, op := Op.move (Operand.tmp 1), type := 67, pos := "journal.go:69", after := #[], guard := none }) (v := ?_) rfl (by kernel_rfl) (by kernel_rfl) (by kernel_rfl) (fun _ _ _ h => h) (Or.inl ⟨by rfl, ?_⟩) (by assumption) ?_
            rotate_left
            · intro w hSw
              try dsimp only at hSw
              go_simp
              try with_reducible rfl
            try simp only [Act.put, List.setIfInBounds_toArray, List.set_cons_zero, List.set_cons_succ]
            refine wpAnyH_take (i := 2) (oi := { dst := some 58, op := Op.move (Operand.tmp 0), type := 32, pos := "journal.go:69", after := #[], guard := none }) (v := ?_) rfl (by kernel_rfl) (by kernel_rfl) (by kernel_rfl) (fun _ _ _ h => h) (Or.inl ⟨by rfl, ?_⟩) (by assumption) ?_
            rotate_left
            · intro w hSw
              try dsimp only at hSw
              go_simp
              try with_reducible rfl
            try simp only [Act.put, List.setIfInBounds_toArray, List.set_cons_zero, List.set_cons_succ]
            refine wpAnyH_take (i := 3) (oi := { dst := some 59, op := Op.nilCheck (Operand.tmp 58), type := 0, pos := "journal.go:69", after := #[{ on := 2, ground := Ground.data }], guard := none }) (v := ?_) rfl (by kernel_rfl) (by kernel_rfl) (by kernel_rfl) (fun _ _ _ h => h) (Or.inl ⟨by rfl, ?_⟩) (by assumption) ?_
            rotate_left
            · intro w hSw
              try dsimp only at hSw
              go_simp
              try with_reducible rfl
            try simp only [Act.put, List.setIfInBounds_toArray, List.set_cons_zero, List.set_cons_succ]
            refine wpAnyH_take (i := 4) (oi := { dst := some 60, op := Op.fieldAddr 76 (Operand.tmp 59) 3, type := 0, pos := "journal.go:69", after := #[{ on := 3, ground := Ground.data }], guard := none }) (v := ?_) rfl (by kernel_rfl) (by kernel_rfl) (by kernel_rfl) (fun _ _ _ h => h) (Or.inl ⟨by rfl, ?_⟩) (by assumption) ?_
            rotate_left
            · intro w hSw
              try dsimp only at hSw
              go_simp
              try with_reducible rfl
            try simp only [Act.put, List.setIfInBounds_toArray, List.set_cons_zero, List.set_cons_succ]
            refine wpAnyH_take (i := 5) (oi := { dst := some 61, op := Op.load 3 (Operand.tmp 60), type := 3, pos := "journal.go:69", after := #[{ on := 4, ground := Ground.data }], guard := none }) (v := ?_) rfl (by kernel_rfl) (by kernel_rfl) (by kernel_rfl) (fun _ _ _ h => h) (Or.inl ⟨by rfl, ?_⟩) (by assumption) ?_
            rotate_left
            · intro w hSw
              try dsimp only at hSw
              go_simp
              try with_reducible rfl
            try simp only [Act.put, List.setIfInBounds_toArray, List.set_cons_zero, List.set_cons_succ]
            refine wpAnyH_take (i := 6) (oi := { dst := some 62, op := Op.move (Operand.tmp 0), type := 32, pos := "journal.go:69", after := #[], guard := none }) (v := ?_) rfl (by kernel_rfl) (by kernel_rfl) (by kernel_rfl) (fun _ _ _ h => h) (Or.inl ⟨by rfl, ?_⟩) (by assumption) ?_
            rotate_left
            · intro w hSw
              try dsimp only at hSw
              go_simp
              try with_reducible rfl
            try simp only [Act.put, List.setIfInBounds_toArray, List.set_cons_zero, List.set_cons_succ]
            refine wpAnyH_take (i := 7) (oi := { dst := some 63, op := Op.nilCheck (Operand.tmp 62), type := 0, pos := "journal.go:69", after := #[{ on := 6, ground := Ground.data }], guard := none }) (v := ?_) rfl (by kernel_rfl) (by kernel_rfl) (by kernel_rfl) (fun _ _ _ h => h) (Or.inl ⟨by rfl, ?_⟩) (by assumption) ?_
            rotate_left
            · intro w hSw
              try dsimp only at hSw
              go_simp
              try with_reducible rfl
            try simp only [Act.put, List.setIfInBounds_toArray, List.set_cons_zero, List.set_cons_succ]
            refine wpAnyH_take (i := 8) (oi := { dst := some 64, op := Op.fieldAddr 76 (Operand.tmp 63) 3, type := 0, pos := "journal.go:69", after := #[{ on := 7, ground := Ground.data }], guard := none }) (v := ?_) rfl (by kernel_rfl) (by kernel_rfl) (by kernel_rfl) (fun _ _ _ h => h) (Or.inl ⟨by rfl, ?_⟩) (by assumption) ?_
            rotate_left
            · intro w hSw
              try dsimp only at hSw
              go_simp
              try with_reducible rfl
            try simp only [Act.put, List.setIfInBounds_toArray, List.set_cons_zero, List.set_cons_succ]
            refine wpAnyH_take (i := 9) (oi := { dst := some 65, op := Op.load 3 (Operand.tmp 64), type := 3, pos := "journal.go:69", after := #[{ on := 8, ground := Ground.data }], guard := none }) (v := ?_) rfl (by kernel_rfl) (by kernel_rfl) (by kernel_rfl) (fun _ _ _ h => h) (Or.inl ⟨by rfl, ?_⟩) (by assumption) ?_
            rotate_left
            · intro w hSw
              try dsimp only at hSw
              go_simp
              try with_reducible rfl
            try simp only [Act.put, List.setIfInBounds_toArray, List.set_cons_zero, List.set_cons_succ]
            refine wpAnyH_take (i := 10) (oi := { dst := some 66, op := Op.move (Operand.tmp 7), type := 3, pos := "journal.go:69", after := #[], guard := none }) (v := ?_) rfl (by kernel_rfl) (by kernel_rfl) (by kernel_rfl) (fun _ _ _ h => h) (Or.inl ⟨by rfl, ?_⟩) (by assumption) ?_
            rotate_left
            · intro w hSw
              try dsimp only at hSw
              go_simp
              try with_reducible rfl
            try simp only [Act.put, List.setIfInBounds_toArray, List.set_cons_zero, List.set_cons_succ]
            refine wpAnyH_take (i := 11) (oi := { dst := some 67, op := Op.binOp BinOp.add 3 (Operand.tmp 65) (Operand.tmp 66) 3, type := 3, pos := "journal.go:69", after := #[{ on := 9, ground := Ground.data }, { on := 10, ground := Ground.data }], guard := none }) (v := ?_) rfl (by kernel_rfl) (by kernel_rfl) (by kernel_rfl) (fun _ _ _ h => h) (Or.inl ⟨by rfl, ?_⟩) (by assumption) ?_
            rotate_left
            · intro w hSw
              try dsimp only at hSw
              go_simp
              try with_reducible rfl
            try simp only [Act.put, List.setIfInBounds_toArray, List.set_cons_zero, List.set_cons_succ]
            refine wpAnyH_take (i := 12) (oi := { dst := some 68, op := Op.slice 67 (Operand.tmp 57) (some (Operand.tmp 61)) (some (Operand.tmp 67)) none, type := 67, pos := "journal.go:69", after := #[{ on := 1, ground := Ground.data }, { on := 5, ground := Ground.data }, { on := 11, ground := Ground.data }], guard := none }) (v := ?_) rfl (by kernel_rfl) (by kernel_rfl) (by kernel_rfl) (fun _ _ _ h => h) (Or.inl ⟨by rfl, ?_⟩) (by assumption) ?_
            rotate_left
            · intro w hSw
              try dsimp only at hSw
              go_simp
              try with_reducible rfl
            try simp only [Act.put, List.setIfInBounds_toArray, List.set_cons_zero, List.set_cons_succ]
            refine wpAnyH_ready (rs := [13]) (by kernel_rfl) (by simp) ?_
            refine AllReadyH.cons (o := { dst := some 69, op := Op.call { callee := Callee.value (Operand.func 55), args := #[Operand.tmp 68], argTypes := #[67] }, type := 45, pos := "journal.go:69", after := #[{ on := 12, ground := Ground.data }], guard := none }) rfl (fun K hK => ?_) AllReadyH.nil
            go_simp
            with_reducible refine HJ.out.mono ?_
            clear HJ
            rintro e w6 ⟨p6, cc6, rfl, ho6, hb6⟩
            have HO6 := Lib.hid (owned_base ho6 hwS)
            have HR6 := Lib.hid (HRc.out.below hb6)
            have HL6 := Lib.hid (HLc.out.below hb6)
            have HB6 := Lib.hid (HBd.out.trans (Bf.new hb6 (Nat.le_of_lt HLc.out.lt)))
            have hT6 : (fun W : World => W.cell? ⟨A, 3, none⟩ = some (.int .i64 (pl : Int))) w6 := by
              have := HL6.out.cell 3
              simp only [lgcells] at this
              simpa using this
            have hw6 : w.heap.size ≤ w6.heap.size := HB6.out.below.size
            clear ho6 hb6 HRc HLc HBd
            try go_wp2_with fail
            refine hK.out _ _ hT6 (fun _ => ?_)
            clear hK K
            try simp only [Act.put, List.setIfInBounds_toArray, List.set_cons_zero, List.set_cons_succ]
            clear hT
            refine wpAnyH_ready (rs := [14]) (by kernel_rfl) (by simp) ?_
            refine AllReadyH.cons (o := { dst := some 70, op := Op.buildSlice 33 1 #[(0, Operand.tmp 69)], type := 33, pos := "journal.go:69", after := #[{ on := 13, ground := Ground.data }], guard := none }) rfl (fun K hK => ?_) AllReadyH.nil
            go_simp
            generalize hw7 : w6.alloc _ = w7
            have hb7 : Below w6.heap.size w6 w7 := by rw [← hw7]; exact (Below.refl _ _).alloc (Nat.le_refl _) _
            have hc7 : w7.cell? ⟨w6.heap.size, 0, none⟩ = some (.slice p6 (joinF (fun i => F (pl + i)) c).length cc6) := by rw [← hw7]; exact cell_of_row _ _ _ _ _ _ (heap_alloc_new _ _)
            have hL7 := HL6.out.below hb7
            have hO7 := owned_keeps HO6.out (fun g hg => hb7.block g (HO6.out.lt g hg).2)
            obtain ⟨p8, c8, w8, hr8, hR8, hb8, _⟩ := append_rec (c := 1) (HR6.out.below hb7) hO7 hc7 (by omega) (Nat.le_trans hw6 hb7.size)
            have HR8 := Lib.hid hr8
            have HRec8 := Lib.hid hR8
            have hAw : A < w.heap.size := HG.out.lt
            have HL8 : Hid (LogAt A _ w8) := (hb8.block A hAw).trans hL7
            have hB7 := HB6.out.trans (Bf.new hb7 (Nat.le_of_lt HL6.out.lt))
            have HB8 : Hid (Bf A (· = A) w w8) := ⟨hB7.below.trans (hb8.mono (Nat.le_of_lt hAw)), fun k hk hx => (hb8.block k hk).trans (hB7.fr k hk hx)⟩
            have hT7 : (fun W : World => W.cell? ⟨A, 3, none⟩ = some (.int .i64 (pl : Int))) w7 := by
              have := hL7.cell 3
              simp only [lgcells] at this
              simpa using this
            have hT8 : (fun W : World => W.cell? ⟨A, 3, none⟩ = some (.int .i64 (pl : Int))) w8 := by
              have := LogAt.cell HL8.out 3
              simp only [lgcells] at this
              simpa using this
            clear hw7 hb7 hc7 hL7 hO7 hr8 hR8 hb8 hB7 HO6 HR6 HL6 HB6
            refine hK.out _ _ hT7 (fun _ => ?_)
            clear hK K
            try simp only [Act.put, List.setIfInBounds_toArray, List.set_cons_zero, List.set_cons_succ]
            clear hT6
            refine wpAnyH_ready (rs := [15]) (by kernel_rfl) (by simp) ?_
            refine AllReadyH.cons (o := { dst := some 71, op := Op.call { callee := Callee.builtin Builtin.append, args := #[Operand.tmp 56, Operand.tmp 70], argTypes := #[33, 33] }, type := 33, pos := "journal.go:69", after := #[{ on := 0, ground := Ground.data }, { on := 14, ground := Ground.data }, { on := 13, ground := Ground.chain }], guard := none }) rfl (fun K hK => ?_) AllReadyH.nil
            refine step_append_run rfl _ _ _ rfl _ _ _ _ rfl rfl HR8.out ?_
            refine hK.out _ _ hT8 (fun _ => ?_)
            clear hK K HR8
            try simp only [Act.put, List.setIfInBounds_toArray, List.set_cons_zero, List.set_cons_succ]
            clear hT7
            refine wpAnyH_take (i := 16) (oi := { dst := some 5, op := Op.assign (Operand.tmp 71), type := 33, pos := "journal.go:69", after := #[{ on := 15, ground := Ground.data }, { on := 15, ground := Ground.chain }, { on := 0, ground := Ground.phase }, { on := 1, ground := Ground.phase }, { on := 2, ground := Ground.phase }, { on := 3, ground := Ground.phase }, { on := 4, ground := Ground.phase }, { on := 5, ground := Ground.phase }, { on := 6, ground := Ground.phase }, { on := 7, ground := Ground.phase }, { on := 8, ground := Ground.phase }, { on := 9, ground := Ground.phase }, { on := 10, ground := Ground.phase }, { on := 11, ground := Ground.phase }, { on := 12, ground := Ground.phase }, { on := 13, ground := Ground.phase }, { on := 14, ground := Ground.phase }, { on := 15, ground := Ground.phase }], guard := none }) (v := ?_) rfl (by kernel_rfl) (by kernel_rfl) (by kernel_rfl) (fun _ _ _ h => h) (Or.inl ⟨by rfl, ?_⟩) (by assumption) ?_
            rotate_left
            · intro w hSw
              try dsimp only at hSw
              go_simp
              try with_reducible rfl
            try simp only [Act.put, List.setIfInBounds_toArray, List.set_cons_zero, List.set_cons_succ]
            refine wpAnyH_done (by kernel_rfl) ?_ _
            clear hT8
            go_wp2_with fail
            have hqn := number_any w8.drew (gs pl) q0 ((((HP.out.bf HG.out HB8.out).below ((Below.refl _ _).drew)).el pl (by omega) q0 HQ0.out).1.rd hq0.1) hq0.2
            have HQN := Lib.hid hqn
            have hL9 := HL8.out
            have c39 := LogAt.cell hL9 3
            have c49 := LogAt.cell hL9 4
            simp only [lgcells] at c39 c49
            simp at c39 c49
            have f39 := LogAt.frozen hL9 3
            have f49 := LogAt.frozen hL9 4
            have hE1 := LogAt.turn (g' := { g with place := e9, num := num }) hL9 3 (.int .i64 (e9 : Int)) rfl (Nat.le_refl _) HB8.out.below
            have hE2 := hE1.1.turn (g' := { g with place := e9, num := (fN q0 + 1) % 4294967296 }) 4 (.int .u32 (IntKind.u32.wrap (fN q0 + 1))) (by rw [IntKind.wrap_u32]; rfl) (Nat.le_refl _) hE1.2.1
            have HLE := Lib.hid (hE2.1.below ((Below.refl _ _).drew))
            have HBE : Hid (Bf A (· = A) w _) := ⟨hE2.2.1.drew, fun k hk hx => (hE2.2.2 k hx).trans ((hE1.2.2 k hx).trans (HB8.out.fr k hk hx))⟩
            have HRE := Lib.hid (HRec8.out.keep (W' := ((w8.setCell ⟨A, 3, none⟩ (.int .i64 (e9 : Int))).setCell ⟨A, 4, none⟩ (.int .u32 (IntKind.u32.wrap (fN q0 + 1)))).drew) (fun k cur ty hk hty => (hE2.2.2 k (row_ne hk hL9 (by rcases hty with rfl | rfl <;> decide))).trans (hE1.2.2 k (row_ne hk hL9 (by rcases hty with rfl | rfl <;> decide)))))
            clear hqn hL9 hE1 hE2 HB8 HL8
            have hT : (fun _ : World => True) w8.drew := trivial
            refine wp_region_held_drew (S := fun _ : World => True) (by kernel_rfl) hT (fun hHeld => ?_)
            clear hHeld hT
            refine wpAnyH_take (i := 0) (oi := { dst := some 72, op := Op.move (Operand.tmp 0), type := 32, pos := "journal.go:70", after := #[], guard := none }) (v := ?_) rfl (by kernel_rfl) (by kernel_rfl) (by kernel_rfl) (fun _ _ _ h => h) (Or.inl ⟨by rfl, ?_⟩) trivial ?_
            rotate_left
            · intro w hSw
              try dsimp only at hSw
              go_simp
              try with_reducible rfl
            try simp only [Act.put, List.setIfInBounds_toArray, List.set_cons_zero, List.set_cons_succ]
            refine wpAnyH_take (i := 1) (oi := { dst := some 73, op := Op.move (Operand.tmp 0), type := 32, pos := "journal.go:70", after := #[{ on := 14, ground := Ground.gcOnly Departure.lateStores }], guard := none }) (v := ?_) rfl (by kernel_rfl) (by kernel_rfl) (by kernel_rfl) (fun _ _ _ h => h) (Or.inl ⟨by rfl, ?_⟩) trivial ?_
            rotate_left
            · intro w hSw
              try dsimp only at hSw
              go_simp
              try with_reducible rfl
            try simp only [Act.put, List.setIfInBounds_toArray, List.set_cons_zero, List.set_cons_succ]
            refine wpAnyH_take (i := 2) (oi := { dst := some 74, op := Op.move (Operand.tmp 0), type := 32, pos := "journal.go:70", after := #[], guard := none }) (v := ?_) rfl (by kernel_rfl) (by kernel_rfl) (by kernel_rfl) (fun _ _ _ h => h) (Or.inl ⟨by rfl, ?_⟩) trivial ?_
            rotate_left
            · intro w hSw
              try dsimp only at hSw
              go_simp
              try with_reducible rfl
            try simp only [Act.put, List.setIfInBounds_toArray, List.set_cons_zero, List.set_cons_succ]
            refine wpAnyH_take (i := 3) (oi := { dst := some 75, op := Op.nilCheck (Operand.tmp 74), type := 0, pos := "journal.go:70", after := #[{ on := 2, ground := Ground.data }], guard := none }) (v := ?_) rfl (by kernel_rfl) (by kernel_rfl) (by kernel_rfl) (fun _ _ _ h => h) (Or.inl ⟨by rfl, ?_⟩) trivial ?_
            rotate_left
            · intro w hSw
              try dsimp only at hSw
              go_simp
              try with_reducible rfl
            try simp only [Act.put, List.setIfInBounds_toArray, List.set_cons_zero, List.set_cons_succ]
            refine wpAnyH_take (i := 4) (oi := { dst := some 76, op := Op.fieldAddr 76 (Operand.tmp 75) 3, type := 0, pos := "journal.go:70", after := #[{ on := 3, ground := Ground.data }], guard := none }) (v := ?_) rfl (by kernel_rfl) (by kernel_rfl) (by kernel_rfl) (fun _ _ _ h => h) (Or.inl ⟨by rfl, ?_⟩) trivial ?_
            rotate_left
            · intro w hSw
              try dsimp only at hSw
              go_simp
              try with_reducible rfl
            try simp only [Act.put, List.setIfInBounds_toArray, List.set_cons_zero, List.set_cons_succ]
            refine wpAnyH_take (i := 6) (oi := { dst := some 78, op := Op.move (Operand.tmp 7), type := 3, pos := "journal.go:70", after := #[], guard := none }) (v := ?_) rfl (by kernel_rfl) (by kernel_rfl) (by kernel_rfl) (fun _ _ _ h => h) (Or.inl ⟨by rfl, ?_⟩) trivial ?_
            rotate_left
            · intro w hSw
              try dsimp only at hSw
              go_simp
              try with_reducible rfl
            try simp only [Act.put, List.setIfInBounds_toArray, List.set_cons_zero, List.set_cons_succ]
            refine wpAnyH_take (i := 8) (oi := { dst := some 80, op := Op.move (Operand.tmp 8), type := 74, pos := "journal.go:70", after := #[], guard := none }) (v := ?_) rfl (by kernel_rfl) (by kernel_rfl) (by kernel_rfl) (fun _ _ _ h => h) (Or.inl ⟨by rfl, ?_⟩) trivial ?_
            rotate_left
            · intro w hSw
              try dsimp only at hSw
              go_simp
              try with_reducible rfl
            try simp only [Act.put, List.setIfInBounds_toArray, List.set_cons_zero, List.set_cons_succ]
            refine wpAnyH_take (i := 11) (oi := { dst := some 83, op := Op.move (Operand.tmp 8), type := 74, pos := "journal.go:70", after := #[{ on := 17, ground := Ground.gcOnly Departure.lateStores }], guard := none }) (v := ?_) rfl (by kernel_rfl) (by kernel_rfl) (by kernel_rfl) (fun _ _ _ h => h) (Or.inl ⟨by rfl, ?_⟩) trivial ?_
            rotate_left
            · intro w hSw
              try dsimp only at hSw
              go_simp
              try with_reducible rfl
            try simp only [Act.put, List.setIfInBounds_toArray, List.set_cons_zero, List.set_cons_succ]
            refine wpAnyH_ready (rs := [5, 9]) (by kernel_rfl) (by simp) ?_
            refine AllReadyH.cons (o := { dst := some 77, op := Op.load 3 (Operand.tmp 76), type := 3, pos := "journal.go:70", after := #[{ on := 4, ground := Ground.data }], guard := none }) rfl (fun K hK => ?_) (AllReadyH.cons (o := { dst := some 81, op := Op.call { callee := Callee.value (Operand.func 53), args := #[Operand.tmp 80], argTypes := #[74] }, type := 70, pos := "journal.go:70", after := #[{ on := 8, ground := Ground.data }], guard := none }) rfl (fun K hK => ?_) AllReadyH.nil)
            · go_simp
              refine hK.out _ _ trivial (fun _ => ?_)
              clear hK K
              try simp only [Act.put, List.setIfInBounds_toArray, List.set_cons_zero, List.set_cons_succ]
              refine wpAnyH_take (i := 7) (oi := { dst := some 79, op := Op.binOp BinOp.add 3 (Operand.tmp 77) (Operand.tmp 78) 3, type := 3, pos := "journal.go:70", after := #[{ on := 5, ground := Ground.data }, { on := 6, ground := Ground.data }], guard := none }) (v := ?_) rfl (by kernel_rfl) (by kernel_rfl) (by kernel_rfl) (fun _ _ _ h => h) (Or.inl ⟨by rfl, ?_⟩) trivial ?_
              rotate_left
              · intro w hSw
                try dsimp only at hSw
                go_simp
                try with_reducible rfl
              try simp only [Act.put, List.setIfInBounds_toArray, List.set_cons_zero, List.set_cons_succ]
              refine wpAnyH_ready (rs := [9]) (by kernel_rfl) (by simp) ?_
              refine AllReadyH.cons (o := { dst := some 81, op := Op.call { callee := Callee.value (Operand.func 53), args := #[Operand.tmp 80], argTypes := #[74] }, type := 70, pos := "journal.go:70", after := #[{ on := 8, ground := Ground.data }], guard := none }) rfl (fun K hK => ?_) AllReadyH.nil
              go_simp
              with_reducible refine HQN.out.mono ?_
              rintro e w9 ⟨rfl, rfl⟩
              try go_wp2_with fail
              refine hK.out _ _ trivial (fun _ => ?_)
              clear hK K
              try simp only [Act.put, List.setIfInBounds_toArray, List.set_cons_zero, List.set_cons_succ]
              refine wpAnyH_take (i := 10) (oi := { dst := some 82, op := Op.binOp BinOp.add 70 (Operand.tmp 81) (Operand.const (Value.int IntKind.u32 1)) 70, type := 70, pos := "journal.go:70", after := #[{ on := 9, ground := Ground.data }, { on := 14, ground := Ground.gcOnly Departure.lateStores }], guard := none }) (v := ?_) rfl (by kernel_rfl) (by kernel_rfl) (by kernel_rfl) (fun _ _ _ h => h) (Or.inl ⟨by rfl, ?_⟩) trivial ?_
              rotate_left
              · intro w hSw
                try dsimp only at hSw
                go_simp
                try with_reducible rfl
              try simp only [Act.put, List.setIfInBounds_toArray, List.set_cons_zero, List.set_cons_succ]
              refine wpAnyH_take (i := 12) (oi := { dst := some 84, op := Op.nilCheck (Operand.tmp 72), type := 0, pos := "journal.go:70", after := #[{ on := 0, ground := Ground.data }, { on := 0, ground := Ground.phase }, { on := 1, ground := Ground.textOnly Departure.lateStores }, { on := 2, ground := Ground.phase }, { on := 3, ground := Ground.phase }, { on := 4, ground := Ground.phase }, { on := 5, ground := Ground.phase }, { on := 6, ground := Ground.phase }, { on := 7, ground := Ground.phase }, { on := 8, ground := Ground.textOnly Departure.lateStores }, { on := 9, ground := Ground.phase }, { on := 10, ground := Ground.textOnly Departure.lateStores }, { on := 11, ground := Ground.textOnly Departure.lateStores }], guard := none }) (v := ?_) rfl (by kernel_rfl) (by kernel_rfl) (by kernel_rfl) (fun _ _ _ h => h) (Or.inl ⟨by rfl, ?_⟩) trivial ?_
              rotate_left
              · intro w hSw
                try dsimp only at hSw
                go_simp
                try with_reducible rfl
              try simp only [Act.put, List.setIfInBounds_toArray, List.set_cons_zero, List.set_cons_succ]
              refine wpAnyH_take (i := 13) (oi := { dst := some 85, op := Op.fieldAddr 76 (Operand.tmp 84) 3, type := 0, pos := "journal.go:70", after := #[{ on := 12, ground := Ground.data }, { on := 0, ground := Ground.phase }, { on := 1, ground := Ground.textOnly Departure.lateStores }, { on := 2, ground := Ground.phase }, { on := 3, ground := Ground.phase }, { on := 4, ground := Ground.phase }, { on := 5, ground := Ground.phase }, { on := 6, ground := Ground.phase }, { on := 7, ground := Ground.phase }, { on := 8, ground := Ground.textOnly Departure.lateStores }, { on := 9, ground := Ground.phase }, { on := 10, ground := Ground.textOnly Departure.lateStores }, { on := 11, ground := Ground.textOnly Departure.lateStores }], guard := none }) (v := ?_) rfl (by kernel_rfl) (by kernel_rfl) (by kernel_rfl) (fun _ _ _ h => h) (Or.inl ⟨by rfl, ?_⟩) trivial ?_
              rotate_left
              · intro w hSw
                try dsimp only at hSw
                go_simp
                try with_reducible rfl
              try simp only [Act.put, List.setIfInBounds_toArray, List.set_cons_zero, List.set_cons_succ]
              refine wpAnyH_ready (rs := [14]) (by kernel_rfl) (by simp) ?_
              refine AllReadyH.cons (o := { dst := none, op := Op.store 3 (Operand.tmp 85) (Operand.tmp 79), type := 0, pos := "journal.go:70", after := #[{ on := 13, ground := Ground.data }, { on := 7, ground := Ground.data }, { on := 9, ground := Ground.chain }, { on := 0, ground := Ground.phase }, { on := 1, ground := Ground.textOnly Departure.lateStores }, { on := 2, ground := Ground.phase }, { on := 3, ground := Ground.phase }, { on := 4, ground := Ground.phase }, { on := 5, ground := Ground.phase }, { on := 6, ground := Ground.phase }, { on := 7, ground := Ground.phase }, { on := 8, ground := Ground.textOnly Departure.lateStores }, { on := 9, ground := Ground.phase }, { on := 10, ground := Ground.textOnly Departure.lateStores }, { on := 11, ground := Ground.textOnly Departure.lateStores }], guard := none }) rfl (fun K hK => ?_) AllReadyH.nil
              go_simp
              refine hK.out _ _ trivial (fun _ => ?_)
              clear hK K
              try simp only [Act.put, List.setIfInBounds_toArray, List.set_cons_zero, List.set_cons_succ]
              refine wpAnyH_take (i := 15) (oi := { dst := some 86, op := Op.nilCheck (Operand.tmp 73), type := 0, pos := "journal.go:70", after := #[{ on := 1, ground := Ground.data }, { on := 0, ground := Ground.phase }, { on := 1, ground := Ground.phase }, { on := 2, ground := Ground.phase }, { on := 3, ground := Ground.phase }, { on := 4, ground := Ground.phase }, { on := 5, ground := Ground.phase }, { on := 6, ground := Ground.phase }, { on := 7, ground := Ground.phase }, { on := 8, ground := Ground.phase }, { on := 9, ground := Ground.phase }, { on := 10, ground := Ground.phase }, { on := 11, ground := Ground.textOnly Departure.lateStores }, { on := 12, ground := Ground.phase }, { on := 13, ground := Ground.phase }, { on := 14, ground := Ground.phase }], guard := none }) (v := ?_) rfl (by kernel_rfl) (by kernel_rfl) (by kernel_rfl) (fun _ _ _ h => h) (Or.inl ⟨by rfl, ?_⟩) trivial ?_
              rotate_left
              · intro w hSw
                try dsimp only at hSw
                go_simp
                try with_reducible rfl
              try simp only [Act.put, List.setIfInBounds_toArray, List.set_cons_zero, List.set_cons_succ]
              refine wpAnyH_take (i := 16) (oi := { dst := some 87, op := Op.fieldAddr 76 (Operand.tmp 86) 4, type := 0, pos := "journal.go:70", after := #[{ on := 15, ground := Ground.data }, { on := 0, ground := Ground.phase }, { on := 1, ground := Ground.phase }, { on := 2, ground := Ground.phase }, { on := 3, ground := Ground.phase }, { on := 4, ground := Ground.phase }, { on := 5, ground := Ground.phase }, { on := 6, ground := Ground.phase }, { on := 7, ground := Ground.phase }, { on := 8, ground := Ground.phase }, { on := 9, ground := Ground.phase }, { on := 10, ground := Ground.phase }, { on := 11, ground := Ground.textOnly Departure.lateStores }, { on := 12, ground := Ground.phase }, { on := 13, ground := Ground.phase }, { on := 14, ground := Ground.phase }], guard := none }) (v := ?_) rfl (by kernel_rfl) (by kernel_rfl) (by kernel_rfl) (fun _ _ _ h => h) (Or.inl ⟨by rfl, ?_⟩) trivial ?_
              rotate_left
              · intro w hSw
                try dsimp only at hSw
                go_simp
                try with_reducible rfl
              try simp only [Act.put, List.setIfInBounds_toArray, List.set_cons_zero, List.set_cons_succ]
              refine wpAnyH_ready (rs := [17]) (by kernel_rfl) (by simp) ?_
              refine AllReadyH.cons (o := { dst := none, op := Op.store 70 (Operand.tmp 87) (Operand.tmp 82), type := 0, pos := "journal.go:70", after := #[{ on := 16, ground := Ground.data }, { on := 10, ground := Ground.data }, { on := 14, ground := Ground.chain }, { on := 0, ground := Ground.phase }, { on := 1, ground := Ground.phase }, { on := 2, ground := Ground.phase }, { on := 3, ground := Ground.phase }, { on := 4, ground := Ground.phase }, { on := 5, ground := Ground.phase }, { on := 6, ground := Ground.phase }, { on := 7, ground := Ground.phase }, { on := 8, ground := Ground.phase }, { on := 9, ground := Ground.phase }, { on := 10, ground := Ground.phase }, { on := 11, ground := Ground.textOnly Departure.lateStores }, { on := 12, ground := Ground.phase }, { on := 13, ground := Ground.phase }, { on := 14, ground := Ground.phase }], guard := none }) rfl (fun K hK => ?_) AllReadyH.nil
              go_simp
              refine hK.out _ _ trivial (fun _ => ?_)
              clear hK K
              try simp only [Act.put, List.setIfInBounds_toArray, List.set_cons_zero, List.set_cons_succ]
              refine wpAnyH_take (i := 18) (oi := { dst := some 6, op := Op.assign (Operand.tmp 83), type := 74, pos := "journal.go:70", after := #[{ on := 11, ground := Ground.data }, { on := 17, ground := Ground.chain }, { on := 0, ground := Ground.phase }, { on := 1, ground := Ground.phase }, { on := 2, ground := Ground.phase }, { on := 3, ground := Ground.phase }, { on := 4, ground := Ground.phase }, { on := 5, ground := Ground.phase }, { on := 6, ground := Ground.phase }, { on := 7, ground := Ground.phase }, { on := 8, ground := Ground.phase }, { on := 9, ground := Ground.phase }, { on := 10, ground := Ground.phase }, { on := 11, ground := Ground.phase }, { on := 12, ground := Ground.phase }, { on := 13, ground := Ground.phase }, { on := 14, ground := Ground.phase }, { on := 15, ground := Ground.phase }, { on := 16, ground := Ground.phase }, { on := 17, ground := Ground.phase }], guard := none }) (v := ?_) rfl (by kernel_rfl) (by kernel_rfl) (by kernel_rfl) (fun _ _ _ h => h) (Or.inl ⟨by rfl, ?_⟩) trivial ?_
              rotate_left
              · intro w hSw
                try dsimp only at hSw
                go_simp
                try with_reducible rfl
              try simp only [Act.put, List.setIfInBounds_toArray, List.set_cons_zero, List.set_cons_succ]
              refine wpAnyH_done (by kernel_rfl) ?_ _
              go_wp2
              constructor
              · have eo : (out ++ [joinF (fun i => F (pl + i)) c]).length = out.length + 1 := by rw [List.length_append]; rfl
                have hRE := HRE.out
                rw [eo] at hRE
                refine ⟨f, e9, (fN q0 + 1) % 4294967296, some q0, gs pl, out ++ [joinF (fun i => F (pl + i)) c], p8, c8, _, by rw [eo], rfl, he1, by rw [eo]; omega, by omega, by omega, by omega, by rw [HE9.out]; exact e2.out, fun q hq => ?_, by rw [eo]; exact hRE, HLE.out, HBE.out⟩
                injection hq with hq
                subst hq
                exact ⟨(HP.out.el pl (by omega) q0 HQ0.out).1, hq0.1, hq0.2⟩
              · show n - (out.length + 1) < n - out.length
                omega
            · go_simp
              with_reducible refine HQN.out.mono ?_
              rintro e w9 ⟨rfl, rfl⟩
              try go_wp2_with fail
              refine hK.out _ _ trivial (fun _ => ?_)
              clear hK K
              try simp only [Act.put, List.setIfInBounds_toArray, List.set_cons_zero, List.set_cons_succ]
              refine wpAnyH_take (i := 10) (oi := { dst := some 82, op := Op.binOp BinOp.add 70 (Operand.tmp 81) (Operand.const (Value.int IntKind.u32 1)) 70, type := 70, pos := "journal.go:70", after := #[{ on := 9, ground := Ground.data }, { on := 14, ground := Ground.gcOnly Departure.lateStores }], guard := none }) (v := ?_) rfl (by kernel_rfl) (by kernel_rfl) (by kernel_rfl) (fun _ _ _ h => h) (Or.inl ⟨by rfl, ?_⟩) trivial ?_
              rotate_left
              · intro w hSw
                try dsimp only at hSw
                go_simp
                try with_reducible rfl
              try simp only [Act.put, List.setIfInBounds_toArray, List.set_cons_zero, List.set_cons_succ]
              refine wpAnyH_ready (rs := [5]) (by kernel_rfl) (by simp) ?_
              refine AllReadyH.cons (o := { dst := some 77, op := Op.load 3 (Operand.tmp 76), type := 3, pos := "journal.go:70", after := #[{ on := 4, ground := Ground.data }], guard := none }) rfl (fun K hK => ?_) AllReadyH.nil
              go_simp
              refine hK.out _ _ trivial (fun _ => ?_)
              clear hK K
              try simp only [Act.put, List.setIfInBounds_toArray, List.set_cons_zero, List.set_cons_succ]
              refine wpAnyH_take (i := 7) (oi := { dst := some 79, op := Op.binOp BinOp.add 3 (Operand.tmp 77) (Operand.tmp 78) 3, type := 3, pos := "journal.go:70", after := #[{ on := 5, ground := Ground.data }, { on := 6, ground := Ground.data }], guard := none }) (v := ?_) rfl (by kernel_rfl) (by kernel_rfl) (by kernel_rfl) (fun _ _ _ h => h) (Or.inl ⟨by rfl, ?_⟩) trivial ?_
              rotate_left
              · intro w hSw
                try dsimp only at hSw
                go_simp
                try with_reducible rfl
              try simp only [Act.put, List.setIfInBounds_toArray, List.set_cons_zero, List.set_cons_succ]
              refine wpAnyH_take (i := 12) (oi := { dst := some 84, op := Op.nilCheck (Operand.tmp 72), type := 0, pos := "journal.go:70", after := #[{ on := 0, ground := Ground.data }, { on := 0, ground := Ground.phase }, { on := 1, ground := Ground.textOnly Departure.lateStores }, { on := 2, ground := Ground.phase }, { on := 3, ground := Ground.phase }, { on := 4, ground := Ground.phase }, { on := 5, ground := Ground.phase }, { on := 6, ground := Ground.phase }, { on := 7, ground := Ground.phase }, { on := 8, ground := Ground.textOnly Departure.lateStores }, { on := 9, ground := Ground.phase }, { on := 10, ground := Ground.textOnly Departure.lateStores }, { on := 11, ground := Ground.textOnly Departure.lateStores }], guard := none }) (v := ?_) rfl (by kernel_rfl) (by kernel_rfl) (by kernel_rfl) (fun _ _ _ h => h) (Or.inl ⟨by rfl, ?_⟩) trivial ?_
              rotate_left
              · intro w hSw
                try dsimp only at hSw
                go_simp
                try with_reducible rfl
              try simp only [Act.put, List.setIfInBounds_toArray, List.set_cons_zero, List.set_cons_succ]
              refine wpAnyH_take (i := 13) (oi := { dst := some 85, op := Op.fieldAddr 76 (Operand.tmp 84) 3, type := 0, pos := "journal.go:70", after := #[{ on := 12, ground := Ground.data }, { on := 0, ground := Ground.phase }, { on := 1, ground := Ground.textOnly Departure.lateStores }, { on := 2, ground := Ground.phase }, { on := 3, ground := Ground.phase }, { on := 4, ground := Ground.phase }, { on := 5, ground := Ground.phase }, { on := 6, ground := Ground.phase }, { on := 7, ground := Ground.phase }, { on := 8, ground := Ground.textOnly Departure.lateStores }, { on := 9, ground := Ground.phase }, { on := 10, ground := Ground.textOnly Departure.lateStores }, { on := 11, ground := Ground.textOnly Departure.lateStores }], guard := none }) (v := ?_) rfl (by kernel_rfl) (by kernel_rfl) (by kernel_rfl) (fun _ _ _ h => h) (Or.inl ⟨by rfl, ?_⟩) trivial ?_
              rotate_left
              · intro w hSw
                try dsimp only at hSw
                go_simp
                try with_reducible rfl
              try simp only [Act.put, List.setIfInBounds_toArray, List.set_cons_zero, List.set_cons_succ]
              refine wpAnyH_ready (rs := [14]) (by kernel_rfl) (by simp) ?_
              refine AllReadyH.cons (o := { dst := none, op := Op.store 3 (Operand.tmp 85) (Operand.tmp 79), type := 0, pos := "journal.go:70", after := #[{ on := 13, ground := Ground.data }, { on := 7, ground := Ground.data }, { on := 9, ground := Ground.chain }, { on := 0, ground := Ground.phase }, { on := 1, ground := Ground.textOnly Departure.lateStores }, { on := 2, ground := Ground.phase }, { on := 3, ground := Ground.phase }, { on := 4, ground := Ground.phase }, { on := 5, ground := Ground.phase }, { on := 6, ground := Ground.phase }, { on := 7, ground := Ground.phase }, { on := 8, ground := Ground.textOnly Departure.lateStores }, { on := 9, ground := Ground.phase }, { on := 10, ground := Ground.textOnly Departure.lateStores }, { on := 11, ground := Ground.textOnly Departure.lateStores }], guard := none }) rfl (fun K hK => ?_) AllReadyH.nil
              go_simp
              refine hK.out _ _ trivial (fun _ => ?_)
              clear hK K
              try simp only [Act.put, List.setIfInBounds_toArray, List.set_cons_zero, List.set_cons_succ]
              refine wpAnyH_take (i := 15) (oi := { dst := some 86, op := Op.nilCheck (Operand.tmp 73), type := 0, pos := "journal.go:70", after := #[{ on := 1, ground := Ground.data }, { on := 0, ground := Ground.phase }, { on := 1, ground := Ground.phase }, { on := 2, ground := Ground.phase }, { on := 3, ground := Ground.phase }, { on := 4, ground := Ground.phase }, { on := 5, ground := Ground.phase }, { on := 6, ground := Ground.phase }, { on := 7, ground := Ground.phase }, { on := 8, ground := Ground.phase }, { on := 9, ground := Ground.phase }, { on := 10, ground := Ground.phase }, { on := 11, ground := Ground.textOnly Departure.lateStores }, { on := 12, ground := Ground.phase }, { on := 13, ground := Ground.phase }, { on := 14, ground := Ground.phase }], guard := none }) (v := ?_) rfl (by kernel_rfl) (by kernel_rfl) (by kernel_rfl) (fun _ _ _ h => h) (Or.inl ⟨by rfl, ?_⟩) trivial ?_
              rotate_left
              · intro w hSw
                try dsimp only at hSw
                go_simp
                try with_reducible rfl
              try simp only [Act.put, List.setIfInBounds_toArray, List.set_cons_zero, List.set_cons_succ]
              refine wpAnyH_take (i := 16) (oi := { dst := some 87, op := Op.fieldAddr 76 (Operand.tmp 86) 4, type := 0, pos := "journal.go:70", after := #[{ on := 15, ground := Ground.data }, { on := 0, ground := Ground.phase }, { on := 1, ground := Ground.phase }, { on := 2, ground := Ground.phase }, { on := 3, ground := Ground.phase }, { on := 4, ground := Ground.phase }, { on := 5, ground := Ground.phase }, { on := 6, ground := Ground.phase }, { on := 7, ground := Ground.phase }, { on := 8, ground := Ground.phase }, { on := 9, ground := Ground.phase }, { on := 10, ground := Ground.phase }, { on := 11, ground := Ground.textOnly Departure.lateStores }, { on := 12, ground := Ground.phase }, { on := 13, ground := Ground.phase }, { on := 14, ground := Ground.phase }], guard := none }) (v := ?_) rfl (by kernel_rfl) (by kernel_rfl) (by kernel_rfl) (fun _ _ _ h => h) (Or.inl ⟨by rfl, ?_⟩) trivial ?_
              rotate_left
              · intro w hSw
                try dsimp only at hSw
                go_simp
                try with_reducible rfl
              try simp only [Act.put, List.setIfInBounds_toArray, List.set_cons_zero, List.set_cons_succ]
              refine wpAnyH_ready (rs := [17]) (by kernel_rfl) (by simp) ?_
              refine AllReadyH.cons (o := { dst := none, op := Op.store 70 (Operand.tmp 87) (Operand.tmp 82), type := 0, pos := "journal.go:70", after := #[{ on := 16, ground := Ground.data }, { on := 10, ground := Ground.data }, { on := 14, ground := Ground.chain }, { on := 0, ground := Ground.phase }, { on := 1, ground := Ground.phase }, { on := 2, ground := Ground.phase }, { on := 3, ground := Ground.phase }, { on := 4, ground := Ground.phase }, { on := 5, ground := Ground.phase }, { on := 6, ground := Ground.phase }, { on := 7, ground := Ground.phase }, { on := 8, ground := Ground.phase }, { on := 9, ground := Ground.phase }, { on := 10, ground := Ground.phase }, { on := 11, ground := Ground.textOnly Departure.lateStores }, { on := 12, ground := Ground.phase }, { on := 13, ground := Ground.phase }, { on := 14, ground := Ground.phase }], guard := none }) rfl (fun K hK => ?_) AllReadyH.nil
              go_simp
              refine hK.out _ _ trivial (fun _ => ?_)
              clear hK K
              try simp only [Act.put, List.setIfInBounds_toArray, List.set_cons_zero, List.set_cons_succ]
              refine wpAnyH_take (i := 18) (oi := { dst := some 6, op := Op.assign (Operand.tmp 83), type := 74, pos := "journal.go:70", after := #[{ on := 11, ground := Ground.data }, { on := 17, ground := Ground.chain }, { on := 0, ground := Ground.phase }, { on := 1, ground := Ground.phase }, { on := 2, ground := Ground.phase }, { on := 3, ground := Ground.phase }, { on := 4, ground := Ground.phase }, { on := 5, ground := Ground.phase }, { on := 6, ground := Ground.phase }, { on := 7, ground := Ground.phase }, { on := 8, ground := Ground.phase }, { on := 9, ground := Ground.phase }, { on := 10, ground := Ground.phase }, { on := 11, ground := Ground.phase }, { on := 12, ground := Ground.phase }, { on := 13, ground := Ground.phase }, { on := 14, ground := Ground.phase }, { on := 15, ground := Ground.phase }, { on := 16, ground := Ground.phase }, { on := 17, ground := Ground.phase }], guard := none }) (v := ?_) rfl (by kernel_rfl) (by kernel_rfl) (by kernel_rfl) (fun _ _ _ h => h) (Or.inl ⟨by rfl, ?_⟩) trivial ?_
              rotate_left
              · intro w hSw
                try dsimp only at hSw
                go_simp
                try with_reducible rfl
              try simp only [Act.put, List.setIfInBounds_toArray, List.set_cons_zero, List.set_cons_succ]
              refine wpAnyH_done (by kernel_rfl) ?_ _
              go_wp2
              constructor
              · have eo : (out ++ [joinF (fun i => F (pl + i)) c]).length = out.length + 1 := by rw [List.length_append]; rfl
                have hRE := HRE.out
                rw [eo] at hRE
                refine ⟨f, e9, (fN q0 + 1) % 4294967296, some q0, gs pl, out ++ [joinF (fun i => F (pl + i)) c], p8, c8, _, by rw [eo], rfl, he1, by rw [eo]; omega, by omega, by omega, by omega, by rw [HE9.out]; exact e2.out, fun q hq => ?_, by rw [eo]; exact hRE, HLE.out, HBE.out⟩
                injection hq with hq
                subst hq
                exact ⟨(HP.out.el pl (by omega) q0 HQ0.out).1, hq0.1, hq0.2⟩
              · show n - (out.length + 1) < n - out.length
                omega
    · have dj : decide ((pl : Int) < (n : Int)) = false := decide_eq_false (by omega)
      have e2 : Hid (gathF F n n 0 num0 none [] = (pl, num, out)) := by
        show gathF F n n 0 num0 none [] = (pl, num, out)
        rw [HE.out]
        cases f with
        | zero => rfl
        | succ f => rw [gathF.eq_2, if_neg hpn]
      go_wp2_with fail
      go_ret
      rw [e2.out]
      exact ⟨p, cc, vs, rfl, HR.out, HGr2.out, HB.out⟩
end Go.Proofs.Yticiaiiedagalaa.dk
