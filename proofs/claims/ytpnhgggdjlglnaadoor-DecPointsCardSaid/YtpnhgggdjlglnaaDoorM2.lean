/- What is printed is parsed to itself. -/
import Derived.Test.YtpnhgggdjlglnaaDoorM1
import Derived.Test.YtpnhgggdjlglnaaDoorL4
namespace Go.Proofs.YtpnhgggdjlglnaaDoor.dk
open Go.PlainAid Go.ChangeShapes Go.WideShapes Go.ChangeAt Go.RowKit

theorem unstr_app (a b : ByteArray) : unstr (a ++ b) = unstr a ++ unstr b := by
  unfold unstr
  rw [ByteArray.data_append, Array.toList_append, List.map_append]
theorem unstr_of (x : List UInt8) : unstr ⟨x.toArray⟩ = ud x := rfl
/-- What Parse tells of a text of pieces. -/
theorem parse_pieces (s : ByteArray) (neg : Bool) (W P E : List Int) (x : Int) (hW : Digs W) (hW0 : W ≠ []) (hWz : W.length = 1 ∨ W.getD 0 0 ≠ 48) (hP : Digs P) (hE : ExT E x)
    (hl : unstr s = sgT neg ++ W ++ ptT P ++ E) (hs : s.size ≤ 1000) (hx : -4000 ≤ x - (P.length : Int)) :
    ∃ y : Nm, parseP s = y.told ∧ y.Norm ∧ low ≤ y.ex ∧ y.val = if neg then - (nv (W ++ P) * 10 ^ (x - (P.length : Int) - low).toNat) else nv (W ++ P) * 10 ^ (x - (P.length : Int) - low).toNat := by
  obtain ⟨wh, pt, h1, h2, h3⟩ := split_pieces s neg W P E x hW hW0 hWz hP hE hl
  have hu : unstr (wh ++ pt) = W ++ P := by rw [unstr_app, h2, h3]
  have hp : (pt.size : Int) = (P.length : Int) := by rw [← unstr_length, h3]
  refine ⟨fmN neg (wh ++ pt) (x - (pt.size : Int)), ?_, fmN_norm _ _ _ (by rw [hu]; exact hW.append hP), fmN_ex _ _ _ (by rw [low_eq, hp]; exact hx), ?_⟩
  · unfold parseP
    rw [if_neg (by omega), h1]
    rfl
  · rw [fmN_val _ _ _ (by rw [low_eq, hp]; exact hx), hu, hp]
theorem dec_facts (u : Nat) : Digs (ud (Lib.decDigits u)) ∧ Lib.decDigits u ≠ [] ∧ nv (ud (Lib.decDigits u)) = u ∧ (u ≤ 1000000 → dexp (ud (Lib.decDigits u)) = u) ∧ (0 < u → (ud (Lib.decDigits u)).getD 0 0 ≠ 48) := by
  induction u using Nat.strongRecOn with
  | _ u ih =>
    have one : ∀ k : Nat, k < 10 → ((UInt8.ofNat (48 + k)).toNat : Int) = 48 + (k : Int) := fun k hk => by
      rw [UInt8.toNat_ofNat']
      omega
    have dig : ∀ k : Nat, k < 10 → isDig (48 + (k : Int)) = true := fun k hk => by
      unfold isDig
      simp only [Bool.and_eq_true, decide_eq_true_eq]
      omega
    by_cases h : u < 10
    · rw [Lib.decDigits_one h]
      have e : ud [UInt8.ofNat (48 + u)] = [48 + (u : Int)] := by
        show [((UInt8.ofNat (48 + u)).toNat : Int)] = _
        rw [one u h]
      rw [e]
      refine ⟨fun x hx => ?_, by simp, ?_, fun _ => ?_, fun h0 => ?_⟩
      · rw [List.mem_singleton.1 hx]
        exact dig u h
      · show (48 + (u : Int) - 48) * 10 ^ 0 + 0 = _
        rw [Int.pow_zero]
        omega
      · show min (0 * 10 + (48 + (u : Int) - 48)) 1000000 = _
        omega
      · show 48 + (u : Int) ≠ 48
        omega
    · obtain ⟨i1, i2, i3, i4, i5⟩ := ih (u / 10) (by omega)
      have e : ud (Lib.decDigits u) = ud (Lib.decDigits (u / 10)) ++ [48 + ((u % 10 : Nat) : Int)] := by
        rw [Lib.decDigits, dif_neg h]
        unfold ud
        rw [List.map_append]
        show _ ++ [((UInt8.ofNat (48 + u % 10)).toNat : Int)] = _
        rw [one (u % 10) (by omega)]
      have n0 : ud (Lib.decDigits (u / 10)) ≠ [] := fun e => i2 (List.map_eq_nil_iff.1 e)
      refine ⟨?_, fun he => ?_, ?_, fun hu => ?_, fun _ => ?_⟩
      · rw [e]
        refine i1.append fun x hx => ?_
        rw [List.mem_singleton.1 hx]
        exact dig _ (by omega)
      · rw [he] at e
        exact absurd e.symm (by show ¬ _ ++ [_] = ([] : List Int); simp)
      · rw [e, nv_last, i3]
        omega
      · rw [e]
        unfold dexp
        rw [List.foldl_append]
        show min (dexp (ud (Lib.decDigits (u / 10))) * 10 + (48 + ((u % 10 : Nat) : Int) - 48)) 1000000 = _
        rw [i4 (by omega)]
        omega
      · rw [e, List.getD_eq_getElem?_getD, List.getElem?_append_left (List.length_pos_iff.2 n0), ← List.getD_eq_getElem?_getD]
        exact i5 (by omega)
theorem zers_list (k : Nat) : unstr (zers k) = List.replicate k 48 := by
  show ud (Lib.repeatL [48] k) = _
  induction k with
  | zero => rfl
  | succ k ih =>
    show ud ([48] ++ Lib.repeatL [48] k) = _
    rw [List.replicate_succ, ← ih]
    rfl
theorem zeros_digs (k : Nat) : Digs (List.replicate k 48) := fun x hx => by
  rw [(List.mem_replicate.1 hx).2]
  decide
theorem sign_text (neg : Bool) : unstr (if neg then (⟨#[45]⟩ : ByteArray) else ⟨#[]⟩) = sgT neg := by cases neg <;> rfl
theorem cut_pre (s : ByteArray) (k : Nat) : unstr (s.extract 0 k) = (unstr s).take k := by
  have := cut_unstr s 0 k
  rw [Nat.zero_add, List.drop_zero] at this
  exact this
theorem cut_post (s : ByteArray) (k : Nat) (h : k ≤ s.size) : unstr (s.extract k s.size) = (unstr s).drop k := by
  have := cut_unstr s k (s.size - k)
  rw [show k + (s.size - k) = s.size by omega] at this
  rw [this, List.take_of_length_le (by rw [List.length_drop, unstr_length]; omega)]
/-- From a text of pieces of that value back to the number. -/
theorem back_of {d : Nm} (h : d.ok = true) (s : ByteArray) (W P E : List Int) (x : Int) (hW : Digs W) (hW0 : W ≠ []) (hWz : W.length = 1 ∨ W.getD 0 0 ≠ 48) (hP : Digs P) (hE : ExT E x)
    (hl : unstr s = sgT d.neg ++ W ++ ptT P ++ E) (hs : s.size ≤ 1000) (hx : -4000 ≤ x - (P.length : Int)) (hv : nv (W ++ P) * 10 ^ (x - (P.length : Int) - low).toNat = d.mag) : parseP s = (d, 0) := by
  obtain ⟨y, h1, h2, h3, h4⟩ := parse_pieces s d.neg W P E x hW hW0 hWz hP hE hl hs hx
  rw [hv] at h4
  rw [h1, Nm.uniq h2 (Nm.ok_norm h) h3 (low_ok h) h4, told_ok h]
theorem parse_zero : parseP ⟨#[48]⟩ = (Nm.zero, 0) := by kernel_rfl
theorem print_back {d : Nm} (h : d.ok = true) : parseP (printT d.neg d.dg d.ex) = (d, 0) := by
  have hn := Nm.ok_norm h
  have hL := Nm.ok_low h
  have hb : ¬ d.dg.size = 0 → -400 - (d.dg.size : Int) ≤ d.ex ∧ d.ex ≤ 400 - (d.dg.size : Int) := fun h0 => by
    have := dsane_bounds h h0
    exact ⟨this.2.1, this.2.2.1⟩
  unfold printT
  rw [if_pos (show dsane d.neg (unstr d.dg) d.ex = true from h)]
  by_cases hz : d.dg.size = 0
  · rw [if_pos hz, nm_zero h hz]
    exact parse_zero
  rw [if_neg hz]
  obtain ⟨b1, b2⟩ := hb hz
  have len : (unstr d.dg).length = d.dg.size := unstr_length _
  have ll : d.l = unstr d.dg := rfl
  have hd : Digs (unstr d.dg) := hn.n.dig
  have hne : unstr d.dg ≠ [] := l_full hz
  have hhd : (unstr d.dg).getD 0 0 ≠ 48 := by
    have := hn.n.fst
    rw [ll] at this
    cases e : unstr d.dg with
    | nil => exact absurd e hne
    | cons c t => exact this c t e
  have sgl : ∀ neg, (sgT neg).length ≤ 1 := fun neg => by cases neg <;> decide
  have mg : ∀ (N : Int) (p q : Nat), p = q → N * 10 ^ p = N * 10 ^ q := fun N p q e => by rw [e]
  unfold sizeT
  by_cases c1 : (d.dg.size : Int) ≤ (d.dg.size : Int) + d.ex ∧ (d.dg.size : Int) + d.ex ≤ 21
  · rw [if_pos c1]
    obtain ⟨k, hk⟩ : ∃ k : Nat, k = ((d.dg.size : Int) + d.ex - (d.dg.size : Int)).toNat := ⟨_, rfl⟩
    rw [← hk]
    have hl : unstr ((if d.neg then (⟨#[45]⟩ : ByteArray) else ⟨#[]⟩) ++ (d.dg ++ zers k)) = sgT d.neg ++ (unstr d.dg ++ List.replicate k 48) ++ ptT [] ++ [] := by
      rw [unstr_app, unstr_app, sign_text, zers_list]
      simp [ptT]
    refine back_of h _ (unstr d.dg ++ List.replicate k 48) [] [] 0 (hd.append (zeros_digs k)) (by simp [hne]) (.inr ?_) (fun x hx => by cases hx) .none hl ?_ (by decide) ?_
    · rw [List.getD_eq_getElem?_getD, List.getElem?_append_left (by omega), ← List.getD_eq_getElem?_getD]
      exact hhd
    · rw [← unstr_length, hl]
      have := sgl d.neg
      simp [ptT]
      omega
    · rw [List.append_nil, nv_append, nv_zeros, Int.add_zero, List.length_replicate, Int.mul_assoc, ← Int.pow_add]
      exact mg _ _ _ (by rw [low_eq]; show k + (0 - ((0 : Nat) : Int) - -4000).toNat = _; omega)
  rw [if_neg c1]
  by_cases c2 : 1 ≤ (d.dg.size : Int) + d.ex ∧ (d.dg.size : Int) + d.ex ≤ 21
  · rw [if_pos c2]
    obtain ⟨k, hk⟩ : ∃ k : Nat, k = ((d.dg.size : Int) + d.ex).toNat := ⟨_, rfl⟩
    rw [← hk]
    have hpe : (unstr d.dg).drop k ≠ [] := fun e => by
      have := congrArg List.length e
      rw [List.length_drop] at this
      simp at this
      omega
    have hl : unstr ((if d.neg then (⟨#[45]⟩ : ByteArray) else ⟨#[]⟩) ++ ((d.dg.extract 0 k ++ ⟨#[46]⟩) ++ d.dg.extract k d.dg.size)) = sgT d.neg ++ (unstr d.dg).take k ++ ptT ((unstr d.dg).drop k) ++ [] := by
      rw [unstr_app, unstr_app, unstr_app, sign_text, cut_pre, cut_post _ _ (by omega), show ptT ((unstr d.dg).drop k) = 46 :: (unstr d.dg).drop k from if_neg hpe]
      show _ ++ (_ ++ [46] ++ _) = _
      simp
    refine back_of h _ ((unstr d.dg).take k) ((unstr d.dg).drop k) [] 0 (fun x hx => hd x (List.mem_of_mem_take hx)) (fun e => ?_) (.inr ?_) (fun x hx => hd x (List.mem_of_mem_drop hx)) .none hl ?_ ?_ ?_
    · have := congrArg List.length e
      rw [List.length_take, List.length_nil] at this
      omega
    · rw [List.getD_eq_getElem?_getD, List.getElem?_take, if_pos (by omega), ← List.getD_eq_getElem?_getD]
      exact hhd
    · rw [← unstr_length, hl]
      have := sgl d.neg
      simp [ptT, hpe]
      omega
    · rw [List.length_drop]
      omega
    · rw [List.take_append_drop]
      exact mg _ _ _ (by rw [low_eq, List.length_drop]; omega)
  rw [if_neg c2]
  by_cases c3 : -5 ≤ (d.dg.size : Int) + d.ex ∧ (d.dg.size : Int) + d.ex ≤ 0
  · rw [if_pos c3]
    obtain ⟨k, hk⟩ : ∃ k : Nat, k = (-((d.dg.size : Int) + d.ex)).toNat := ⟨_, rfl⟩
    rw [← hk]
    have hpe : List.replicate k 48 ++ unstr d.dg ≠ [] := by simp [hne]
    have hl : unstr ((if d.neg then (⟨#[45]⟩ : ByteArray) else ⟨#[]⟩) ++ ((⟨#[48, 46]⟩ ++ zers k) ++ d.dg)) = sgT d.neg ++ [48] ++ ptT (List.replicate k 48 ++ unstr d.dg) ++ [] := by
      rw [unstr_app, unstr_app, unstr_app, sign_text, zers_list, show ptT (List.replicate k 48 ++ unstr d.dg) = 46 :: (List.replicate k 48 ++ unstr d.dg) from if_neg hpe]
      show _ ++ ([48, 46] ++ _ ++ _) = _
      simp
    refine back_of h _ [48] (List.replicate k 48 ++ unstr d.dg) [] 0 (fun x hx => by rw [List.mem_singleton.1 hx]; decide) (by simp) (.inl rfl) ((zeros_digs k).append hd) .none hl ?_ ?_ ?_
    · rw [← unstr_length, hl, show ptT (List.replicate k 48 ++ unstr d.dg) = 46 :: (List.replicate k 48 ++ unstr d.dg) from if_neg hpe]
      have := sgl d.neg
      simp
      omega
    · rw [List.length_append, List.length_replicate]
      omega
    · rw [nv_append, nv_append, nv_zeros, Int.zero_mul, Int.zero_add, show nv [48] = 0 from rfl, Int.zero_mul, Int.zero_add]
      exact mg _ _ _ (by rw [low_eq, List.length_append, List.length_replicate]; omega)
  rw [if_neg c3]
  unfold expT
  -- the head
  obtain ⟨W, P, eH, w0, wz, hW, hP, hWP, hPl, hsz⟩ : ∃ W P, unstr (headT d.dg) = W ++ ptT P ∧ W ≠ [] ∧ W.getD 0 0 ≠ 48 ∧ Digs W ∧ Digs P ∧ W ++ P = unstr d.dg ∧ P.length + 1 = d.dg.size ∧ (unstr (headT d.dg)).length ≤ 41 := by
    have hsz : (unstr (headT d.dg)).length ≤ 41 := by
      have := headT_size d.dg
      rw [unstr_length]
      omega
    unfold headT at hsz ⊢
    by_cases h1 : 1 < d.dg.size
    · rw [if_pos h1] at hsz ⊢
      have hpe : (unstr d.dg).drop 1 ≠ [] := fun e => by
        have := congrArg List.length e
        rw [List.length_drop] at this
        simp at this
        omega
      refine ⟨(unstr d.dg).take 1, (unstr d.dg).drop 1, ?_, fun e => ?_, ?_, fun x hx => hd x (List.mem_of_mem_take hx), fun x hx => hd x (List.mem_of_mem_drop hx), List.take_append_drop _ _, by rw [List.length_drop]; omega, hsz⟩
      · rw [unstr_app, unstr_app, cut_pre, cut_post _ _ (by omega), show ptT ((unstr d.dg).drop 1) = 46 :: (unstr d.dg).drop 1 from if_neg hpe]
        rfl
      · have := congrArg List.length e
        rw [List.length_take, List.length_nil] at this
        omega
      · rw [List.getD_eq_getElem?_getD, List.getElem?_take, if_pos (by omega), ← List.getD_eq_getElem?_getD]
        exact hhd
    · rw [if_neg h1] at hsz ⊢
      have e1 : (unstr d.dg).take 1 = unstr d.dg := List.take_of_length_le (by omega)
      refine ⟨unstr d.dg, [], ?_, hne, hhd, hd, (fun x hx => by cases hx), List.append_nil _, by show 0 + 1 = _; omega, hsz⟩
      rw [cut_pre, e1]
      exact (List.append_nil _).symm
  obtain ⟨E, x, hE, hx, eE, lE⟩ : ∃ E x, ExT E x ∧ x = (d.dg.size : Int) + d.ex - 1 ∧ unstr (if 0 < (d.dg.size : Int) + d.ex then (⟨#[101, 43]⟩ : ByteArray) else ⟨#[101]⟩) ++ unstr ⟨(Lib.itoa ((d.dg.size : Int) + d.ex - 1)).toArray⟩ = E ∧ E.length ≤ 23 := by
    have hlen := Lib.itoa_length_le ((d.dg.size : Int) + d.ex - 1) (by omega) (by omega)
    by_cases h1 : 0 < (d.dg.size : Int) + d.ex
    · obtain ⟨u, hu⟩ : ∃ u : Nat, (u : Int) = (d.dg.size : Int) + d.ex - 1 := ⟨((d.dg.size : Int) + d.ex - 1).toNat, by omega⟩
      obtain ⟨f1, f2, f3, f4, _⟩ := dec_facts u
      rw [if_pos h1, ← hu, Lib.itoa_nonneg, unstr_of]
      rw [← hu, Lib.itoa_nonneg] at hlen
      refine ⟨101 :: 43 :: ud (Lib.decDigits u), _, .plus 101 _ (.inl rfl) f1 (fun e => f2 (List.map_eq_nil_iff.1 e)), ?_, rfl, ?_⟩
      · rw [f4 (by omega)]
      · show (List.map _ _).length + 1 + 1 ≤ 23
        rw [List.length_map]
        omega
    · obtain ⟨u, hu⟩ : ∃ u : Nat, -(u : Int) = (d.dg.size : Int) + d.ex - 1 := ⟨(-((d.dg.size : Int) + d.ex - 1)).toNat, by omega⟩
      obtain ⟨f1, f2, f3, f4, _⟩ := dec_facts u
      rw [if_neg h1, ← hu, Lib.itoa_neg u (by omega), unstr_of]
      rw [← hu, Lib.itoa_neg u (by omega)] at hlen
      refine ⟨101 :: 45 :: ud (Lib.decDigits u), _, .minus 101 _ (.inl rfl) f1 (fun e => f2 (List.map_eq_nil_iff.1 e)), ?_, rfl, ?_⟩
      · rw [f4 (by omega)]
      · rw [List.length_cons] at hlen
        show (List.map _ _).length + 1 + 1 ≤ 23
        rw [List.length_map]
        omega
  have hl : unstr ((if d.neg then (⟨#[45]⟩ : ByteArray) else ⟨#[]⟩) ++ ((headT d.dg ++ (if 0 < (d.dg.size : Int) + d.ex then (⟨#[101, 43]⟩ : ByteArray) else ⟨#[101]⟩)) ++ ⟨(Lib.itoa ((d.dg.size : Int) + d.ex - 1)).toArray⟩)) = sgT d.neg ++ W ++ ptT P ++ E := by
    rw [unstr_app, unstr_app, unstr_app, sign_text, List.append_assoc, eE, eH, List.append_assoc, List.append_assoc, List.append_assoc]
  refine back_of h _ W P E x hW w0 (.inr wz) hP hE hl ?_ (by omega) ?_
  · rw [← unstr_length, hl, List.append_assoc (sgT d.neg), ← eH, List.length_append, List.length_append]
    have := sgl d.neg
    omega
  · rw [hWP]
    exact mg _ _ _ (by rw [low_eq]; omega)
end Go.Proofs.YtpnhgggdjlglnaaDoor.dk
