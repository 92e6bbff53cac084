/- Parts' bytes tell the parts. -/
import Derived.Test.YtebhbcbcnjdgjaaDoorV
namespace Go.Proofs.YtebhbcbcnjdgjaaDoor.dk
open Go.PlainAid Go.ChangeShapes Go.WideShapes Go.ChangeAt Go.RowKit

def escB (l : List UInt8) : List UInt8 := l.flatMap fun c => if c = 0 then [0, 255] else [c]
theorem replaceK_cons (b : UInt8) (hb : b ≠ 0) (l : List UInt8) (k : Nat) : Lib.replaceK [0] [0, 255] k (b :: l) = b :: Lib.replaceK [0] [0, 255] k l := by
  cases k with
  | zero => rfl
  | succ k =>
    have hp : ([0] : List UInt8).isPrefixOf (b :: l) = false := by simp [List.isPrefixOf, Ne.symm hb]
    have hix : Lib.index (b :: l) [0] = if Lib.index l [0] == -1 then -1 else Lib.index l [0] + 1 := by rw [Lib.index, hp]; simp
    by_cases hm : Lib.index l [0] = -1
    · rw [Lib.replaceK, Lib.replaceK, if_pos (by rw [hix, if_pos (beq_iff_eq.2 hm)]; rfl), if_pos (beq_iff_eq.2 hm)]
    · have hge := Lib.index_ge l [0]
      obtain ⟨j, hj⟩ : ∃ j : Nat, Lib.index l [0] = j := ⟨(Lib.index l [0]).toNat, by omega⟩
      have hix' : Lib.index (b :: l) [0] = ((j + 1 : Nat) : Int) := by rw [hix, if_neg (fun e => hm (beq_iff_eq.1 e)), hj]; omega
      rw [Lib.replaceK_hit _ _ _ _ _ hix', Lib.replaceK_hit _ _ _ _ _ hj]
      simp
theorem replaceK_zero (l : List UInt8) (k : Nat) : Lib.replaceK [0] [0, 255] (k + 1) (0 :: l) = 0 :: 255 :: Lib.replaceK [0] [0, 255] k l := by
  have hix : Lib.index (0 :: l) [0] = ((0 : Nat) : Int) := by rw [Lib.index]; simp [List.isPrefixOf]
  rw [Lib.replaceK_hit _ _ _ _ _ hix]
  simp
theorem replaceK_esc : ∀ (l : List UInt8) (k : Nat), Lib.count l [0] ≤ k → Lib.replaceK [0] [0, 255] k l = escB l
  | [], k, _ => by cases k <;> simp [Lib.replaceK, Lib.index, escB]
  | b :: l, k, h => by
    by_cases hb : b = 0
    · subst hb
      rw [Lib.count_cons_eq] at h
      obtain ⟨k', rfl⟩ : ∃ k', k = k' + 1 := ⟨k - 1, by omega⟩
      rw [replaceK_zero, replaceK_esc l k' (by omega)]
      simp [escB]
    · rw [Lib.count_cons_ne b 0 l hb] at h
      rw [replaceK_cons b hb, replaceK_esc l k h]
      simp [escB, hb]
/-- A text's bytes, each 0 doubled. -/
def esc (l : List Int) : List Int := l.flatMap fun c => if c = 0 then [0, 255] else [c]
theorem esc_map : ∀ (l : List UInt8), (escB l).map (fun b => (b.toNat : Int)) = esc (l.map fun b => (b.toNat : Int))
  | [] => rfl
  | b :: l => by
    have ih := esc_map l
    unfold escB esc at ih ⊢
    rw [List.flatMap_cons, List.map_append, ih, List.map_cons, List.flatMap_cons]
    congr 1
    by_cases hb : b = 0
    · subst hb; rfl
    · have : ¬ ((b.toNat : Int) = 0) := fun e => hb (UInt8.toNat_inj.1 (by simpa using e))
      rw [if_neg hb, if_neg this]
      rfl
theorem rep_esc (s : ByteArray) : rep s = esc (unstr s) := by
  unfold rep unstr
  rw [← esc_map]
  congr 1
  unfold Lib.replaceAll Lib.replace
  rw [if_neg (by decide)]
  have hk : Lib.replaceNum s.data.toList (⟨#[0]⟩ : ByteArray).data.toList (-1) = Lib.count s.data.toList [0] := by
    unfold Lib.replaceNum
    rw [if_pos (.inl (by decide))]
  rw [hk]
  show (Lib.replaceK [0] [0, 255] _ _) = _
  exact replaceK_esc _ _ (Nat.le_refl _)
theorem esc_cons (c : Int) (l : List Int) : esc (c :: l) = (if c = 0 then [0, 255] else [c]) ++ esc l := rfl
theorem esc_inj : ∀ (s t u v : List Int), esc s ++ 0 :: 0 :: u = esc t ++ 0 :: 0 :: v → s = t ∧ u = v
  | [], [], u, v, h => by simpa [esc] using h
  | [], c :: t, u, v, h => by
    rw [esc_cons] at h
    by_cases hc : c = 0
    · rw [if_pos hc] at h; simp [esc] at h
    · rw [if_neg hc] at h; simp [esc] at h; exact absurd h.1.symm hc
  | c :: s, [], u, v, h => by
    rw [esc_cons] at h
    by_cases hc : c = 0
    · rw [if_pos hc] at h; simp [esc] at h
    · rw [if_neg hc] at h; simp [esc] at h; exact absurd h.1 hc
  | c :: s, d :: t, u, v, h => by
    rw [esc_cons, esc_cons] at h
    by_cases hc : c = 0
    · by_cases hd : d = 0
      · rw [if_pos hc, if_pos hd] at h
        simp only [List.cons_append, List.nil_append, List.cons.injEq, true_and] at h
        obtain ⟨h1, h2⟩ := esc_inj s t u v h
        exact ⟨by rw [hc, hd, h1], h2⟩
      · rw [if_pos hc, if_neg hd] at h
        simp only [List.cons_append, List.nil_append, List.cons.injEq] at h
        exact absurd h.1.symm hd
    · by_cases hd : d = 0
      · rw [if_neg hc, if_pos hd] at h
        simp only [List.cons_append, List.nil_append, List.cons.injEq] at h
        exact absurd h.1 hc
      · rw [if_neg hc, if_neg hd] at h
        simp only [List.cons_append, List.nil_append, List.cons.injEq] at h
        obtain ⟨h1, h2⟩ := esc_inj s t u v h.2
        exact ⟨by rw [h.1, h1], h2⟩
/-- What ends by x, and holds none. -/
theorem end_inj (x : Int) : ∀ (a b u v : List Int), (∀ y ∈ a, y ≠ x) → (∀ y ∈ b, y ≠ x) → a ++ x :: u = b ++ x :: v → a = b ∧ u = v
  | [], [], u, v, _, _, h => by simpa using h
  | [], c :: b, u, v, _, hb, h => by
    simp only [List.nil_append, List.cons_append, List.cons.injEq] at h
    exact absurd h.1.symm (hb c (List.mem_cons_self ..))
  | c :: a, [], u, v, ha, _, h => by
    simp only [List.nil_append, List.cons_append, List.cons.injEq] at h
    exact absurd h.1 (ha c (List.mem_cons_self ..))
  | c :: a, d :: b, u, v, ha, hb, h => by
    simp only [List.cons_append, List.cons.injEq] at h
    obtain ⟨h1, h2⟩ := end_inj x a b u v (fun y hy => ha y (List.mem_cons_of_mem _ hy)) (fun y hy => hb y (List.mem_cons_of_mem _ hy)) h.2
    exact ⟨by rw [h.1, h1], h2⟩
theorem map_sub_inj : ∀ {a b : List Int}, a.map (fun c => c - 48 + 1) = b.map (fun c => c - 48 + 1) → a = b
  | [], [], _ => rfl
  | [], _ :: _, h => by simp at h
  | _ :: _, [], h => by simp at h
  | c :: a, d :: b, h => by
    simp only [List.map_cons, List.cons.injEq] at h
    rw [show c = d by omega, map_sub_inj h.2]
theorem flip_inj : ∀ {a b : List Int}, a.map (fun c => 255 - c) = b.map (fun c => 255 - c) → a = b
  | [], [], _ => rfl
  | [], _ :: _, h => by simp at h
  | _ :: _, [], h => by simp at h
  | c :: a, d :: b, h => by
    simp only [List.map_cons, List.cons.injEq] at h
    rw [show c = d by omega, flip_inj h.2]
theorem dig_bd {c : Int} (h : isDig c = true) : 48 ≤ c ∧ c ≤ 57 := by
  unfold isDig at h
  simp only [Bool.and_eq_true, decide_eq_true_eq] at h
  exact h
theorem nbytes_inj {n1 n2 : Bool} {l1 l2 : List Int} {h1 h2 : Int} {u v : List Int} (d1 : ∀ x ∈ l1, isDig x = true) (d2 : ∀ x ∈ l2, isDig x = true) (h : nbytes n1 l1 h1 ++ u = nbytes n2 l2 h2 ++ v) : n1 = n2 ∧ l1 = l2 ∧ h1 = h2 ∧ u = v := by
  unfold nbytes nsize nsz flipb at h
  simp only [List.take_length] at h
  cases n1 <;> cases n2 <;> simp only [Bool.false_eq_true, if_true, if_false, List.cons_append, List.nil_append, List.append_assoc, List.map_cons, List.map_append, List.map_nil, List.cons.injEq] at h
  · obtain ⟨_, e1, e2, e3⟩ := h
    obtain ⟨a1, a2⟩ := end_inj 0 _ _ _ _ (fun y hy => by obtain ⟨c, hc, rfl⟩ := List.mem_map.1 hy; have := dig_bd (d1 c hc); omega) (fun y hy => by obtain ⟨c, hc, rfl⟩ := List.mem_map.1 hy; have := dig_bd (d2 c hc); omega) e3
    exact ⟨rfl, map_sub_inj a1, by omega, a2⟩
  · exact absurd h.1 (by decide)
  · exact absurd h.1 (by decide)
  · obtain ⟨_, e1, e2, e3⟩ := h
    obtain ⟨a1, a2⟩ := end_inj (255 - 0) _ _ _ _ (fun y hy => by obtain ⟨z, hz, rfl⟩ := List.mem_map.1 hy; obtain ⟨c, hc, rfl⟩ := List.mem_map.1 hz; have := dig_bd (d1 c hc); omega) (fun y hy => by obtain ⟨z, hz, rfl⟩ := List.mem_map.1 hy; obtain ⟨c, hc, rfl⟩ := List.mem_map.1 hz; have := dig_bd (d2 c hc); omega) e3
    exact ⟨rfl, map_sub_inj (flip_inj a1), by omega, a2⟩
/-- The parts that may be. -/
inductive PS : Pt → Prop
  | null : PS ⟨0, false, false, ⟨#[]⟩, 0, ⟨#[]⟩, 0⟩
  | bool (b : Bool) : PS ⟨1, b, false, ⟨#[]⟩, 0, ⟨#[]⟩, 0⟩
  | zero : PS ⟨2, false, false, ⟨#[]⟩, 0, ⟨#[]⟩, 0⟩
  | num (neg : Bool) (dg : ByteArray) (ex : Int) (h0 : dg.size ≠ 0) (h40 : dg.size ≤ 40) (hd : ∀ x ∈ unstr dg, isDig x = true) (h1 : 0 ≤ (dg.size : Int) + ex + 1000) (h2 : (dg.size : Int) + ex + 1000 ≤ 65535) : PS ⟨2, false, neg, dg, ex, ⟨#[]⟩, 0⟩
  | text (s : ByteArray) : PS ⟨3, false, false, ⟨#[]⟩, 0, s, 0⟩
  | whole (i : Int) (h0 : 0 ≤ i) (h1 : i ≤ 4294967295) : PS ⟨9, false, false, ⟨#[]⟩, 0, ⟨#[]⟩, i⟩
theorem ps_of (q : Pt) (hq : psane q = true) : PS q := by
  obtain ⟨k, x, neg, dg, ex, s, i⟩ := q
  unfold psane at hq
  simp only [Bool.and_eq_true, Bool.or_eq_true, decide_eq_true_eq, Bool.not_eq_true', and_assoc] at hq
  obtain ⟨hk, hb, hn, hs, hi, hsane, hi0, hi1⟩ := hq
  rcases hk with (((rfl | rfl) | rfl) | rfl) | rfl
  · obtain rfl : x = false := by rcases hb with h | h; omega; exact h
    obtain ⟨rfl, hd, rfl⟩ : neg = false ∧ dg.size = 0 ∧ ex = 0 := by rcases hn with h | h; omega; exact h
    obtain rfl := ba_nil hd
    obtain rfl := ba_nil (a := s) (by rcases hs with h | h; omega; exact h)
    obtain rfl : i = 0 := by rcases hi with h | h; omega; exact h
    exact .null
  · obtain ⟨rfl, hd, rfl⟩ : neg = false ∧ dg.size = 0 ∧ ex = 0 := by rcases hn with h | h; omega; exact h
    obtain rfl := ba_nil hd
    obtain rfl := ba_nil (a := s) (by rcases hs with h | h; omega; exact h)
    obtain rfl : i = 0 := by rcases hi with h | h; omega; exact h
    exact .bool x
  · obtain rfl : x = false := by rcases hb with h | h; omega; exact h
    obtain rfl := ba_nil (a := s) (by rcases hs with h | h; omega; exact h)
    obtain rfl : i = 0 := by rcases hi with h | h; omega; exact h
    by_cases hd : dg.size = 0
    · obtain rfl := ba_nil hd
      unfold dsane at hsane
      rw [if_pos (show (unstr ⟨#[]⟩).length = 0 from rfl)] at hsane
      simp only [Bool.and_eq_true, decide_eq_true_eq, Bool.not_eq_true'] at hsane
      obtain ⟨rfl, rfl⟩ := hsane
      exact .zero
    · obtain ⟨h40, hdig, he0, he1⟩ := dsane_dig hsane (fun e => hd (by rw [← unstr_length, e]; rfl))
      rw [unstr_length] at h40 he0 he1
      exact .num neg dg ex hd h40 hdig he0 he1
  · obtain rfl : x = false := by rcases hb with h | h; omega; exact h
    obtain ⟨rfl, hd, rfl⟩ : neg = false ∧ dg.size = 0 ∧ ex = 0 := by rcases hn with h | h; omega; exact h
    obtain rfl := ba_nil hd
    obtain rfl : i = 0 := by rcases hi with h | h; omega; exact h
    exact .text s
  · obtain rfl : x = false := by rcases hb with h | h; omega; exact h
    obtain ⟨rfl, hd, rfl⟩ : neg = false ∧ dg.size = 0 ∧ ex = 0 := by rcases hn with h | h; omega; exact h
    obtain rfl := ba_nil hd
    obtain rfl := ba_nil (a := s) (by rcases hs with h | h; omega; exact h)
    exact .whole i hi0 hi1
theorem penc_null : penc ⟨0, false, false, ⟨#[]⟩, 0, ⟨#[]⟩, 0⟩ = [16] := rfl
theorem penc_bool (b : Bool) : penc ⟨1, b, false, ⟨#[]⟩, 0, ⟨#[]⟩, 0⟩ = [if b = true then 33 else 32] := by cases b <;> rfl
theorem penc_zero : penc ⟨2, false, false, ⟨#[]⟩, 0, ⟨#[]⟩, 0⟩ = [49] := rfl
theorem penc_num (neg : Bool) (dg : ByteArray) (ex : Int) (h0 : dg.size ≠ 0) : penc ⟨2, false, neg, dg, ex, ⟨#[]⟩, 0⟩ = nbytes neg (unstr dg) ((dg.size : Int) + ex + 1000) := by
  unfold penc
  dsimp only
  rw [if_neg (by decide), if_pos rfl, if_neg h0]
theorem penc_text (s : ByteArray) : penc ⟨3, false, false, ⟨#[]⟩, 0, s, 0⟩ = 64 :: (esc (unstr s) ++ [0, 0]) := by
  unfold penc
  dsimp only
  rw [if_neg (by decide), if_neg (by decide), if_pos rfl, rep_esc]
  rfl
theorem penc_whole (i : Int) : penc ⟨9, false, false, ⟨#[]⟩, 0, ⟨#[]⟩, i⟩ = [80, i / 16777216, i / 65536 % 256, i / 256 % 256, i % 256] := by
  unfold penc
  dsimp only
  rw [if_neg (by decide), if_neg (by decide), if_neg (by decide), if_pos rfl]
/-- By what byte a number begins. -/
theorem nbytes_head (neg : Bool) (l : List Int) (h : Int) : ∃ t, nbytes neg l h = (if neg = true then 48 else 50) :: t := by
  cases neg <;> exact ⟨_, rfl⟩
theorem unstr_inj {a b : ByteArray} (h : unstr a = unstr b) : a = b := by rw [← strOf_unstr a, h, strOf_unstr]
/-- A part's bytes, whatever follows, are those of no other part. -/
theorem penc_inj {p q : Pt} {u v : List Int} (hp : PS p) (hq : PS q) (h : penc p ++ u = penc q ++ v) : p = q ∧ u = v := by
  have num_head : ∀ (neg : Bool) (l : List Int) (x : Int) (c : Int) (r s : List Int), nbytes neg l x ++ r = c :: s → c = 48 ∨ c = 50 := by
    intro neg l x c r s e
    obtain ⟨t, ht⟩ := nbytes_head neg l x
    rw [ht, List.cons_append, List.cons.injEq] at e
    cases neg
    · right; exact e.1.symm
    · left; exact e.1.symm
  cases hp with
  | null =>
    rw [penc_null] at h
    cases hq with
    | null => rw [penc_null] at h; simpa using h
    | bool b => rw [penc_bool] at h; cases b <;> simp at h
    | zero => rw [penc_zero] at h; simp at h
    | num neg dg ex h0 h40 hd h1 h2 => rw [penc_num _ _ _ h0] at h; have := num_head _ _ _ _ _ _ h.symm; omega
    | text s => rw [penc_text] at h; simp at h
    | whole i h0 h1 => rw [penc_whole] at h; simp at h
  | bool b =>
    rw [penc_bool] at h
    cases hq with
    | null => rw [penc_null] at h; cases b <;> simp at h
    | bool c => rw [penc_bool] at h; cases b <;> cases c <;> simp at h <;> exact ⟨rfl, h⟩
    | zero => rw [penc_zero] at h; cases b <;> simp at h
    | num neg dg ex h0 h40 hd h1 h2 => rw [penc_num _ _ _ h0] at h; have := num_head _ _ _ _ _ _ h.symm; cases b <;> simp at this
    | text s => rw [penc_text] at h; cases b <;> simp at h
    | whole i h0 h1 => rw [penc_whole] at h; cases b <;> simp at h
  | zero =>
    rw [penc_zero] at h
    cases hq with
    | null => rw [penc_null] at h; simp at h
    | bool b => rw [penc_bool] at h; cases b <;> simp at h
    | zero => rw [penc_zero] at h; simpa using h
    | num neg dg ex h0 h40 hd h1 h2 => rw [penc_num _ _ _ h0] at h; have := num_head _ _ _ _ _ _ h.symm; omega
    | text s => rw [penc_text] at h; simp at h
    | whole i h0 h1 => rw [penc_whole] at h; simp at h
  | num neg dg ex h0 h40 hd h1 h2 =>
    rw [penc_num _ _ _ h0] at h
    cases hq with
    | null => rw [penc_null] at h; have := num_head _ _ _ _ _ _ h; omega
    | bool b => rw [penc_bool] at h; have := num_head _ _ _ _ _ _ h; cases b <;> simp at this
    | zero => rw [penc_zero] at h; have := num_head _ _ _ _ _ _ h; omega
    | num neg' dg' ex' h0' h40' hd' h1' h2' =>
      rw [penc_num _ _ _ h0'] at h
      obtain ⟨rfl, e2, e3, e4⟩ := nbytes_inj hd hd' h
      obtain rfl := unstr_inj e2
      obtain rfl : ex = ex' := by omega
      exact ⟨rfl, e4⟩
    | text s => rw [penc_text] at h; have := num_head _ _ _ _ _ _ h; omega
    | whole i h0 h1 => rw [penc_whole] at h; have := num_head _ _ _ _ _ _ h; omega
  | text s =>
    rw [penc_text] at h
    cases hq with
    | null => rw [penc_null] at h; simp at h
    | bool b => rw [penc_bool] at h; cases b <;> simp at h
    | zero => rw [penc_zero] at h; simp at h
    | num neg dg ex h0 h40 hd h1 h2 => rw [penc_num _ _ _ h0] at h; have := num_head _ _ _ _ _ _ h.symm; omega
    | text t =>
      rw [penc_text] at h
      simp only [List.cons_append, List.append_assoc, List.nil_append, List.cons.injEq, true_and] at h
      obtain ⟨e1, e2⟩ := esc_inj _ _ _ _ h
      obtain rfl := unstr_inj e1
      exact ⟨rfl, e2⟩
    | whole i h0 h1 => rw [penc_whole] at h; simp at h
  | whole i h0 h1 =>
    rw [penc_whole] at h
    cases hq with
    | null => rw [penc_null] at h; simp at h
    | bool b => rw [penc_bool] at h; cases b <;> simp at h
    | zero => rw [penc_zero] at h; simp at h
    | num neg dg ex h0 h40 hd h1 h2 => rw [penc_num _ _ _ h0] at h; have := num_head _ _ _ _ _ _ h.symm; omega
    | text s => rw [penc_text] at h; simp at h
    | whole j h0' h1' =>
      rw [penc_whole] at h
      simp only [List.cons_append, List.nil_append, List.cons.injEq, true_and] at h
      obtain ⟨e1, e2, e3, e4, e5⟩ := h
      obtain rfl : i = j := by omega
      exact ⟨rfl, e5⟩
theorem penc_ne {q : Pt} (h : PS q) : penc q ≠ [] := by
  cases h with
  | null => rw [penc_null]; simp
  | bool b => rw [penc_bool]; simp
  | zero => rw [penc_zero]; simp
  | num neg dg ex h0 h40 hd h1 h2 => rw [penc_num _ _ _ h0]; obtain ⟨t, ht⟩ := nbytes_head neg (unstr dg) ((dg.size : Int) + ex + 1000); rw [ht]; simp
  | text s => rw [penc_text]; simp
  | whole i h0 h1 => rw [penc_whole]; simp
theorem unstr_bys (s : ByteArray) : Bys (unstr s) := by
  intro x hx
  obtain ⟨b, _, rfl⟩ := List.mem_map.1 hx
  have := b.toNat_lt
  omega
theorem esc_bys {l : List Int} (h : Bys l) : Bys (esc l) := by
  intro x hx
  obtain ⟨c, hc, hx⟩ := List.mem_flatMap.1 hx
  split at hx
  · simp only [List.mem_cons, List.not_mem_nil, or_false] at hx; omega
  · rw [List.mem_singleton.1 hx]; exact h c hc
theorem penc_bys {q : Pt} (h : PS q) : Bys (penc q) := by
  cases h with
  | null => rw [penc_null]; exact Bys.cons (by omega) Bys.nil
  | bool b => rw [penc_bool]; cases b <;> exact Bys.cons (by decide) Bys.nil
  | zero => rw [penc_zero]; exact Bys.cons (by omega) Bys.nil
  | num neg dg ex h0 h40 hd h1 h2 =>
    rw [penc_num _ _ _ h0]
    have hn := nsize_bys hd ((dg.size : Int) + ex + 1000) h1 h2
    unfold nbytes
    split
    · exact Bys.cons (by omega) (flip_bys hn)
    · exact Bys.cons (by omega) hn
  | text s => rw [penc_text]; exact Bys.cons (by omega) ((esc_bys (unstr_bys s)).app (Bys.cons (by omega) (Bys.cons (by omega) Bys.nil)))
  | whole i h0 h1 => rw [penc_whole]; exact Bys.cons (by omega) (Bys.cons (by omega) (Bys.cons (by omega) (Bys.cons (by omega) (Bys.cons (by omega) Bys.nil))))
theorem encOf_bys : ∀ (l : List Pt), (∀ q ∈ l, PS q) → Bys (encOf l)
  | [], _ => Bys.nil
  | q :: l, h => (penc_bys (h q (List.mem_cons_self ..))).app (encOf_bys l fun x hx => h x (List.mem_cons_of_mem _ hx))
theorem encOf_cons (q : Pt) (l : List Pt) : encOf (q :: l) = penc q ++ encOf l := rfl
/-- Bytes begin with others just if the parts do. -/
theorem enc_prefix : ∀ (a b : List Pt), (∀ q ∈ a, PS q) → (∀ q ∈ b, PS q) → ((∃ r, encOf a ++ r = encOf b) ↔ ∃ r, a ++ r = b)
  | [], b, _, _ => by constructor; exact fun _ => ⟨b, rfl⟩; exact fun _ => ⟨encOf b, rfl⟩
  | p :: a, [], hp, _ => by
    constructor
    · rintro ⟨r, h⟩
      rw [encOf_cons, List.append_assoc] at h
      have := (List.append_eq_nil_iff.1 h).1
      exact absurd this (penc_ne (hp p (List.mem_cons_self ..)))
    · rintro ⟨r, h⟩; simp at h
  | p :: a, q :: b, hp, hq => by
    have ih := enc_prefix a b (fun x hx => hp x (List.mem_cons_of_mem _ hx)) (fun x hx => hq x (List.mem_cons_of_mem _ hx))
    constructor
    · rintro ⟨r, h⟩
      rw [encOf_cons, encOf_cons, List.append_assoc] at h
      obtain ⟨rfl, h2⟩ := penc_inj (hp p (List.mem_cons_self ..)) (hq q (List.mem_cons_self ..)) h
      obtain ⟨r', hr'⟩ := ih.1 ⟨r, h2⟩
      exact ⟨r', by rw [List.cons_append, hr']⟩
    · rintro ⟨r, h⟩
      rw [List.cons_append, List.cons.injEq] at h
      obtain ⟨rfl, h2⟩ := h
      obtain ⟨r', hr'⟩ := ih.2 ⟨r, h2⟩
      exact ⟨r', by rw [encOf_cons, encOf_cons, List.append_assoc, hr']⟩
end Go.Proofs.YtebhbcbcnjdgjaaDoor.dk
