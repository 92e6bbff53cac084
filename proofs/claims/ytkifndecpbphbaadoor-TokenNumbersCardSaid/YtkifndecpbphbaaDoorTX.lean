/- All the tokens: of two texts with white between; one behind the other. -/
import Derived.Test.YtkifndecpbphbaaDoorTW
namespace Go.Proofs.YtkifndecpbphbaaDoor.dk
open Go.PlainAid Go.ChangeShapes Go.WideShapes Go.ChangeAt Go.RowKit

/-- What the loop does at a place. -/
theorem allT_end {l : List Int} (hO : utf.Oct l) {k : Nat} (hk : k ≤ l.length) (h : toF l k = l.length) : allT l k = ([], 0) := by
  rw [allT_step hO hk, h, List.drop_length]
  rfl
theorem allT_more {l : List Int} (hO : utf.Oct l) {k : Nat} (hk : k ≤ l.length) {F : Fs} (hF : firstFs (l.drop (toF l k)) = F) (he : F.e = 0) (hq : F.t.kind ≠ 0) : allT l k = consF (F.t, toF l k, toF l k + F.n) (allT l (toF l k + F.n)) := by
  rw [allT_step hO hk, hF]
  unfold allC
  rw [if_neg (by rw [he]; simp), if_neg hq]
theorem consF_ok {x : TT} {q : TR} {r : List TT} (h : consF x q = (r, 0)) : ∃ r', q = (r', 0) ∧ r = x :: r' := by
  obtain ⟨q1, q2⟩ := q
  unfold consF at h
  dsimp only at h
  by_cases h0 : q2 = 0
  · subst h0
    rw [if_neg (by simp)] at h
    injection h with h1 _
    exact ⟨q1, rfl, h1.symm⟩
  · rw [if_pos h0] at h
    injection h with _ h2
    exact absurd h2 h0
/-- Tokens lie one behind the other from a place on. -/
inductive Chain (l : List Int) : Nat → List TT → Prop where
  | nil (k : Nat) (hk : k ≤ l.length) (h : toF l k = l.length) : Chain l k []
  | cons (k : Nat) (hk : k ≤ l.length) (t : Tk) (n : Nat) (r : List TT) (hn : 1 ≤ n) (hle : toF l k + n ≤ l.length) (hF : firstFs (l.drop (toF l k)) = ⟨t, n, 0⟩) (hq : t.kind ≠ 0) (h : Chain l (toF l k + n) r) : Chain l k ((t, toF l k, toF l k + n) :: r)
theorem chain_of : ∀ (N : Nat) {l : List Int}, utf.Oct l → ∀ {k : Nat} {r : List TT}, l.length - k ≤ N → k ≤ l.length → allT l k = (r, 0) → Chain l k r := by
  intro N
  induction N with
  | zero =>
    intro l hO k r hN hk h
    have hle := toF_le (l := l) hk
    have e : toF l k = l.length := by omega
    rw [allT_end hO hk e] at h
    injection h with h _
    subst h
    exact .nil k hk e
  | succ N ih =>
    intro l hO k r hN hk h
    have hle := toF_le (l := l) hk
    by_cases e : toF l k = l.length
    · rw [allT_end hO hk e] at h
      injection h with h _
      subst h
      exact .nil k hk e
    have hO' := hO.drop (toF l k)
    have hne : l.drop (toF l k) ≠ [] := (drop_cons_at (by omega)).2
    have hok := first_ok hO'
    obtain ⟨F, hF⟩ : ∃ F, firstFs (l.drop (toF l k)) = F := ⟨_, rfl⟩
    rw [hF, List.length_drop] at hok
    rw [allT_step hO hk, hF] at h
    unfold allC at h
    by_cases he : F.e = 0
    · have h2 := hok.2.1 he hne
      rw [if_neg (by rw [he]; simp), if_neg h2.1] at h
      obtain ⟨r', hq, rfl⟩ := consF_ok h
      have := ih hO (k := toF l k + F.n) (by omega) (by omega) hq
      refine .cons k hk F.t F.n r' h2.2 (by omega) ?_ h2.1 this
      rw [hF, ← he]
    · rw [if_pos he] at h
      injection h with _ h
      exact absurd h he
theorem Chain.all {l : List Int} (hO : utf.Oct l) {k : Nat} {r : List TT} (h : Chain l k r) : allT l k = (r, 0) := by
  induction h with
  | nil k hk e => exact allT_end hO hk e
  | cons k hk t n r hn hle hF hq h ih =>
    rw [allT_more hO hk hF rfl hq, ih]
    unfold consF
    rw [if_neg (by simp)]
/-- The first character behind white is none. -/
theorem wsF_stop : ∀ {l : List Int}, wsF l < l.length → isWh (l.getD (wsF l) 0) = false
  | [], h => by cases h
  | c :: t, h => by
    unfold wsF at h ⊢
    by_cases hc : isWh c = true
    · rw [if_pos hc] at h ⊢
      exact wsF_stop (l := t) (by simpa using h)
    · rw [if_neg hc]
      simpa using hc
theorem toF_char {l : List Int} {k : Nat} (h : toF l k < l.length) : isWh (l.getD (toF l k) 0) = false := by
  unfold toF at h ⊢
  have := wsF_stop (l := l.drop k) (by rw [List.length_drop]; omega)
  rwa [getD_drop] at this
theorem wsF_white : ∀ {l : List Int} {j : Nat}, j < wsF l → isWh (l.getD j 0) = true
  | [], j, h => by cases h
  | c :: t, j, h => by
    unfold wsF at h
    by_cases hc : isWh c = true
    · rw [if_pos hc] at h
      cases j with
      | zero => exact hc
      | succ j => exact wsF_white (l := t) (j := j) (by omega)
    · rw [if_neg hc] at h; cases h
theorem toF_white {l : List Int} {k j : Nat} (h1 : k ≤ j) (h2 : j < toF l k) : isWh (l.getD j 0) = true := by
  unfold toF at h2
  have := wsF_white (l := l.drop k) (j := j - k) (by omega)
  rwa [getD_drop, show k + (j - k) = j by omega] at this
/-- A place to which white leads. -/
theorem toF_is : ∀ (n : Nat) {l : List Int} {k p : Nat}, p - k ≤ n → k ≤ p → p ≤ l.length → (∀ j, k ≤ j → j < p → isWh (l.getD j 0) = true) → (p < l.length → isWh (l.getD p 0) = false) → toF l k = p := by
  intro n
  induction n with
  | zero =>
    intro l k p hn hk hp h1 h2
    have e : k = p := by omega
    subst e
    exact toF_stop h2
  | succ n ih =>
    intro l k p hn hk hp h1 h2
    by_cases e : k = p
    · subst e
      exact toF_stop h2
    · rw [toF_on (by omega) (h1 k (Nat.le_refl _) (by omega))]
      exact ih (by omega) (by omega) hp (fun j hj => h1 j (by omega)) h2
theorem consF_joinF (x : TT) (r : List TT) (q : TR) : consF x (joinF r q) = joinF (x :: r) q := by
  obtain ⟨q1, q2⟩ := q
  by_cases h0 : q2 = 0
  · subst h0
    rfl
  · have e : joinF r (q1, q2) = ([], q2) := if_pos h0
    have e2 : joinF (x :: r) (q1, q2) = ([], q2) := if_pos h0
    rw [e, e2]
    exact if_pos h0
theorem joinF_none' (q : TR) (h : q.2 = 0 ∨ q.1 = []) : joinF [] q = q := by
  obtain ⟨q1, q2⟩ := q
  unfold joinF
  dsimp only at h ⊢
  by_cases h0 : q2 = 0
  · subst h0
    rw [if_neg (by simp)]
    rfl
  · rw [if_pos h0]
    rcases h with h | h
    · exact absurd h h0
    · rw [h]
theorem allT_err (l : List Int) (k : Nat) : (allT l k).2 = 0 ∨ (allT l k).1 = [] := by
  have h := joinF_none l (l.length + 1 - k) k
  by_cases h0 : (allT l k).2 = 0
  · exact .inl h0
  · refine .inr ?_
    have h' : joinF [] (allT l k) = allT l k := h
    rw [← h']
    unfold joinF
    rw [if_pos h0]
/-- Two texts with a line's end between: the first one's tokens. -/
theorem join_left {a b : List Int} (ha : utf.Oct a) (hb : utf.Oct b) {k : Nat} {r : List TT} (h : Chain a k r) : allT (a ++ 10 :: b) k = joinF r (allT (a ++ 10 :: b) (a.length + 1)) := by
  have hO : utf.Oct (a ++ 10 :: b) := oct_app ha (oct_cons (by decide) hb)
  have hlen : (a ++ 10 :: b).length = a.length + (b.length + 1) := by rw [List.length_append, List.length_cons]
  induction h with
  | nil k hk e =>
    have e2 : toF (a ++ 10 :: b) k = toF (a ++ 10 :: b) (a.length + 1) := by
      have hle := toF_le (l := a ++ 10 :: b) (k := a.length + 1) (by omega)
      refine toF_is _ (Nat.le_refl _) (by omega) hle.2 (fun j h1 h2 => ?_) (fun h => toF_char h)
      by_cases hj : j < a.length
      · rw [app_at hj]
        exact toF_white h1 (by omega)
      · by_cases hj2 : j = a.length
        · subst hj2; rw [app_end]; rfl
        · exact toF_white (k := a.length + 1) (by omega) h2
    rw [joinF_none' _ (allT_err _ _), allT_step hO (by omega), allT_step hO (k := a.length + 1) (by omega), e2]
  | cons k hk t n r hn hle hF hq h ih =>
    have hlt : toF a k < a.length := by omega
    have e2 : toF (a ++ 10 :: b) k = toF a k := by
      have hle2 := toF_le (l := a) hk
      refine toF_is _ (Nat.le_refl _) hle2.1 (by omega) (fun j h1 h2 => ?_) (fun _ => ?_)
      · rw [app_at (by omega)]
        exact toF_white h1 h2
      · rw [app_at hlt]
        exact toF_char hlt
    have hF2 : firstFs ((a ++ 10 :: b).drop (toF (a ++ 10 :: b) k)) = ⟨t, n, 0⟩ := by
      rw [e2, List.drop_append_of_le_length (by omega)]
      rw [first_app (ha.drop _) hb (drop_cons_at hlt).2 (by rw [hF]), hF]
    rw [allT_more hO (by omega) hF2 rfl hq, e2]
    dsimp only
    rw [ih]
    exact consF_joinF _ _ _
def mvT (d : Nat) (x : TT) : TT := (x.1, d + x.2.1, d + x.2.2)
theorem join_right {a b : List Int} {k : Nat} {r : List TT} (h : Chain b k r) : Chain (a ++ 10 :: b) (a.length + 1 + k) (r.map (mvT (a.length + 1))) := by
  have hlen : (a ++ 10 :: b).length = a.length + (b.length + 1) := by rw [List.length_append, List.length_cons]
  have hdr : ∀ j, (a ++ 10 :: b).drop (a.length + 1 + j) = b.drop j := fun j => by
    rw [← List.drop_drop, ← List.drop_drop, List.drop_append_of_le_length (Nat.le_refl _), List.drop_length]
    rfl
  have htF : ∀ j, toF (a ++ 10 :: b) (a.length + 1 + j) = a.length + 1 + toF b j := fun j => by
    unfold toF
    rw [hdr]
    omega
  induction h with
  | nil k hk e => exact .nil _ (by omega) (by rw [htF, e]; omega)
  | cons k hk t n r hn hle hF hq h ih =>
    have e := Chain.cons (l := a ++ 10 :: b) (a.length + 1 + k) (by omega) t n (r.map (mvT (a.length + 1))) hn (by rw [htF]; omega) (by rw [htF, hdr]; exact hF) hq (by rw [htF, Nat.add_assoc]; exact ih)
    rw [htF] at e
    show Chain _ _ ((t, a.length + 1 + toF b k, a.length + 1 + (toF b k + n)) :: _)
    rw [← Nat.add_assoc]
    exact e
theorem all_join {a b : List Int} (ha : utf.Oct a) (hb : utf.Oct b) {r q : List TT} (h1 : Chain a 0 r) (h2 : Chain b 0 q) : allT (a ++ 10 :: b) 0 = (r ++ q.map (mvT (a.length + 1)), 0) := by
  have hO : utf.Oct (a ++ 10 :: b) := oct_app ha (oct_cons (by decide) hb)
  have h := (join_right (a := a) h2).all hO
  rw [Nat.add_zero] at h
  rw [join_left ha hb h1, h]
  unfold joinF
  rw [if_neg (by simp)]
/-- A token of a chain is one by itself. -/
theorem one_self {l : List Int} (hO : utf.Oct l) {k n : Nat} {t : Tk} (hle : toF l k + n ≤ l.length) (hn : 1 ≤ n) (hF : firstFs (l.drop (toF l k)) = ⟨t, n, 0⟩) (hq : t.kind ≠ 0) :
    allT ((l.drop (toF l k)).take n) 0 = ([(t, 0, n)], 0) := by
  have hO1 := hO.drop (toF l k)
  have hO2 := oct_take hO1 n
  have hl : ((l.drop (toF l k)).take n).length = n := by rw [List.length_take, List.length_drop]; omega
  have hne : l.drop (toF l k) ≠ [] := (drop_cons_at (by omega)).2
  have hft := first_take hO1 hne (by rw [hF])
  rw [hF] at hft
  have h0 : toF ((l.drop (toF l k)).take n) 0 = 0 := by
    refine toF_stop fun _ => ?_
    rw [(Ag.take (a := l.drop (toF l k)) (p := n) (by rw [List.length_drop]; omega)).at (by omega), getD_drop, Nat.add_zero]
    exact toF_char (by omega)
  have hc : Chain ((l.drop (toF l k)).take n) 0 [(t, toF ((l.drop (toF l k)).take n) 0, toF ((l.drop (toF l k)).take n) 0 + n)] := by
    refine .cons 0 (Nat.zero_le _) t n [] hn (by rw [h0]; omega) (by rw [h0]; exact hft) hq (.nil _ (by rw [h0]; omega) ?_)
    rw [h0, toF_stop (fun hh => absurd hh (by omega))]
    omega
  have e := hc.all hO2
  rw [h0, Nat.zero_add] at e
  exact e
end Go.Proofs.YtkifndecpbphbaaDoor.dk
