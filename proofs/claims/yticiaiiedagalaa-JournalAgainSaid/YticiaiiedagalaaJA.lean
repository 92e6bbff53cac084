/- Pieces of a record, as lists of bytes; which records lie in a part: plain functions. -/
import Derived.Test.YticiaiiedagalaaDG
namespace Go.Proofs.Yticiaiiedagalaa.dk
open Go.PlainAid Go.ChangeShapes Go.WideShapes Go.ChangeAt Go.RowKit

def Bys (l : List Int) : Prop := ∀ x ∈ l, 0 ≤ x ∧ x ≤ 255
/-- Bytes as a number, the high one first. -/
def hi (l : List Int) : Int := l.foldl (fun n c => (n * 256 + c) % 4294967296) 0
theorem hi_snoc (l : List Int) (c : Int) : hi (l ++ [c]) = (hi l * 256 + c) % 4294967296 := by simp [hi]
theorem hi_bd (l : List Int) : 0 ≤ hi l ∧ hi l ≤ 4294967295 := by
  rcases List.eq_nil_or_concat l with rfl | ⟨l', x, rfl⟩
  · simp [hi]
  · rw [List.concat_eq_append, hi_snoc]; omega
def by4 (x : Int) : List Int := [x / 16777216 % 256, x / 65536 % 256, x / 256 % 256, x / 1 % 256]
def by2 (x : Int) : List Int := [x / 256 % 256, x / 1 % 256]
theorem hi_by4 (x : Int) (h0 : 0 ≤ x) (h1 : x ≤ 4294967295) : hi (by4 x) = x := by
  simp only [hi, by4, List.foldl_cons, List.foldl_nil]
  omega
theorem hi_by2 (x : Int) (h0 : 0 ≤ x) (h1 : x ≤ 65535) : hi (by2 x) = x := by
  simp only [hi, by2, List.foldl_cons, List.foldl_nil]
  omega
/-- A piece's bytes. -/
def mk (s n p c : Int) (b : List Int) : List Int := [165, 90] ++ by4 s ++ by4 n ++ by2 p ++ by2 c ++ [(b.length : Int), 0] ++ b ++ List.replicate (48 - b.length) 0
theorem mk_length (s n p c : Int) (b : List Int) (h : b.length ≤ 48) : (mk s n p c b).length = 64 := by
  simp [mk, by4, by2]; omega
theorem Bys.app {a b : List Int} (ha : Bys a) (hb : Bys b) : Bys (a ++ b) := fun x hx => by
  rcases List.mem_append.1 hx with h | h
  · exact ha x h
  · exact hb x h
theorem Bys.rep (n : Nat) : Bys (List.replicate n 0) := fun x hx => by
  rw [(List.mem_replicate.1 hx).2]; omega
theorem Bys.nil : Bys [] := fun x hx => by cases hx
theorem Bys.cons {a : Int} {l : List Int} (h : 0 ≤ a ∧ a ≤ 255) (hl : Bys l) : Bys (a :: l) := fun x hx => by
  rcases List.mem_cons.1 hx with rfl | h'
  · exact h
  · exact hl x h'
theorem Bys.sub {a b : List Int} (ha : Bys a) (h : ∀ x ∈ b, x ∈ a) : Bys b := fun x hx => ha x (h x hx)
theorem Bys.take {a : List Int} (ha : Bys a) (n : Nat) : Bys (a.take n) := ha.sub fun _ h => List.mem_of_mem_take h
theorem Bys.drop {a : List Int} (ha : Bys a) (n : Nat) : Bys (a.drop n) := ha.sub fun _ h => List.mem_of_mem_drop h
theorem mk_bys (s n p c : Int) (b : List Int) (h : b.length ≤ 48) (hb : Bys b) : Bys (mk s n p c b) := by
  unfold mk by4 by2
  refine Bys.app (Bys.app (Bys.app (Bys.app (Bys.app (Bys.app (Bys.app ?_ ?_) ?_) ?_) ?_) ?_) hb) (Bys.rep _)
  · exact .cons (by omega) (.cons (by omega) .nil)
  · exact .cons (by omega) (.cons (by omega) (.cons (by omega) (.cons (by omega) .nil)))
  · exact .cons (by omega) (.cons (by omega) (.cons (by omega) (.cons (by omega) .nil)))
  · exact .cons (by omega) (.cons (by omega) .nil)
  · exact .cons (by omega) (.cons (by omega) .nil)
  · exact .cons (by omega) (.cons (by omega) .nil)
def isP (s : List Int) : Bool := decide (s.length = 64) && decide (s.getD 0 0 = 165) && decide (s.getD 1 0 = 90) && decide (s.getD 14 0 ≤ 48)
def fS (s : List Int) : Int := hi ((s.drop 2).take 4)
def fN (s : List Int) : Int := hi ((s.drop 6).take 4)
def fP (s : List Int) : Int := hi ((s.drop 10).take 2)
def fC (s : List Int) : Int := hi ((s.drop 12).take 2)
def fZ (s : List Int) : Int := s.getD 14 0
def fB (s : List Int) : List Int := (s.drop 16).take (fZ s).toNat
theorem mk_is (s n p c : Int) (b : List Int) (h : b.length ≤ 48) : isP (mk s n p c b) = true := by
  unfold isP
  rw [mk_length _ _ _ _ _ h]
  simp [mk, by4, by2]
  omega
theorem mk_S (s n p c : Int) (b : List Int) (h0 : 0 ≤ s) (h1 : s ≤ 4294967295) : fS (mk s n p c b) = s := hi_by4 s h0 h1
theorem mk_N (s n p c : Int) (b : List Int) (h0 : 0 ≤ n) (h1 : n ≤ 4294967295) : fN (mk s n p c b) = n := hi_by4 n h0 h1
theorem mk_P (s n p c : Int) (b : List Int) (h0 : 0 ≤ p) (h1 : p ≤ 65535) : fP (mk s n p c b) = p := hi_by2 p h0 h1
theorem mk_C (s n p c : Int) (b : List Int) (h0 : 0 ≤ c) (h1 : c ≤ 65535) : fC (mk s n p c b) = c := hi_by2 c h0 h1
theorem mk_Z (s n p c : Int) (b : List Int) : fZ (mk s n p c b) = b.length := rfl
theorem mk_B (s n p c : Int) (b : List Int) : fB (mk s n p c b) = b := by
  show ((b ++ List.replicate (48 - b.length) 0).take ((b.length : Int)).toNat) = b
  rw [show ((b.length : Int)).toNat = b.length by omega, List.take_left]
def pcOf (s : List Int) : Option (List Int) := if isP s = true then some s else none
/-- The pieces of a part. -/
def pcs (now : List Int) (frm n : Nat) : List (Option (List Int)) := (List.range n).map fun i => pcOf (secOf now (frm + i))
def pmax (f : List Int → Int) (n : Int) (o : Option (List Int)) : Int := match o with | none => n | some p => max n (f p)
def gr (f : List Int → Int) (L : List (Option (List Int))) : Int := L.foldl (pmax f) 0
theorem gr_snoc (f : List Int → Int) (L : List (Option (List Int))) (o : Option (List Int)) : gr f (L ++ [o]) = pmax f (gr f L) o := by simp [gr]
/-- Is the i-th one of a record of c pieces that begins with p? -/
def okAt (p : List Int) (c i : Nat) (o : Option (List Int)) : Bool := match o with
  | none => false
  | some q => decide (fP q = i) && decide (i + 1 < c → fZ q = 48) && decide (fS q = fS p) && decide (fN q = fN p) && decide (fC q = fC p)
def wholeOf (L : List (Option (List Int))) : Nat := match L.getD 0 none with
  | some p => if (fC p).toNat ≤ L.length ∧ (∀ i, i < (fC p).toNat → okAt p (fC p).toNat i (L.getD i none) = true) then (fC p).toNat else 0
  | none => 0
theorem wholeOf_of {L : List (Option (List Int))} {p : List Int} (h : L.getD 0 none = some p) : wholeOf L = if (fC p).toNat ≤ L.length ∧ (∀ i, i < (fC p).toNat → okAt p (fC p).toNat i (L.getD i none) = true) then (fC p).toNat else 0 := by
  unfold wholeOf; rw [h]
theorem wholeOf_none {L : List (Option (List Int))} (h : L.getD 0 none = none) : wholeOf L = 0 := by
  unfold wholeOf; rw [h]
def joinOf (L : List (Option (List Int))) : List Int := L.flatMap fun o => match o with | none => [] | some p => fB p
/-- May a record that begins with p not stand behind one that begins with the last one? -/
def stopAt (last : Option (List Int)) (num : Int) (p : List Int) : Bool := match last with
  | none => false
  | some q => decide (fN p ≠ num) || decide (fS p < fS q)
def gath (L : List (Option (List Int))) : Nat → Nat → Int → Option (List Int) → List (List Int) → Nat × Int × List (List Int)
  | 0, pl, num, _, out => (pl, num, out)
  | f + 1, pl, num, last, out =>
    if pl < L.length then
      if wholeOf (L.drop pl) = 0 then (pl, num, out) else
      if stopAt last num ((L.getD pl none).getD []) = true then (pl, num, out) else
      gath L f (pl + wholeOf (L.drop pl)) ((fN ((L.getD pl none).getD []) + 1) % 4294967296) (L.getD pl none) (out ++ [joinOf ((L.drop pl).take (wholeOf (L.drop pl)))])
    else (pl, num, out)
theorem wholeOf_cases (L : List (Option (List Int))) : wholeOf L = 0 ∨ ∃ p, L.getD 0 none = some p ∧ wholeOf L = (fC p).toNat ∧ (fC p).toNat ≤ L.length ∧ ∀ i, i < (fC p).toNat → okAt p (fC p).toNat i (L.getD i none) = true := by
  match h : L.getD 0 none with
  | none => exact .inl (wholeOf_none h)
  | some p =>
    rw [wholeOf_of h]
    split
    · rename_i hc; exact .inr ⟨p, rfl, rfl, hc.1, hc.2⟩
    · exact .inl rfl
theorem wholeOf_le (L : List (Option (List Int))) : wholeOf L ≤ L.length := by
  rcases wholeOf_cases L with h | ⟨p, _, h, h2, _⟩
  · omega
  · omega
theorem wholeOf_some {L : List (Option (List Int))} (h : wholeOf L ≠ 0) : ∃ p, L.getD 0 none = some p := by
  rcases wholeOf_cases L with h0 | ⟨p, h0, _⟩
  · exact absurd h0 h
  · exact ⟨p, h0⟩
theorem wholeOf_all {L : List (Option (List Int))} (i : Nat) (hi : i < wholeOf L) : ∃ q, L.getD i none = some q := by
  rcases wholeOf_cases L with h0 | ⟨p, h0, h1, h2, h3⟩
  · omega
  · have hx := h3 i (by omega)
    match ho : L.getD i none with
    | none => rw [ho] at hx; simp [okAt] at hx
    | some q => exact ⟨q, rfl⟩
end Go.Proofs.Yticiaiiedagalaa.dk
