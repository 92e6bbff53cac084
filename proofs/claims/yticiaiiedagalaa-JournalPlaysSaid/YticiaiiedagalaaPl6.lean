/- Pieces of a record, as lists of bytes; which records lie in a part: plain functions. -/
import Derived.Test.YticiaiiedagalaaPl5
import Derived.Laws.BitsLemmas
namespace Go.Proofs.Yticiaiiedagalaa.dk
open Go.PlainAid Go.ChangeShapes Go.WideShapes Go.ChangeAt Go.RowKit

def Bys (l : List Int) : Prop := ∀ x ∈ l, 0 ≤ x ∧ x ≤ 255
/-- Bytes as a number, the high one first. -/
def hi (l : List Int) : Int := l.foldl (fun n c => (n * 256 + c) % 4294967296) 0
theorem hi_snoc (l : List Int) (c : Int) : hi (l ++ [c]) = (hi l * 256 + c) % 4294967296 := by simp [hi]
theorem hi_bd (l : List Int) : 0 ≤ hi l ∧ hi l ≤ 4294967295 := by
  rcases List.eq_nil_or_concat l with rfl | ⟨l', x, rfl⟩
  · simp [hi]
  · rw [List.concat_eq_append, hi_snoc]; omega
def by4 (x : Int) : List Int := [x / 16777216 % 256, x / 65536 % 256, x / 256 % 256, x / 1 % 256]
def by2 (x : Int) : List Int := [x / 256 % 256, x / 1 % 256]
theorem hi_by4 (x : Int) (h0 : 0 ≤ x) (h1 : x ≤ 4294967295) : hi (by4 x) = x := by
  simp only [hi, by4, List.foldl_cons, List.foldl_nil]
  omega
theorem hi_by2 (x : Int) (h0 : 0 ≤ x) (h1 : x ≤ 65535) : hi (by2 x) = x := by
  simp only [hi, by2, List.foldl_cons, List.foldl_nil]
  omega
/-- A piece's bytes. -/
def mk (s n p c : Int) (b : List Int) : List Int := [165, 90] ++ by4 s ++ by4 n ++ by2 p ++ by2 c ++ [(b.length : Int), 0] ++ b ++ List.replicate (48 - b.length) 0
theorem mk_length (s n p c : Int) (b : List Int) (h : b.length ≤ 48) : (mk s n p c b).length = 64 := by
  simp [mk, by4, by2]; omega
theorem Bys.app {a b : List Int} (ha : Bys a) (hb : Bys b) : Bys (a ++ b) := fun x hx => by
  rcases List.mem_append.1 hx with h | h
  · exact ha x h
  · exact hb x h
theorem Bys.rep (n : Nat) : Bys (List.replicate n 0) := fun x hx => by
  rw [(List.mem_replicate.1 hx).2]; omega
theorem Bys.nil : Bys [] := fun x hx => by cases hx
theorem Bys.cons {a : Int} {l : List Int} (h : 0 ≤ a ∧ a ≤ 255) (hl : Bys l) : Bys (a :: l) := fun x hx => by
  rcases List.mem_cons.1 hx with rfl | h'
  · exact h
  · exact hl x h'
theorem Bys.sub {a b : List Int} (ha : Bys a) (h : ∀ x ∈ b, x ∈ a) : Bys b := fun x hx => ha x (h x hx)
theorem Bys.take {a : List Int} (ha : Bys a) (n : Nat) : Bys (a.take n) := ha.sub fun _ h => List.mem_of_mem_take h
theorem Bys.drop {a : List Int} (ha : Bys a) (n : Nat) : Bys (a.drop n) := ha.sub fun _ h => List.mem_of_mem_drop h
theorem mk_bys (s n p c : Int) (b : List Int) (h : b.length ≤ 48) (hb : Bys b) : Bys (mk s n p c b) := by
  unfold mk by4 by2
  refine Bys.app (Bys.app (Bys.app (Bys.app (Bys.app (Bys.app (Bys.app ?_ ?_) ?_) ?_) ?_) ?_) hb) (Bys.rep _)
  · exact .cons (by omega) (.cons (by omega) .nil)
  · exact .cons (by omega) (.cons (by omega) (.cons (by omega) (.cons (by omega) .nil)))
  · exact .cons (by omega) (.cons (by omega) (.cons (by omega) (.cons (by omega) .nil)))
  · exact .cons (by omega) (.cons (by omega) .nil)
  · exact .cons (by omega) (.cons (by omega) .nil)
  · exact .cons (by omega) (.cons (by omega) .nil)
def isP (s : List Int) : Bool := decide (s.length = 64) && decide (s.getD 0 0 = 165) && decide (s.getD 1 0 = 90) && decide (s.getD 14 0 ≤ 48)
def fS (s : List Int) : Int := hi ((s.drop 2).take 4)
def fN (s : List Int) : Int := hi ((s.drop 6).take 4)
def fP (s : List Int) : Int := hi ((s.drop 10).take 2)
def fC (s : List Int) : Int := hi ((s.drop 12).take 2)
def fZ (s : List Int) : Int := s.getD 14 0
def fB (s : List Int) : List Int := (s.drop 16).take (fZ s).toNat
theorem mk_is (s n p c : Int) (b : List Int) (h : b.length ≤ 48) : isP (mk s n p c b) = true := by
  unfold isP
  rw [mk_length _ _ _ _ _ h]
  simp [mk, by4, by2]
  omega
theorem mk_S (s n p c : Int) (b : List Int) (h0 : 0 ≤ s) (h1 : s ≤ 4294967295) : fS (mk s n p c b) = s := hi_by4 s h0 h1
theorem mk_N (s n p c : Int) (b : List Int) (h0 : 0 ≤ n) (h1 : n ≤ 4294967295) : fN (mk s n p c b) = n := hi_by4 n h0 h1
theorem mk_P (s n p c : Int) (b : List Int) (h0 : 0 ≤ p) (h1 : p ≤ 65535) : fP (mk s n p c b) = p := hi_by2 p h0 h1
theorem mk_C (s n p c : Int) (b : List Int) (h0 : 0 ≤ c) (h1 : c ≤ 65535) : fC (mk s n p c b) = c := hi_by2 c h0 h1
theorem mk_Z (s n p c : Int) (b : List Int) : fZ (mk s n p c b) = b.length := rfl
theorem mk_B (s n p c : Int) (b : List Int) : fB (mk s n p c b) = b := by
  show ((b ++ List.replicate (48 - b.length) 0).take ((b.length : Int)).toNat) = b
  rw [show ((b.length : Int)).toNat = b.length by omega, List.take_left]
def pcOf (s : List Int) : Option (List Int) := if isP s = true then some s else none
/-- The pieces of a part. -/
def pcs (now : List Int) (frm n : Nat) : List (Option (List Int)) := (List.range n).map fun i => pcOf (secOf now (frm + i))
def pmax (f : List Int → Int) (n : Int) (o : Option (List Int)) : Int := match o with | none => n | some p => max n (f p)
def gr (f : List Int → Int) (L : List (Option (List Int))) : Int := L.foldl (pmax f) 0
theorem gr_snoc (f : List Int → Int) (L : List (Option (List Int))) (o : Option (List Int)) : gr f (L ++ [o]) = pmax f (gr f L) o := by simp [gr]
/-- Is the i-th one of a record of c pieces that begins with p? -/
def okAt (p : List Int) (c i : Nat) (o : Option (List Int)) : Bool := match o with
  | none => false
  | some q => decide (fP q = i) && decide (i + 1 < c → fZ q = 48) && decide (fS q = fS p) && decide (fN q = fN p) && decide (fC q = fC p)
def wholeOf (L : List (Option (List Int))) : Nat := match L.getD 0 none with
  | some p => if (fC p).toNat ≤ L.length ∧ (∀ i, i < (fC p).toNat → okAt p (fC p).toNat i (L.getD i none) = true) then (fC p).toNat else 0
  | none => 0
theorem wholeOf_of {L : List (Option (List Int))} {p : List Int} (h : L.getD 0 none = some p) : wholeOf L = if (fC p).toNat ≤ L.length ∧ (∀ i, i < (fC p).toNat → okAt p (fC p).toNat i (L.getD i none) = true) then (fC p).toNat else 0 := by
  unfold wholeOf; rw [h]
theorem wholeOf_none {L : List (Option (List Int))} (h : L.getD 0 none = none) : wholeOf L = 0 := by
  unfold wholeOf; rw [h]
def joinOf (L : List (Option (List Int))) : List Int := L.flatMap fun o => match o with | none => [] | some p => fB p
/-- May a record that begins with p not stand behind one that begins with the last one? -/
def stopAt (last : Option (List Int)) (num : Int) (p : List Int) : Bool := match last with
  | none => false
  | some q => decide (fN p ≠ num) || decide (fS p < fS q)
def gath (L : List (Option (List Int))) : Nat → Nat → Int → Option (List Int) → List (List Int) → Nat × Int × List (List Int)
  | 0, pl, num, _, out => (pl, num, out)
  | f + 1, pl, num, last, out =>
    if pl < L.length then
      if wholeOf (L.drop pl) = 0 then (pl, num, out) else
      if stopAt last num ((L.getD pl none).getD []) = true then (pl, num, out) else
      gath L f (pl + wholeOf (L.drop pl)) ((fN ((L.getD pl none).getD []) + 1) % 4294967296) (L.getD pl none) (out ++ [joinOf ((L.drop pl).take (wholeOf (L.drop pl)))])
    else (pl, num, out)
theorem wholeOf_cases (L : List (Option (List Int))) : wholeOf L = 0 ∨ ∃ p, L.getD 0 none = some p ∧ wholeOf L = (fC p).toNat ∧ (fC p).toNat ≤ L.length ∧ ∀ i, i < (fC p).toNat → okAt p (fC p).toNat i (L.getD i none) = true := by
  match h : L.getD 0 none with
  | none => exact .inl (wholeOf_none h)
  | some p =>
    rw [wholeOf_of h]
    split
    · rename_i hc; exact .inr ⟨p, rfl, rfl, hc.1, hc.2⟩
    · exact .inl rfl
theorem wholeOf_le (L : List (Option (List Int))) : wholeOf L ≤ L.length := by
  rcases wholeOf_cases L with h | ⟨p, _, h, h2, _⟩
  · omega
  · omega
theorem wholeOf_some {L : List (Option (List Int))} (h : wholeOf L ≠ 0) : ∃ p, L.getD 0 none = some p := by
  rcases wholeOf_cases L with h0 | ⟨p, h0, _⟩
  · exact absurd h0 h
  · exact ⟨p, h0⟩
theorem wholeOf_all {L : List (Option (List Int))} (i : Nat) (hi : i < wholeOf L) : ∃ q, L.getD i none = some q := by
  rcases wholeOf_cases L with h0 | ⟨p, h0, h1, h2, h3⟩
  · omega
  · have hx := h3 i (by omega)
    match ho : L.getD i none with
    | none => rw [ho] at hx; simp [okAt] at hx
    | some q => exact ⟨q, rfl⟩
end Go.Proofs.Yticiaiiedagalaa.dk
/- The contracts of a piece's small functions. -/
namespace Go.Proofs.Yticiaiiedagalaa.dk
open Go.PlainAid Go.ChangeShapes Go.WideShapes Go.ChangeAt Go.RowKit

theorem Rd.cell {W : World} {b off n : Nat} {l : List Int} (h : Rd W (some ⟨b, off, none⟩) n l) (i : Nat) (hi : i < n) : W.cell? ⟨b, off + i, none⟩ = some (.int .u8 (l.getD i 0)) := by
  obtain ⟨b', off', e, _, hc⟩ := h.2 (by omega)
  obtain ⟨rfl, rfl⟩ : b = b' ∧ off = off' := by injection e with e; injection e with e1 e2; exact ⟨e1, e2⟩
  exact hc i hi
theorem Rd.form {W : World} {p : Option Addr} {n : Nat} {l : List Int} (h : Rd W p n l) (h0 : 0 < n) : ∃ b off, p = some ⟨b, off, none⟩ ∧ b < W.heap.size := by
  obtain ⟨b, off, e, hl, _⟩ := h.2 h0
  exact ⟨b, off, e, hl⟩
theorem Rd.cut {W : World} {b off n : Nat} {l : List Int} (h : Rd W (some ⟨b, off, none⟩) n l) (i k : Nat) (hk : i + k ≤ n) : Rd W (some ⟨b, off + i, none⟩) k ((l.drop i).take k) := by
  refine ⟨by rw [List.length_take, List.length_drop, h.1]; omega, fun h0 => ?_⟩
  obtain ⟨b', off', e, hlt, hc⟩ := h.2 (by omega)
  obtain ⟨rfl, rfl⟩ : b = b' ∧ off = off' := by injection e with e; injection e with e1 e2; exact ⟨e1, e2⟩
  refine ⟨b, off + i, rfl, hlt, fun x hx => ?_⟩
  rw [Nat.add_assoc, hc (i + x) (by omega)]
  congr 2
  rw [List.getD_eq_getElem?_getD, List.getD_eq_getElem?_getD, List.getElem?_take, if_pos hx, List.getElem?_drop]
theorem or256 (x y : Int) (h2 : 0 ≤ y) (h3 : y ≤ 255) : bits .or .u32 (x * 256 % 4294967296) y = (x * 256 + y) % 4294967296 := by
  rw [bits_join .u32 32 (by decide) (fun m a b => by rw [IntKind.wrap_u32]; omega) 8 (x * 256 % 4294967296) y (by omega) (by omega) (by omega) h2 (by omega) (by omega)]
  omega
set_option maxHeartbeats 1000000 in
theorem high_any (w : World) (p : Option Addr) (n c : Nat) (l : List Int) (h : Rd w p n l) (hb : Bys l) (hn : n ≤ 1000) :
    Calls Try.prog 52 #[.slice p n c] w fun e w' => e = .returned (.int .u32 (hi l)) ∧ w = w' := by
  have HR := Lib.hid h
  have hl := h.1
  have HBy := Lib.hid hb
  clear h hb
  go_enter Try.func52, Try.ntmps52
  go_wp2
  go_loop [3, 8] (fun v i => ∃ k : Nat, k ≤ n ∧ i = .int .i64 (k : Int) ∧ v = .int .u32 (hi (l.take k))) (fun _ i => n - (intOf i).toNat)
  case atStart => exact ⟨0, Nat.zero_le _, rfl, rfl⟩
  case round =>
    obtain ⟨k, hk, rfl, rfl⟩ := hrel
    by_cases hkn : k < n
    · obtain ⟨b, off, rfl, _⟩ := HR.out.form (by omega)
      have hc := HR.out.cell k hkn
      have hx : 0 ≤ l.getD k 0 ∧ l.getD k 0 ≤ 255 := by
        rw [List.getD_eq_getElem?_getD, List.getElem?_eq_getElem (by omega)]
        exact HBy.out _ (List.getElem_mem _)
      have hs : Hid (hi (l.take (k + 1)) = (hi (l.take k) * 256 + l.getD k 0) % 4294967296) := by
        show hi (l.take (k + 1)) = _
        rw [List.take_succ_eq_append_getElem (by omega), hi_snoc, List.getD_eq_getElem?_getD, List.getElem?_eq_getElem (by omega)]
        rfl
      have hh := hi_bd (l.take k)
      generalize l.getD k 0 = y at hc hx hs
      generalize hi (l.take k) = x at hs hh ⊢
      have dk : decide ((k : Int) < n) = true := decide_eq_true (by omega)
      go_wp2
      constructor
      · exact ⟨k + 1, by omega, by go_num, by rw [hs.out, or256 x y hx.1 hx.2]⟩
      · show n - ((k : Int) + 1).toNat < n - (k : Int).toNat
        omega
    · have dk : decide ((k : Int) < n) = false := decide_eq_false (by omega)
      have e : Hid (l.take k = l) := List.take_of_length_le (by omega)
      go_wp2
      go_ret
      exact ⟨by rw [e.out]; rfl, rfl⟩
theorem session_any (w : World) (g : Nat) (l : List Int) (h : Rd w (some ⟨g, 0, none⟩) 64 l) (hb : Bys l) :
    Calls Try.prog 39 #[.slice (some ⟨g, 0, none⟩) 64 64] w fun e w' => e = .returned (.int .u32 (fS l)) ∧ w = w' := by
  have HH := Lib.hid (high_any w (some ⟨g, 2, none⟩) 4 62 ((l.drop 2).take 4) (by have := h.cut 2 4 (by omega); rw [Nat.zero_add] at this; exact this) ((hb.drop 2).take 4) (by omega))
  clear h hb
  go_enter Try.func39, Try.ntmps39
  go_wp2_with fail
  with_reducible refine HH.out.mono ?_
  rintro e w' ⟨rfl, rfl⟩
  go_wp2
  go_ret
  exact ⟨rfl, rfl⟩
theorem number_any (w : World) (g : Nat) (l : List Int) (h : Rd w (some ⟨g, 0, none⟩) 64 l) (hb : Bys l) :
    Calls Try.prog 53 #[.slice (some ⟨g, 0, none⟩) 64 64] w fun e w' => e = .returned (.int .u32 (fN l)) ∧ w = w' := by
  have HH := Lib.hid (high_any w (some ⟨g, 6, none⟩) 4 58 ((l.drop 6).take 4) (by have := h.cut 6 4 (by omega); rw [Nat.zero_add] at this; exact this) ((hb.drop 6).take 4) (by omega))
  clear h hb
  go_enter Try.func53, Try.ntmps53
  go_wp2_with fail
  with_reducible refine HH.out.mono ?_
  rintro e w' ⟨rfl, rfl⟩
  go_wp2
  go_ret
  exact ⟨rfl, rfl⟩
theorem place_any (w : World) (g : Nat) (l : List Int) (h : Rd w (some ⟨g, 0, none⟩) 64 l) (hb : Bys l) :
    Calls Try.prog 59 #[.slice (some ⟨g, 0, none⟩) 64 64] w fun e w' => e = .returned (.int .u32 (fP l)) ∧ w = w' := by
  have HH := Lib.hid (high_any w (some ⟨g, 10, none⟩) 2 54 ((l.drop 10).take 2) (by have := h.cut 10 2 (by omega); rw [Nat.zero_add] at this; exact this) ((hb.drop 10).take 2) (by omega))
  clear h hb
  go_enter Try.func59, Try.ntmps59
  go_wp2_with fail
  with_reducible refine HH.out.mono ?_
  rintro e w' ⟨rfl, rfl⟩
  go_wp2
  go_ret
  exact ⟨rfl, rfl⟩
theorem count_any (w : World) (g : Nat) (l : List Int) (h : Rd w (some ⟨g, 0, none⟩) 64 l) (hb : Bys l) :
    Calls Try.prog 58 #[.slice (some ⟨g, 0, none⟩) 64 64] w fun e w' => e = .returned (.int .u32 (fC l)) ∧ w = w' := by
  have HH := Lib.hid (high_any w (some ⟨g, 12, none⟩) 2 52 ((l.drop 12).take 2) (by have := h.cut 12 2 (by omega); rw [Nat.zero_add] at this; exact this) ((hb.drop 12).take 2) (by omega))
  clear h hb
  go_enter Try.func58, Try.ntmps58
  go_wp2_with fail
  with_reducible refine HH.out.mono ?_
  rintro e w' ⟨rfl, rfl⟩
  go_wp2
  go_ret
  exact ⟨rfl, rfl⟩
theorem size_any (w : World) (g : Nat) (l : List Int) (h : Rd w (some ⟨g, 0, none⟩) 64 l) (hb : Bys l) :
    Calls Try.prog 60 #[.slice (some ⟨g, 0, none⟩) 64 64] w fun e w' => e = .returned (.int .i64 (fZ l)) ∧ w = w' := by
  have hc := h.cell 14 (by omega)
  rw [Nat.zero_add] at hc
  have hx : 0 ≤ l.getD 14 0 ∧ l.getD 14 0 ≤ 255 := by
    rw [List.getD_eq_getElem?_getD, List.getElem?_eq_getElem (by rw [h.1]; omega)]
    exact hb _ (List.getElem_mem _)
  clear h hb
  unfold fZ
  generalize l.getD 14 0 = z at hc hx ⊢
  go_enter Try.func60, Try.ntmps60
  go_wp2
  go_ret
  exact ⟨by go_num, rfl⟩
theorem bytes_any (w : World) (g : Nat) (l : List Int) (h : Rd w (some ⟨g, 0, none⟩) 64 l) (hb : Bys l) (hz : isP l = true) :
    Calls Try.prog 61 #[.slice (some ⟨g, 0, none⟩) 64 64] w fun e w' => e = .returned (.slice (some ⟨g, 16, none⟩) (fB l).length 48) ∧ w = w' := by
  have HZ := size_any w g l h hb
  have hz1 : fZ l ≤ 48 := by
    unfold isP at hz
    simp only [Bool.and_eq_true, decide_eq_true_eq] at hz
    exact hz.2
  have hz0 : 0 ≤ fZ l := by
    unfold fZ
    rw [List.getD_eq_getElem?_getD, List.getElem?_eq_getElem (by rw [h.1]; omega)]
    exact (hb _ (List.getElem_mem _)).1
  have hlen : (fB l).length = (fZ l).toNat := by unfold fB; rw [List.length_take, List.length_drop, h.1]; omega
  rw [hlen]
  obtain ⟨z, hzz⟩ := Int.eq_ofNat_of_zero_le hz0
  rw [hzz] at HZ hz1 ⊢
  have HH := Lib.hid HZ
  clear HZ h hb hz hz0 hlen hzz
  rw [show ((z : Int)).toNat = z from rfl]
  go_enter Try.func61, Try.ntmps61
  go_wp2_with fail
  with_reducible refine HH.out.mono ?_
  rintro e w' ⟨rfl, rfl⟩
  go_wp2
  go_ret
  refine ⟨?_, rfl⟩
  show Ending.returned (Value.slice _ (16 + z - 16) 48) = _
  rw [show 16 + z - 16 = z by omega]
theorem isP_any (w : World) (p : Option Addr) (n c : Nat) (l : List Int) (h : Rd w p n l) (hn : n ≤ 1000) :
    Calls Try.prog 51 #[.slice p n c] w fun e w' => e = .returned (.bool (isP l)) ∧ w = w' := by
  have hl := h.1
  by_cases h64 : n = 64
  · subst h64
    obtain ⟨b, off, rfl, _⟩ := h.form (by omega)
    have c0 := h.cell 0 (by omega)
    have c1 := h.cell 1 (by omega)
    have c2 := h.cell 14 (by omega)
    rw [Nat.add_zero] at c0
    have e : Hid (isP l = ((decide (l.getD 0 0 = 165) && decide (l.getD 1 0 = 90)) && decide (l.getD 14 0 ≤ 48))) := by
      show isP l = _
      unfold isP; rw [hl]; simp
    generalize l.getD 0 0 = x0 at c0 e
    generalize l.getD 1 0 = x1 at c1 e
    generalize l.getD 14 0 = x2 at c2 e
    rw [e.out]
    clear e h hl
    by_cases e0 : x0 = 165
    · subst e0
      by_cases e1 : x1 = 90
      · subst e1
        by_cases e2 : x2 ≤ 48
        · have d : decide (x2 ≤ 48) = true := decide_eq_true e2
          go_enter Try.func51, Try.ntmps51
          go_wp2
          go_ret
          exact ⟨by simp [e2], rfl⟩
        · have d : decide (x2 ≤ 48) = false := decide_eq_false e2
          go_enter Try.func51, Try.ntmps51
          go_wp2
          go_ret
          exact ⟨by simp, rfl⟩
      · have d : (x1 == 90) = false := beq_eq_false_iff_ne.2 e1
        go_enter Try.func51, Try.ntmps51
        go_wp2
        go_ret
        exact ⟨by simp [e1], rfl⟩
    · have d : (x0 == 165) = false := beq_eq_false_iff_ne.2 e0
      go_enter Try.func51, Try.ntmps51
      go_wp2
      go_ret
      exact ⟨by simp [e0], rfl⟩
  · have e : isP l = false := by unfold isP; rw [hl]; simp [h64]
    rw [e]
    have d : ((n : Int) == 64) = false := beq_eq_false_iff_ne.2 (by omega)
    clear e h hl
    go_enter Try.func51, Try.ntmps51
    go_wp2
    go_ret
    exact ⟨rfl, rfl⟩
/-- How many pieces so many bytes are. -/
def need (x : Int) : Int := if x ≤ 0 then 1 else (x - 1) / 48 + 1
theorem Need_any (w : World) (x : Int) (h1 : x ≤ 9223372036854775807) :
    Calls Try.prog 32 #[.int .i64 x] w fun e w' => e = .returned (.int .i64 (need x)) ∧ w = w' := by
  by_cases h : x ≤ 0
  · have d : decide (x ≤ 0) = true := decide_eq_true h
    have e : Hid (need x = 1) := by show need x = 1; unfold need; rw [if_pos h]
    go_enter Try.func32, Try.ntmps32
    go_wp2
    go_ret
    exact ⟨by rw [e.out]; rfl, rfl⟩
  · have d : decide (x ≤ 0) = false := decide_eq_false h
    have e : Hid (need x = (x - 1) / 48 + 1) := by show need x = _; unfold need; rw [if_neg h]
    go_enter Try.func32, Try.ntmps32
    go_wp2
    go_ret
    exact ⟨by rw [e.out]; rfl, rfl⟩
end Go.Proofs.Yticiaiiedagalaa.dk
