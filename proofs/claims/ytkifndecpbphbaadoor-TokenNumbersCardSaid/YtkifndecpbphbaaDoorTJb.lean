/- What a text's tokens are, as plain functions over its bytes. -/
import Derived.Test.YtkifndecpbphbaaDoorTJa
import Derived.Test.YtkifndecpbphbaaDoorUJe
import Derived.Lib.OthersKept
import Derived.Lib.DecodeN
namespace Go.Proofs.YtkifndecpbphbaaDoor.dk
open Go.PlainAid Go.ChangeShapes Go.WideShapes Go.ChangeAt Go.RowKit

theorem unstr_ints (s : ByteArray) : unstr s = utf.ints s := rfl
theorem unstr_oct (s : ByteArray) : utf.Oct (unstr s) := utf.ints_oct s
/-- Of a number's text what Parse answers. -/
structure Pn where
  neg : Bool
  dg : ByteArray
  ex : Int
  er : Int
def parseQ (s : ByteArray) : Pn :=
  if 1000 < s.size then ⟨false, ⟨#[]⟩, 0, 4⟩ else
  match splitOf s with
  | none => ⟨false, ⟨#[]⟩, 0, 2⟩
  | some (neg, wh, pt, ex) => if dsane (fneg neg (wh ++ pt)) (unstr (fdig (wh ++ pt))) (fexp (wh ++ pt) (ex - (pt.size : Int))) = true then ⟨fneg neg (wh ++ pt), fdig (wh ++ pt), fexp (wh ++ pt) (ex - (pt.size : Int)), 0⟩ else ⟨false, ⟨#[]⟩, 0, 4⟩
def Pn.val (q : Pn) : Value := .tuple #[.agg #[.bool q.neg, .string q.dg, .int .i64 q.ex], .int .i64 q.er]
theorem parseV_q (s : ByteArray) : parseV s = (parseQ s).val := by
  unfold parseV parseQ
  by_cases h : 1000 < s.size
  · rw [if_pos h, if_pos h]; rfl
  · rw [if_neg h, if_neg h]
    cases hs : splitOf s with
    | none => rfl
    | some p =>
      obtain ⟨neg, wh, pt, ex⟩ := p
      show told _ _ = Pn.val (if _ then _ else _)
      rw [fmd_eq]
      split <;> rename_i h2
      · rw [h2]; rfl
      · rw [Bool.not_eq_true] at h2; rw [h2]; rfl
theorem Parse_q (w : World) (s : ByteArray) (hs : s.size ≤ 1000000000) :
    Calls Tryd.prog 50 #[.string s] w fun e w' => e = .returned (parseQ s).val ∧ Below w.heap.size w w' := by
  have h := Parse_any w s hs
  rw [parseV_q] at h
  exact h
theorem parse_zero (s : ByteArray) (h : (parseQ s).er ≠ 0) : (parseQ s).er = 2 ∨ (parseQ s).er = 4 := by
  unfold parseQ at h ⊢
  split
  · exact .inr rfl
  · rename_i h1
    rw [if_neg h1] at h
    cases hs : splitOf s with
    | none => exact .inl rfl
    | some p =>
      obtain ⟨neg, wh, pt, ex⟩ := p
      rw [hs] at h
      dsimp only at h ⊢
      split
      · rename_i h2; rw [if_pos h2] at h; exact absurd rfl h
      · exact .inr rfl

/-- A token, without its place. -/
structure Tk where
  kind : Int
  s : List Int
  neg : Bool
  dg : ByteArray
  ex : Int
def Tk.no : Tk := ⟨0, [], false, ⟨#[]⟩, 0⟩
def Tk.cells (t : Tk) (a b : Int) : Array Value := #[.int .i64 t.kind, .string (strOf t.s), .bool t.neg, .string t.dg, .int .i64 t.ex, .int .i64 a, .int .i64 b]
/-- What a text begins with, and how many bytes that is; or an error. -/
structure Fs where
  t : Tk
  n : Nat
  e : Int
def Fs.val (f : Fs) : Value := .tuple #[.agg (f.t.cells 0 0), .int .i64 f.n, .int .i64 f.e]
def Fs.bad (e : Int) : Fs := ⟨Tk.no, 0, e⟩

/-! names -/
def nch (r : Int) : Bool := bgn r || isDig r
def nameF : Nat → List Int → Option Nat
  | 0, _ => some 0
  | f + 1, l => if l = [] then some 0 else if l.getD 0 0 < 128 then (if nch (l.getD 0 0) then (nameF f (l.drop 1)).map (· + 1) else some 0)
      else if (utf.nxl l).2 = 0 then none else (nameF f (l.drop (utf.nxl l).2.toNat)).map (· + (utf.nxl l).2.toNat)
def nameL (l : List Int) : Option Nat := nameF l.length l
def nameFs (l : List Int) : Fs := match nameL l with | some n => ⟨⟨1, l.take n, false, ⟨#[]⟩, 0⟩, n, 0⟩ | none => Fs.bad 2
theorem nameF_nil (f : Nat) : nameF f [] = some 0 := by cases f <;> simp [nameF]
theorem nameF_fuel : ∀ (f g : Nat) {l : List Int}, utf.Oct l → l.length ≤ f → l.length ≤ g → nameF f l = nameF g l := by
  intro f
  induction f with
  | zero =>
    intro g l _ hl _
    rw [List.length_eq_zero_iff.1 (Nat.le_zero.1 hl), nameF_nil, nameF_nil]
  | succ f ih =>
    intro g l hO hl hg
    by_cases hn : l = []
    · subst hn; rw [nameF_nil, nameF_nil]
    have hp : 0 < l.length := List.length_pos_iff.2 hn
    cases g with
    | zero => omega
    | succ g =>
      have hlen := utf.nxl_len hO
      unfold nameF
      rw [if_neg hn, if_neg hn]
      split
      · split
        · rw [ih g (hO.drop 1) (by rw [List.length_drop]; omega) (by rw [List.length_drop]; omega)]
        · rfl
      · split
        · rfl
        · rw [ih g (hO.drop _) (by rw [List.length_drop]; omega) (by rw [List.length_drop]; omega)]
theorem nameF_succ (f : Nat) (l : List Int) : nameF (f + 1) l = if l = [] then some 0 else if l.getD 0 0 < 128 then (if nch (l.getD 0 0) then (nameF f (l.drop 1)).map (· + 1) else some 0)
      else if (utf.nxl l).2 = 0 then none else (nameF f (l.drop (utf.nxl l).2.toNat)).map (· + (utf.nxl l).2.toNat) := rfl
theorem nameL_step {l : List Int} (hO : utf.Oct l) (hn : l ≠ []) : nameL l = if l.getD 0 0 < 128 then (if nch (l.getD 0 0) then (nameL (l.drop 1)).map (· + 1) else some 0)
      else if (utf.nxl l).2 = 0 then none else (nameL (l.drop (utf.nxl l).2.toNat)).map (· + (utf.nxl l).2.toNat) := by
  have hp : 0 < l.length := List.length_pos_iff.2 hn
  have hlen := utf.nxl_len hO
  unfold nameL
  obtain ⟨m, hm⟩ : ∃ m, l.length = m + 1 := ⟨l.length - 1, by omega⟩
  rw [hm, nameF_succ, if_neg hn]
  split
  · split
    · rw [nameF_fuel m (l.drop 1).length (hO.drop 1) (by rw [List.length_drop]; omega) (Nat.le_refl _)]
    · rfl
  · split
    · rfl
    · rw [nameF_fuel m (l.drop (utf.nxl l).2.toNat).length (hO.drop _) (by rw [List.length_drop]; omega) (Nat.le_refl _)]
theorem nameL_nil : nameL [] = some 0 := rfl
theorem nameF_le : ∀ (f : Nat) {l : List Int}, utf.Oct l → ∀ n, nameF f l = some n → n ≤ l.length := by
  intro f
  induction f with
  | zero => intro l _ n h; injection h with h; omega
  | succ f ih =>
    intro l hO n h
    by_cases hn : l = []
    · subst hn; rw [nameF_nil] at h; injection h with h; omega
    have hp : 0 < l.length := List.length_pos_iff.2 hn
    have hlen := utf.nxl_len hO
    unfold nameF at h
    rw [if_neg hn] at h
    split at h
    · split at h
      · obtain ⟨m, hm, rfl⟩ := Option.map_eq_some_iff.1 h
        have := ih (hO.drop 1) m hm
        rw [List.length_drop] at this
        omega
      · injection h with h; omega
    · split at h
      · cases h
      · obtain ⟨m, hm, rfl⟩ := Option.map_eq_some_iff.1 h
        have := ih (hO.drop _) m hm
        rw [List.length_drop] at this
        omega
theorem nameL_le {l : List Int} (hO : utf.Oct l) {n : Nat} (h : nameL l = some n) : n ≤ l.length := nameF_le _ hO n h

/-! numbers -/
def numF : Nat → List Int → Nat → Nat
  | 0, _, k => k
  | f + 1, l, k => if k < l.length ∧ inNum l k = true then numF f l (k + 1) else k
def numL (l : List Int) : Nat := numF l.length l 0
def numberFs (l : List Int) : Fs :=
  if (parseQ (strOf (l.take (numL l)))).er = 0 then ⟨⟨3, [], (parseQ (strOf (l.take (numL l)))).neg, (parseQ (strOf (l.take (numL l)))).dg, (parseQ (strOf (l.take (numL l)))).ex⟩, numL l, 0⟩ else Fs.bad (parseQ (strOf (l.take (numL l)))).er
theorem numF_le : ∀ (f : Nat) (l : List Int) (k : Nat), k ≤ l.length → k ≤ numF f l k ∧ numF f l k ≤ l.length := by
  intro f
  induction f with
  | zero => intro l k h; exact ⟨Nat.le_refl _, h⟩
  | succ f ih =>
    intro l k h
    unfold numF
    split
    · rename_i hk
      have := ih l (k + 1) (by omega)
      omega
    · exact ⟨Nat.le_refl _, h⟩
theorem numF_go {f : Nat} {l : List Int} {k : Nat} (hk : k < l.length) (hi : inNum l k = true) (hf : l.length - k ≤ f) : numF f l k = numF (f - 1) l (k + 1) := by
  obtain ⟨m, rfl⟩ : ∃ m, f = m + 1 := ⟨f - 1, by omega⟩
  show (if _ then _ else _) = _
  rw [if_pos ⟨hk, hi⟩]
  rfl
theorem numF_stop {f : Nat} {l : List Int} {k : Nat} (h : k < l.length → inNum l k = false) : numF f l k = k := by
  cases f with
  | zero => rfl
  | succ f =>
    show (if _ then _ else _) = _
    rw [if_neg (fun ⟨a, b⟩ => by rw [h a] at b; cases b)]

/-! texts -/
def inTextL (l : List Int) (sg : Int) : List Int × Nat :=
  if l.getD 0 0 < 32 then ([], 0)
  else if l.getD 0 0 ≠ 92 then (l.take (utf.nxl l).2.toNat, (utf.nxl l).2.toNat)
  else if l.length = 1 then ([], 0)
  else if l.getD 1 0 = sg then ([sg], 2)
  else if l.getD 1 0 = 39 ∨ l.getD 1 0 = 34 then ([], 0)
  else if (utf.esc ((l.drop 1).take 11)).2 = 0 then ([], 0)
  else (utf.enc (utf.fixed (utf.esc ((l.drop 1).take 11)).1), 1 + (utf.esc ((l.drop 1).take 11)).2.toNat)
def textF : Nat → List Int → Int → Option (List Int × Nat)
  | 0, _, _ => none
  | f + 1, l, sg => if l = [] then none else if l.getD 0 0 = sg then some ([], 1) else if (inTextL l sg).2 = 0 then none
      else (textF f (l.drop (inTextL l sg).2) sg).map fun q => ((inTextL l sg).1 ++ q.1, (inTextL l sg).2 + q.2)
def textL (l : List Int) : Option (List Int × Nat) := textF l.length (l.drop 1) (l.getD 0 0)
def textFs (l : List Int) : Fs := match textL l with | some (b, n) => ⟨⟨2, b, false, ⟨#[]⟩, 0⟩, n + 1, 0⟩ | none => Fs.bad 2

/-! signs -/
def signL (l : List Int) : Fs := if isDbl (strOf l) = true then ⟨⟨4, l.take 2, false, ⟨#[]⟩, 0⟩, 2, 0⟩ else if isSgl (strOf l) = true then ⟨⟨4, l.take 1, false, ⟨#[]⟩, 0⟩, 1, 0⟩ else Fs.bad 2

/-! the first token; the next one; all -/
def firstFs (l : List Int) : Fs :=
  if l = [] then ⟨Tk.no, 0, 0⟩
  else if bgn (l.getD 0 0) = true then nameFs l
  else if isDig (l.getD 0 0) = true ∨ (l.getD 0 0 = 45 ∧ 1 < l.length ∧ isDig (l.getD 1 0) = true) then numberFs l
  else if l.getD 0 0 = 39 ∨ l.getD 0 0 = 34 then textFs l
  else signL l
def isWh (c : Int) : Bool := c == 32 || c == 9 || c == 10 || c == 13
def wsF : List Int → Nat
  | [] => 0
  | c :: t => if isWh c = true then wsF t + 1 else 0
abbrev TR := List (Tk × Nat × Nat) × Int
def consF (x : Tk × Nat × Nat) (q : TR) : TR := if q.2 ≠ 0 then ([], q.2) else (x :: q.1, 0)
def allC (f : Fs) (p : Nat) (rest : Nat → TR) : TR := if f.e ≠ 0 then ([], f.e) else if f.t.kind = 0 then ([], 0) else consF (f.t, p, p + f.n) (rest (p + f.n))
/-- Where the token behind a place begins. -/
def toF (l : List Int) (k : Nat) : Nat := k + wsF (l.drop k)
def allF : Nat → List Int → Nat → TR
  | 0, _, _ => ([], 0)
  | f + 1, l, k => allC (firstFs (l.drop (toF l k))) (toF l k) (allF f l)
def allL (l : List Int) : TR := if 8192 < l.length then ([], 4) else allF (l.length + 1) l 0
/-- What Next answers. -/
def nextC (f : Fs) (p : Nat) : Value := if f.e ≠ 0 then .tuple #[.agg (Tk.no.cells 0 0), .int .i64 f.e] else .tuple #[.agg (f.t.cells p ((p + f.n : Nat) : Int)), .int .i64 0]
def nextV (l : List Int) (k : Int) : Value := if k < 0 ∨ (l.length : Int) < k then .tuple #[.agg (Tk.no.cells 0 0), .int .i64 1] else nextC (firstFs (l.drop (toF l k.toNat))) (toF l k.toNat)
end Go.Proofs.YtkifndecpbphbaaDoor.dk
/- size: how long the character is with which a text begins. -/
namespace Go.Proofs.YtkifndecpbphbaaDoor.dk
open Go.PlainAid Go.ChangeShapes Go.WideShapes Go.ChangeAt Go.RowKit

theorem ch_size {n n' b0 b1 b2 b3 r m : Int} (hn : 4 ≤ n ∧ 4 ≤ n' ∨ n = n') (h : utf.Ch n b0 b1 b2 b3 r m) : utf.Ch n' b0 b1 b2 b3 r m := by
  rcases h with ⟨a, b, c⟩ | ⟨a, b, c⟩ | ⟨a, b, c⟩ | ⟨a, b, c⟩
  · exact .inl ⟨a, by omega, c⟩
  · exact .inr (.inl ⟨a, by omega, c⟩)
  · exact .inr (.inr (.inl ⟨a, by omega, c⟩))
  · exact .inr (.inr (.inr ⟨a, by omega, c⟩))
theorem nxl_take4 {l : List Int} (hO : utf.Oct l) : utf.nxl (l.take 4) = utf.nxl l := by
  have e : ∀ i, i < 4 → utf.gl (l.take 4) i = utf.gl l i := fun i hi => by
    unfold utf.gl
    rw [List.getD_eq_getElem?_getD, List.getD_eq_getElem?_getD, List.getElem?_take, if_pos hi]
  have hl : (l.take 4).length = min 4 l.length := List.length_take
  have hg := hO.gl 0
  have E : utf.nxl (l.take 4) = utf.nx ((l.take 4).length : Nat) (utf.gl l 0) (utf.gl l 1) (utf.gl l 2) (utf.gl l 3) := by
    unfold utf.nxl
    rw [e 0 (by omega), e 1 (by omega), e 2 (by omega), e 3 (by omega)]
  rw [E]
  rcases utf.nxl_is hO with h | ⟨h, hn⟩
  · exact utf.nx_ch hg.1 hg.2 (ch_size (by omega) h)
  · rcases utf.nx_is ((l.take 4).length : Nat) (utf.gl l 0) (utf.gl l 1) (utf.gl l 2) (utf.gl l 3) hg.1 hg.2 with h4 | ⟨h4, _⟩
    · exact absurd (ch_size (by omega) h4) (hn _ _)
    · rw [h, h4]
theorem unstr_take (s : ByteArray) (n : Nat) : unstr (s.extract 0 n) = (unstr s).take n := by
  have h := cut_unstr s 0 n
  rw [Nat.zero_add, List.drop_zero] at h
  exact h
theorem unstr_from (s : ByteArray) (k : Nat) : unstr (s.extract k s.size) = (unstr s).drop k := by
  by_cases h : k ≤ s.size
  · have e := cut_unstr s k (s.size - k)
    rw [show k + (s.size - k) = s.size by omega] at e
    rw [e, List.take_of_length_le (by rw [List.length_drop, unstr_length]; omega)]
  · rw [List.drop_eq_nil_of_le (by rw [unstr_length]; omega)]
    apply List.eq_nil_of_length_eq_zero
    rw [unstr_length, ByteArray.size_extract]
    omega
theorem cut_strOf (s : ByteArray) (n : Nat) : s.extract 0 n = strOf ((unstr s).take n) := by rw [← unstr_take, strOf_unstr]
set_option maxRecDepth 100000 in
set_option maxHeartbeats 2000000 in
theorem size_any (w : World) (s : ByteArray) (hF : utf.Forms w) (hs : s.size ≤ 1000000000) :
    Calls Tryd.prog 34 #[.string s] w fun e w' => e = .returned (.int .i64 (utf.nxl (unstr s)).2) ∧ Below w.heap.size w w' := by
  obtain ⟨t, ht⟩ : ∃ t, t = s.extract 0 (min 4 s.size) := ⟨_, rfl⟩
  have hu : unstr t = (unstr s).take 4 := by
    rw [ht, unstr_take]
    by_cases h : 4 ≤ s.size
    · rw [Nat.min_eq_left h]
    · rw [Nat.min_eq_right (by omega), List.take_of_length_le (by rw [unstr_length]; omega), List.take_of_length_le (by rw [unstr_length]; omega)]
  have hts : t.size ≤ 4 := by rw [ht, ByteArray.size_extract]; omega
  have HC : Hid (∀ W, Below w.heap.size w W → Calls Tryd.prog 47 #[.slice (some ⟨W.heap.size, 0, none⟩) t.size (grownCap W t.size 0 5)] (Lib.bytesWorld W 5 t) fun e w' => e = .returned (.tuple #[.int .i32 (utf.nxl (unstr s)).1, .int .i64 (utf.nxl (unstr s)).2]) ∧ Below W.heap.size W w') := fun W h => by
    have hbb := utf.bytes_below' W t 5
    have hN := utf.Next_any _ (utf.ints t) _ (utf.ints_oct t) (by rw [utf.ints_length]; unfold maxLen; omega) (utf.Bs_conv' W t) (hF.below (h.trans (hbb.mono h.size)) hF.size)
    rw [show utf.nxl (utf.ints t) = utf.nxl (unstr s) by rw [← unstr_ints, hu, nxl_take4 (unstr_oct s)]] at hN
    refine hN.mono ?_
    rintro e w' ⟨rfl, hb⟩
    exact ⟨rfl, hbb.trans (hb.mono hbb.size)⟩
  have hcv := fun (W : World) (s : ByteArray) => Lib.run_convert_string_bytes (P := Tryd.prog) W 9 33 5 s Tryd.underlying9 Tryd.underlying33 Tryd.underlying5
  generalize utf.nxl (unstr s) = v at HC ⊢
  obtain ⟨v1, v2⟩ := v
  have E1 : Hid ((min (4 : Int) (s.size : Int)).toNat = min 4 s.size) := by show _ = _; omega
  have E2 : Hid (min (min 4 s.size) s.size = t.size) := by show _ = _; rw [ht, ByteArray.size_extract]; omega
  have ET := Lib.hid ht.symm
  clear hu hts ht hF
  go_enter Tryd.func34, Tryd.ntmps34
  go_wp2_with fail
  rw [E1.out, E2.out, ET.out]
  with_reducible refine (HC.out _ (Below.refl _ _)).mono ?_
  rintro e w2 ⟨rfl, hb2⟩
  clear hcv
  go_wp2_with fail
  go_ret
  exact ⟨rfl, hb2⟩
end Go.Proofs.YtkifndecpbphbaaDoor.dk
/- nameSize: how many bytes of a text stand in a name. -/
namespace Go.Proofs.YtkifndecpbphbaaDoor.dk
open Go.PlainAid Go.ChangeShapes Go.WideShapes Go.ChangeAt Go.RowKit

/-! what the language reads in a text beside what utf reads -/
theorem dec_ch {n b0 b1 b2 b3 : Nat} (h0 : b0 < 256) {r m : Int} (h : utf.Ch n b0 b1 b2 b3 r m) : Lib.decodeN n b0 b1 b2 b3 = (r.toNat, m.toNat) := by
  unfold Lib.decodeN
  rcases h with ⟨a, b, c, d⟩ | ⟨a, b, c, d, e, f, g⟩ | ⟨a, b, c, d, e, f, g, i, j, k, x⟩ | ⟨a, b, c, d, e, f, g, i, j, k, x, y, z⟩
  · rw [if_pos (by omega)]
    subst a; subst d
    rfl
  · have hm : m.toNat = 2 := by omega
    rw [if_neg (by omega), if_pos (by omega), if_pos (by omega), hm]
    exact Prod.ext (by show _ = r.toNat; omega) rfl
  · have hm : m.toNat = 3 := by omega
    rw [if_neg (by omega), if_neg (by omega), if_pos (by omega), if_pos (by omega), hm]
    exact Prod.ext (by show _ = r.toNat; omega) rfl
  · have hm : m.toNat = 4 := by omega
    rw [if_neg (by omega), if_neg (by omega), if_neg (by omega), if_pos (by omega), if_pos (by omega), hm]
    exact Prod.ext (by show _ = r.toNat; omega) rfl
theorem dec_bad {n b0 b1 b2 b3 : Nat} (hn : 1 ≤ n) (h0 : b0 < 256) (h1 : b1 < 256) (h2 : b2 < 256) (h3 : b3 < 256) (h : ∀ r m, ¬ utf.Ch n b0 b1 b2 b3 r m) : Lib.decodeN n b0 b1 b2 b3 = (65533, 1) := by
  unfold Lib.decodeN
  split
  · exact absurd (.inl ⟨rfl, by omega, by omega, rfl⟩) (h b0 1)
  split
  · split
    · exact absurd (.inr (.inl ⟨rfl, by omega, by omega, by omega, by omega, by omega, rfl⟩)) (h _ 2)
    · rfl
  split
  · split
    · exact absurd (.inr (.inr (.inl ⟨rfl, by omega, by omega, by omega, by omega, by omega, by omega, by omega, by omega, by omega, rfl⟩))) (h _ 3)
    · rfl
  split
  · split
    · exact absurd (.inr (.inr (.inr ⟨rfl, by omega, by omega, by omega, by omega, by omega, by omega, by omega, by omega, by omega, by omega, by omega, rfl⟩))) (h _ 4)
    · rfl
  rfl
theorem get_gl (s : ByteArray) (i : Nat) : (((s.get! i).toNat : Nat) : Int) = (unstr s).getD i 0 := by
  by_cases h : i < s.size
  · have e : s.get! i = s[i]'h := by simp [ByteArray.get!, getElem!_pos, h]; rfl
    rw [e]
    exact byte_at s i h
  · have e : s.get! i = 0 := by
      have h' : ¬ i < s.data.size := h
      show s.data[i]! = 0
      rw [getElem!_neg s.data i h']
      rfl
    rw [e, List.getD_eq_getElem?_getD, List.getElem?_eq_none (by rw [unstr_length]; omega)]
    rfl
theorem decode_nx (s : ByteArray) (k : Nat) (hk : k < s.size) : (utf.nxl ((unstr s).drop k)).2 ≠ 0 ∧ (((Utf8.decode s k).1 : Nat) : Int) = (utf.nxl ((unstr s).drop k)).1 ∧ (Utf8.decode s k).2 = (utf.nxl ((unstr s).drop k)).2.toNat ∨ (utf.nxl ((unstr s).drop k)).2 = 0 ∧ Utf8.decode s k = (65533, 1) := by
  have hO : utf.Oct ((unstr s).drop k) := (unstr_oct s).drop k
  have hl : ((unstr s).drop k).length = s.size - k := by rw [List.length_drop, unstr_length]
  have g : ∀ i, utf.gl ((unstr s).drop k) i = (((s.get! (k + i)).toNat : Nat) : Int) := fun i => by rw [utf.gl_drop, get_gl]; rfl
  have hb : ∀ i, (s.get! (k + i)).toNat < 256 := fun i => (s.get! (k + i)).toNat_lt
  have hd := Lib.decode_at s k
  have hb0 := hb 0
  rw [Nat.add_zero] at hb0
  have h := utf.nxl_is hO
  rw [g 0, g 1, g 2, g 3, hl] at h
  rw [Nat.add_zero] at h
  rcases h with h | ⟨h, hn⟩
  · have hlen := utf.ch_len h
    rw [dec_ch hb0 h] at hd
    refine .inl ⟨by omega, ?_, by rw [hd]⟩
    rw [hd]
    have : 0 ≤ (utf.nxl ((unstr s).drop k)).1 := (utf.ch_range (by omega) h).1
    show ((((utf.nxl ((unstr s).drop k)).1).toNat : Nat) : Int) = _
    omega
  · rw [dec_bad (by omega) hb0 (hb 1) (hb 2) (hb 3) hn] at hd
    exact .inr ⟨by rw [h], hd⟩
/-- What nameSize answers. -/
def NsP (r : Option Nat) (n : Int) (ok : Bool) : Prop := match r with | some m => n = (m : Int) ∧ ok = true | none => ok = false
theorem drop_cons_at {l : List Int} {k : Nat} (hk : k < l.length) : (l.drop k).getD 0 0 = l.getD k 0 ∧ l.drop k ≠ [] := by
  refine ⟨by rw [getD_drop]; rfl, fun e => ?_⟩
  have := congrArg List.length e
  rw [List.length_drop] at this
  simp at this
  omega
theorem map_map_add (r : Option Nat) (a b : Nat) : (r.map (· + a)).map (· + b) = r.map (· + (b + a)) := by
  cases r with
  | none => rfl
  | some x => show some (x + a + b) = some (x + (b + a)); congr 1; omega
theorem high_bgn {r : Int} (h : 128 ≤ r) : bgn r = true := by
  unfold bgn
  rw [show decide (127 < r) = true from decide_eq_true (by omega)]
  simp
theorem name_on {l : List Int} (hO : utf.Oct l) {k : Nat} (hk : k < l.length) (hN : nameL l = (nameL (l.drop k)).map (· + k)) :
    (l.getD k 0 < 128 → nch (l.getD k 0) = true → nameL l = (nameL (l.drop (k + 1))).map (· + (k + 1))) ∧
    (l.getD k 0 < 128 → nch (l.getD k 0) = false → nameL l = some k) ∧
    (¬ l.getD k 0 < 128 → (utf.nxl (l.drop k)).2 = 0 → nameL l = none) ∧
    (¬ l.getD k 0 < 128 → (utf.nxl (l.drop k)).2 ≠ 0 → nameL l = (nameL (l.drop (k + (utf.nxl (l.drop k)).2.toNat))).map (· + (k + (utf.nxl (l.drop k)).2.toNat))) := by
  have hc := drop_cons_at hk
  rw [nameL_step (hO.drop k) hc.2, hc.1] at hN
  refine ⟨fun h1 h2 => ?_, fun h1 h2 => ?_, fun h1 h2 => ?_, fun h1 h2 => ?_⟩
  · rw [if_pos h1, if_pos h2, map_map_add, List.drop_drop] at hN
    exact hN
  · rw [if_pos h1, if_neg (by rw [h2]; decide)] at hN
    rw [hN]
    show some (0 + k) = some k
    rw [Nat.zero_add]
  · rw [if_neg h1, if_pos h2] at hN
    exact hN
  · rw [if_neg h1, if_neg h2, map_map_add, List.drop_drop] at hN
    exact hN
set_option maxRecDepth 100000 in
set_option maxHeartbeats 4000000 in
theorem nameSize_any (w : World) (s : ByteArray) (hF : utf.Forms w) (hs : s.size ≤ 1000000000) :
    Calls Tryd.prog 21 #[.string s] w fun e w' => ∃ (n : Int) (ok : Bool), e = .returned (.tuple #[.int .i64 n, .bool ok]) ∧ NsP (nameL (unstr s)) n ok ∧ Below w.heap.size w w' := by
  have HF := Lib.hid hF
  have HI := Lib.hid (World.iter_heap w s 0)
  have HB0 : Hid (Below w.heap.size w (w.iter s 0)) := (Below.refl _ _).alloc (Nat.le_refl _) _
  have hrg := fun (W : World) => run_range_string (P := Tryd.prog) W 9 s Tryd.underlying9
  clear hF
  go_enter Tryd.func21, Tryd.ntmps21
  go_wp2_with fail
  clear hrg
  go_loopw [] (fun wr => ∃ k : Nat, k ≤ s.size ∧ wr.heap[w.heap.size]? = some (.stringIter s k) ∧ Hid (nameL (unstr s) = (nameL ((unstr s).drop k)).map (· + k)) ∧ Hid (Below w.heap.size w wr)) (fun wr => s.size - wr.iterPos w.heap.size)
  case atStart => exact ⟨0, Nat.zero_le _, HI.out, by show _ = _; rw [List.drop_zero]; cases nameL (unstr s) <;> rfl, HB0⟩
  case round =>
    clear HI HB0
    obtain ⟨k, hk, hit, hN, hb⟩ := hrel
    have hmu : wr.iterPos w.heap.size = k := by simp [World.iterPos, hit]
    by_cases hp : k < s.size
    · have hat := byte_at s k hp
      have hon := Lib.hid (name_on (unstr_oct s) (by rw [unstr_length]; exact hp) hN.out)
      obtain ⟨x, hxv⟩ : ∃ x, ((s[k].toNat : Nat) : Int) = x := ⟨_, rfl⟩
      have hx0 : 0 ≤ x := by omega
      have HM := Lib.hid hmu
      clear hN hmu
      by_cases hlow : x < 128
      · obtain ⟨W1, hW1⟩ : ∃ W1, W1 = wr.iterAt w.heap.size s (k + 1) := ⟨_, rfl⟩
        have hnext : ∀ ty, (Instr.next (.pointer (some ⟨w.heap.size, 0, none⟩)) true ty).run Tryd.prog wr = .ok (.tuple #[.bool true, .int .i64 k, .int .i32 x]) W1 := fun ty => by
          rw [Lib.run_next_ascii_at wr w.heap.size s k ty hit hp (by omega), hxv, hW1]
        have HI1 : Hid (W1.heap[w.heap.size]? = some (.stringIter s (k + 1))) := by show _ = _; rw [hW1]; exact Lib.iterAt_heap wr w.heap.size s k (k + 1) hit
        have HB1 : Hid (Below w.heap.size w W1) := by show Below _ _ _; rw [hW1]; exact Lib.below_iterAt hb.out (Nat.le_refl _) s (k + 1)
        clear hW1 hit hb
        have g5 : decide (127 < x) = false := decide_eq_false (by omega)
        cases hbg : bgn x with
        | true =>
          have HG : Hid (∀ v, Calls Tryd.prog 20 #[.int .i32 x] v fun e w' => e = .returned (.bool true) ∧ w' = v) := fun v => by have h := begins_any v x; rw [hbg] at h; exact h
          have hres : Hid (nameL (unstr s) = (nameL ((unstr s).drop (k + 1))).map (· + (k + 1))) := hon.out.1 (by rw [← hat, hxv]; omega) (by rw [← hat, hxv]; unfold nch; rw [hbg]; rfl)
          clear hon hat hxv hbg
          go_wp2_with fail
          with_reducible refine (HG.out _).mono ?_
          rintro e w3 ⟨rfl, rfl⟩
          go_wp2_with fail
          go_roundw
          case rel => exact ⟨k + 1, by omega, HI1.out, hres, HB1⟩
          case measure =>
            have hmu2 : w3.iterPos w.heap.size = k + 1 := by simp [World.iterPos, HI1.out]
            rw [HM.out, hmu2]
            omega
        | false =>
          by_cases q1 : x < 48
          · have g1 : decide (x < 48) = true := decide_eq_true q1
            have hdg : isDig x = false := by unfold isDig; rw [decide_eq_false (by omega)]; rfl
            have HG : Hid (∀ v, Calls Tryd.prog 20 #[.int .i32 x] v fun e w' => e = .returned (.bool false) ∧ w' = v) := fun v => by have h := begins_any v x; rw [hbg] at h; exact h
            have hres : Hid (NsP (nameL (unstr s)) (k : Int) true) := by show NsP _ _ _; rw [hon.out.2.1 (by rw [← hat, hxv]; omega) (by rw [← hat, hxv]; unfold nch; rw [hbg, hdg]; rfl)]; exact ⟨rfl, rfl⟩
            clear hon hat hxv hbg
            clear hdg
            go_wp2_with fail
            with_reducible refine (HG.out _).mono ?_
            rintro e w3 ⟨rfl, rfl⟩
            go_wp2_with fail
            go_ret2
            exact ⟨_, _, rfl, hres.out, HB1.out⟩
          · have g1 : decide (x < 48) = false := decide_eq_false q1
            by_cases q2 : 57 < x
            · have g2 : decide (57 < x) = true := decide_eq_true q2
              have hdg : isDig x = false := by unfold isDig; rw [decide_eq_false (show ¬ x ≤ 57 by omega), Bool.and_false]
              have HG : Hid (∀ v, Calls Tryd.prog 20 #[.int .i32 x] v fun e w' => e = .returned (.bool false) ∧ w' = v) := fun v => by have h := begins_any v x; rw [hbg] at h; exact h
              have hres : Hid (NsP (nameL (unstr s)) (k : Int) true) := by show NsP _ _ _; rw [hon.out.2.1 (by rw [← hat, hxv]; omega) (by rw [← hat, hxv]; unfold nch; rw [hbg, hdg]; rfl)]; exact ⟨rfl, rfl⟩
              clear hon hat hxv hbg
              clear hdg
              go_wp2_with fail
              with_reducible refine (HG.out _).mono ?_
              rintro e w3 ⟨rfl, rfl⟩
              go_wp2_with fail
              go_ret2
              exact ⟨_, _, rfl, hres.out, HB1.out⟩
            · have g2 : decide (57 < x) = false := decide_eq_false q2
              have hdg : isDig x = true := by unfold isDig; rw [decide_eq_true (show 48 ≤ x by omega), decide_eq_true (show x ≤ 57 by omega)]; rfl
              have HG : Hid (∀ v, Calls Tryd.prog 20 #[.int .i32 x] v fun e w' => e = .returned (.bool false) ∧ w' = v) := fun v => by have h := begins_any v x; rw [hbg] at h; exact h
              have hres : Hid (nameL (unstr s) = (nameL ((unstr s).drop (k + 1))).map (· + (k + 1))) := hon.out.1 (by rw [← hat, hxv]; omega) (by rw [← hat, hxv]; unfold nch; rw [hbg]; rw [hdg]; rfl)
              clear hon hat hxv hbg
              clear hdg
              go_wp2_with fail
              with_reducible refine (HG.out _).mono ?_
              rintro e w3 ⟨rfl, rfl⟩
              go_wp2_with fail
              go_roundw
              case rel => exact ⟨k + 1, by omega, HI1.out, hres, HB1⟩
              case measure =>
                have hmu2 : w3.iterPos w.heap.size = k + 1 := by simp [World.iterPos, HI1.out]
                rw [HM.out, hmu2]
                omega
      · have hdn := decode_nx s k hp
        have hSz := fun W (h : utf.Forms W) => size_any W (s.extract k s.size) h (by rw [ByteArray.size_extract]; omega)
        rw [unstr_from] at hSz
        have hml := utf.nxl_len ((unstr_oct s).drop k)
        rw [List.length_drop, unstr_length] at hml
        have hge := (decode_high s k hp (by omega)).1
        obtain ⟨r, m, hrm⟩ : ∃ r m, Utf8.decode s k = (r, m) := ⟨_, _, rfl⟩
        rw [hrm] at hdn hge
        dsimp only at hdn hge
        obtain ⟨W1, hW1⟩ : ∃ W1, W1 = wr.iterAt w.heap.size s (k + m) := ⟨_, rfl⟩
        have hnext : ∀ ty, (Instr.next (.pointer (some ⟨w.heap.size, 0, none⟩)) true ty).run Tryd.prog wr = .ok (.tuple #[.bool true, .int .i64 k, .int .i32 ((r : Nat) : Int)]) W1 := fun ty => by
          rw [Lib.run_next_any_at wr w.heap.size s k ty hit hp, hrm, hW1]
        have HI1 : Hid (W1.heap[w.heap.size]? = some (.stringIter s (k + m))) := by show _ = _; rw [hW1]; exact Lib.iterAt_heap wr w.heap.size s k (k + m) hit
        have HB1 : Hid (Below w.heap.size w W1) := by show Below _ _ _; rw [hW1]; exact Lib.below_iterAt hb.out (Nat.le_refl _) s (k + m)
        have HF1 : Hid (utf.Forms W1) := HF.out.below HB1.out HF.out.size
        have hbl : ∀ {W2 : World}, Below W1.heap.size W1 W2 → Below w.heap.size w W2 := fun h => HB1.out.trans (h.mono HB1.out.size)
        have hit2 : ∀ {W2 : World}, Below W1.heap.size W1 W2 → W2.heap[w.heap.size]? = some (.stringIter s (k + m)) := fun h => (h.block _ (lt_of_block HI1.out)).trans HI1.out
        have Hbl := Lib.hid (fun W2 => @hbl W2)
        have Hit2 := Lib.hid (fun W2 => @hit2 W2)
        have g5 : decide (127 < ((r : Nat) : Int)) = true := decide_eq_true (by omega)
        have HG : Hid (∀ v, Calls Tryd.prog 20 #[.int .i32 ((r : Nat) : Int)] v fun e w' => e = .returned (.bool true) ∧ w' = v) := fun v => by have h := begins_any v ((r : Nat) : Int); rw [high_bgn (by omega)] at h; exact h
        have HS := Lib.hid hSz
        clear hW1 hit hb hrm hSz hbl hit2
        have hkx : k ≤ s.size := Nat.le_of_lt hp
        rcases hdn with ⟨hne, hr0, hm⟩ | ⟨hz, hm⟩
        · have hres : Hid (nameL (unstr s) = (nameL ((unstr s).drop (k + m))).map (· + (k + m))) := by show _ = _; rw [hm]; exact hon.out.2.2.2 (by rw [← hat, hxv]; exact hlow) hne
          have hq : ((utf.nxl ((unstr s).drop k)).2 == 0) = false := beq_eq_false_iff_ne.2 hne
          have hm1 : 1 ≤ m ∧ k + m ≤ s.size := by omega
          have HL := Lib.hid (And.intro hm1 hge)
          clear hon hat hm hml hne hm1 hge hlow hxv hr0
          generalize (utf.nxl ((unstr s).drop k)).2 = y at HS hq
          go_wp2_with fail
          with_reducible refine (HG.out _).mono ?_
          rintro e w3 ⟨rfl, rfl⟩
          go_wp2_with fail
          with_reducible refine (HS.out _ HF1.out).mono ?_
          rintro e w4 ⟨rfl, hb4⟩
          have HB4 := Lib.hid (Hbl.out _ hb4)
          have HI4 := Lib.hid (Hit2.out _ hb4)
          clear hb4
          go_wp2_with fail
          go_roundw
          case rel => exact ⟨k + m, HL.out.1.2, HI4.out, hres, HB4⟩
          case measure =>
            have hmu2 : w4.iterPos w.heap.size = k + m := by simp [World.iterPos, HI4.out]
            have hl := HL.out
            rw [HM.out, hmu2]
            omega
        · have hres : Hid (NsP (nameL (unstr s)) (k : Int) false) := by show NsP _ _ _; rw [hon.out.2.2.1 (by rw [← hat, hxv]; exact hlow) hz]; rfl
          clear hon hat hm hml hge hlow hxv
          rw [hz] at HS
          clear hz
          go_wp2_with fail
          with_reducible refine (HG.out _).mono ?_
          rintro e w3 ⟨rfl, rfl⟩
          go_wp2_with fail
          with_reducible refine (HS.out _ HF1.out).mono ?_
          rintro e w4 ⟨rfl, hb4⟩
          have HB4 := Lib.hid (Hbl.out _ hb4)
          clear hb4
          go_wp2_with fail
          go_ret2
          exact ⟨_, _, rfl, hres.out, HB4.out⟩
    · have hnext : ∀ ty, (Instr.next (.pointer (some ⟨w.heap.size, 0, none⟩)) true ty).run Tryd.prog wr = _ := fun ty => Lib.run_next_end_at wr w.heap.size s k ty hit hp
      have hres : Hid (NsP (nameL (unstr s)) (s.size : Int) true) := by
        show NsP _ _ _
        rw [hN.out, List.drop_eq_nil_of_le (by rw [unstr_length]; omega), nameL_nil]
        exact ⟨by show _ = (((0 + k : Nat)) : Int); omega, rfl⟩
      have HB := Lib.hid hb.out
      clear hN hit hmu hb
      go_wp2_with fail
      go_ret2
      exact ⟨_, _, rfl, hres.out, HB.out⟩
end Go.Proofs.YtkifndecpbphbaaDoor.dk
/- name, number. -/
namespace Go.Proofs.YtkifndecpbphbaaDoor.dk
open Go.PlainAid Go.ChangeShapes Go.WideShapes Go.ChangeAt Go.RowKit

set_option maxRecDepth 100000 in
set_option maxHeartbeats 2000000 in
theorem name_any (w : World) (s : ByteArray) (hF : utf.Forms w) (hs : s.size ≤ 1000000000) :
    Calls Tryd.prog 36 #[.string s] w fun e w' => e = .returned (nameFs (unstr s)).val ∧ Below w.heap.size w w' := by
  obtain ⟨wa, hwa⟩ : ∃ wa, wa = w.alloc (.cells #[.int .i64 0, .string ⟨#[]⟩, .bool false, .string ⟨#[]⟩, .int .i64 0, .int .i64 0, .int .i64 0] 30) := ⟨_, rfl⟩
  have hr : wa.heap[w.heap.size]? = some (.cells #[.int .i64 0, .string ⟨#[]⟩, .bool false, .string ⟨#[]⟩, .int .i64 0, .int .i64 0, .int .i64 0] 30 (0, 0)) := by rw [hwa]; exact heap_alloc_new _ _
  have hb : Below w.heap.size w wa := by rw [hwa]; exact (Below.refl _ _).alloc (Nat.le_refl _) _
  have HW := Lib.hid hwa
  have HR := Lib.hid hr
  have HB := Lib.hid hb
  have HN := Lib.hid (nameSize_any wa s (hF.below hb hF.size) hs)
  clear hwa hr hb hF
  cases hn : nameL (unstr s) with
  | none =>
    have hv : (nameFs (unstr s)).val = .tuple #[.agg #[.int .i64 0, .string ⟨#[]⟩, .bool false, .string ⟨#[]⟩, .int .i64 0, .int .i64 0, .int .i64 0], .int .i64 0, .int .i64 2] := by unfold nameFs; rw [hn]; rfl
    rw [hv]
    rw [hn] at HN
    clear hv
    go_enter Tryd.func36, Tryd.ntmps36
    go_upto_region 1 with fail
    rw [← HW.out]
    clear HW
    go_wp2_with fail
    with_reducible refine HN.out.mono ?_
    rintro e w3 ⟨n, ok, rfl, hok, hb3⟩
    obtain rfl : ok = false := hok
    have HR3 := Lib.hid ((hb3.block _ (lt_of_block HR.out)).trans HR.out)
    have HB3 := Lib.hid (HB.out.trans (hb3.mono HB.out.size))
    clear hb3 HR HB HN
    have hS := set7 (v0 := .int .i64 0) (v1 := .string ⟨#[]⟩) (v2 := .bool false) (v3 := .string ⟨#[]⟩) (v4 := .int .i64 0) (v5 := .int .i64 0) (v6 := .int .i64 0) HR3.out (Nat.le_refl _) HB3.out
    have HS := Lib.hid hS
    obtain ⟨_, y0, y1, y2, y3, y4, y5, y6⟩ := row7 HR3.out
    clear hS HR3 HB3
    go_wp2_with fail
    refine bodyPost_ret (results_row_tmp2 rfl _ _ w.heap.size _ _ _ _ rfl HS.out.1 Tryd.underlying30 rfl (by kernel_rfl)) rfl ⟨rfl, HS.out.2⟩
  | some m =>
    have hm : m ≤ s.size := by have := nameL_le (unstr_oct s) hn; rw [unstr_length] at this; exact this
    have hv : (nameFs (unstr s)).val = .tuple #[.agg #[.int .i64 1, .string (s.extract 0 m), .bool false, .string ⟨#[]⟩, .int .i64 0, .int .i64 0, .int .i64 0], .int .i64 m, .int .i64 0] := by unfold nameFs; rw [hn, cut_strOf]; rfl
    rw [hv]
    rw [hn] at HN
    have hm1 : (m : Int) ≤ (s.size : Int) := by omega
    clear hv
    go_enter Tryd.func36, Tryd.ntmps36
    go_upto_region 1 with fail
    rw [← HW.out]
    clear HW
    go_wp2_with fail
    with_reducible refine HN.out.mono ?_
    rintro e w3 ⟨n, ok, rfl, hok, hb3⟩
    obtain ⟨rfl, rfl⟩ : n = (m : Int) ∧ ok = true := hok
    have HR3 := Lib.hid ((hb3.block _ (lt_of_block HR.out)).trans HR.out)
    have HB3 := Lib.hid (HB.out.trans (hb3.mono HB.out.size))
    clear hb3 HR HB HN
    have hS := set7 (v0 := .int .i64 1) (v1 := .string (s.extract 0 m)) (v2 := .bool false) (v3 := .string ⟨#[]⟩) (v4 := .int .i64 0) (v5 := .int .i64 0) (v6 := .int .i64 0) HR3.out (Nat.le_refl _) HB3.out
    have HS := Lib.hid hS
    obtain ⟨_, y0, y1, y2, y3, y4, y5, y6⟩ := row7 HR3.out
    clear hS HR3 HB3
    go_wp2_with fail
    refine bodyPost_ret (results_row_tmp2 rfl _ _ w.heap.size _ _ _ _ rfl HS.out.1 Tryd.underlying30 rfl (by kernel_rfl)) rfl ⟨rfl, HS.out.2⟩

theorem numberFs_val (l : List Int) {qn : Bool} {qd : ByteArray} {qx qe : Int} (h : parseQ (strOf (l.take (numL l))) = ⟨qn, qd, qx, qe⟩) :
    (numberFs l).val = if qe = 0 then .tuple #[.agg #[.int .i64 3, .string ⟨#[]⟩, .bool qn, .string qd, .int .i64 qx, .int .i64 0, .int .i64 0], .int .i64 (numL l), .int .i64 0] else .tuple #[.agg #[.int .i64 0, .string ⟨#[]⟩, .bool false, .string ⟨#[]⟩, .int .i64 0, .int .i64 0, .int .i64 0], .int .i64 0, .int .i64 qe] := by
  unfold numberFs
  rw [h]
  dsimp only
  split <;> rfl
set_option maxRecDepth 100000 in
set_option maxHeartbeats 2000000 in
theorem number_any (w : World) (s : ByteArray) (hs : s.size ≤ 1000000000) :
    Calls Tryd.prog 38 #[.string s] w fun e w' => e = .returned (numberFs (unstr s)).val ∧ Below w.heap.size w w' := by
  obtain ⟨wa, hwa⟩ : ∃ wa, wa = w.alloc (.cells #[.int .i64 0, .string ⟨#[]⟩, .bool false, .string ⟨#[]⟩, .int .i64 0, .int .i64 0, .int .i64 0] 30) := ⟨_, rfl⟩
  have hr : wa.heap[w.heap.size]? = some (.cells #[.int .i64 0, .string ⟨#[]⟩, .bool false, .string ⟨#[]⟩, .int .i64 0, .int .i64 0, .int .i64 0] 30 (0, 0)) := by rw [hwa]; exact heap_alloc_new _ _
  have hb : Below w.heap.size w wa := by rw [hwa]; exact (Below.refl _ _).alloc (Nat.le_refl _) _
  have HW := Lib.hid hwa
  have HR := Lib.hid hr
  have HB := Lib.hid hb
  obtain ⟨L, hL⟩ : ∃ L, L = numL (unstr s) := ⟨_, rfl⟩
  have hP := fun v => Parse_q v (s.extract 0 L) (by rw [ByteArray.size_extract]; omega)
  obtain ⟨q, hq⟩ : ∃ q, parseQ (s.extract 0 L) = q := ⟨_, rfl⟩
  obtain ⟨qn, qd, qx, qe⟩ := q
  rw [hq] at hP
  have hv := numberFs_val (unstr s) (qn := qn) (qd := qd) (qx := qx) (qe := qe) (by rw [← hL, ← cut_strOf]; exact hq)
  rw [← hL] at hv
  rw [hv]
  have HP : Hid (∀ v, Calls Tryd.prog 50 #[.string (s.extract 0 L)] v fun e w' => e = .returned (.tuple #[.agg #[.bool qn, .string qd, .int .i64 qx], .int .i64 qe]) ∧ Below v.heap.size v w') := hP
  have HI := Lib.hid (fun v k => inNumber_any v s k hs)
  have HL : Hid (L = numF (unstr s).length (unstr s) 0) := hL
  have hlen := unstr_length s
  rw [hlen] at HL
  clear hwa hr hb hL hP hq hv
  by_cases hqe : qe = 0
  · subst hqe
    rw [if_pos rfl]
    go_enter Tryd.func38, Tryd.ntmps38
    go_upto_region 1 with fail
    rw [← HW.out]
    clear HW
    go_wp2_with fail
    go_loopw [5] (fun i wr => ∃ k : Nat, k ≤ s.size ∧ i = .int .i64 k ∧ Hid (L = numF (s.size - k) (unstr s) k) ∧ wr = wa) (fun i _ => s.size - (intOf i).toNat)
    case atStart => exact ⟨0, Nat.zero_le _, rfl, HL, rfl⟩
    case round =>
      clear HL
      obtain ⟨k, hk, rfl, hN, rfl⟩ := hrel
      by_cases hkl : k < s.size
      · have HIk := Lib.hid (HI.out wr k hkl)
        cases hin : inNum (unstr s) k with
        | true =>
          have hN2 : Hid (L = numF (s.size - (k + 1)) (unstr s) (k + 1)) := by
            have h := hN.out
            rw [numF_go (by omega) hin (by omega)] at h
            rw [show s.size - (k + 1) = s.size - k - 1 by omega]
            exact h
          rw [hin] at HIk
          clear hN hin HP HI
          go_wp2_with fail
          with_reducible refine HIk.out.mono ?_
          rintro e w3 ⟨rfl, rfl⟩
          go_wp2_with fail
          go_roundw
          case rel => exact ⟨k + 1, by omega, by go_num, hN2, trivial⟩
          case measure => simp [intOf]; omega
        | false =>
          have hK : L = k := by
            have h := hN.out
            rw [numF_stop (fun _ => hin)] at h
            exact h
          subst hK
          have hLs : (L : Int) ≤ (s.size : Int) := by omega
          rw [hin] at HIk
          clear hN hin HI
          go_wp2_with fail
          with_reducible refine HIk.out.mono ?_
          rintro e w4 ⟨rfl, rfl⟩
          go_wp2_with fail
          with_reducible refine (HP.out _).mono ?_
          rintro e w3 ⟨rfl, hb3⟩
          have HR3 := Lib.hid (alloc_old (.cells #[.bool qn, .string qd, .int .i64 qx] 28) ((hb3.block _ (lt_of_block HR.out)).trans HR.out))
          have HB3 := Lib.hid ((HB.out.trans (hb3.mono HB.out.size)).alloc (Nat.le_trans HB.out.size hb3.size) (.cells #[.bool qn, .string qd, .int .i64 qx] 28))
          clear hb3 HR HB HP
          have hS := set7 (v0 := .int .i64 3) (v1 := .string ⟨#[]⟩) (v2 := .bool qn) (v3 := .string qd) (v4 := .int .i64 qx) (v5 := .int .i64 0) (v6 := .int .i64 0) HR3.out (Nat.le_refl _) HB3.out
          have HS := Lib.hid hS
          obtain ⟨_, y0, y1, y2, y3, y4, y5, y6⟩ := row7 HR3.out
          clear hS HR3 HB3
          go_wp2_with fail
          refine bodyPost_ret (results_row_tmp2 rfl _ _ w.heap.size _ _ _ _ rfl HS.out.1 Tryd.underlying30 rfl (by kernel_rfl)) rfl ⟨rfl, HS.out.2⟩
      · have hK : L = k := by
          have h := hN.out
          rw [numF_stop (fun hh => absurd hh (by omega))] at h
          exact h
        subst hK
        have hLs : (L : Int) ≤ (s.size : Int) := by omega
        clear hN HI
        go_wp2_with fail
        with_reducible refine (HP.out _).mono ?_
        rintro e w3 ⟨rfl, hb3⟩
        have HR3 := Lib.hid (alloc_old (.cells #[.bool qn, .string qd, .int .i64 qx] 28) ((hb3.block _ (lt_of_block HR.out)).trans HR.out))
        have HB3 := Lib.hid ((HB.out.trans (hb3.mono HB.out.size)).alloc (Nat.le_trans HB.out.size hb3.size) (.cells #[.bool qn, .string qd, .int .i64 qx] 28))
        clear hb3 HR HB HP
        have hS := set7 (v0 := .int .i64 3) (v1 := .string ⟨#[]⟩) (v2 := .bool qn) (v3 := .string qd) (v4 := .int .i64 qx) (v5 := .int .i64 0) (v6 := .int .i64 0) HR3.out (Nat.le_refl _) HB3.out
        have HS := Lib.hid hS
        obtain ⟨_, y0, y1, y2, y3, y4, y5, y6⟩ := row7 HR3.out
        clear hS HR3 HB3
        go_wp2_with fail
        refine bodyPost_ret (results_row_tmp2 rfl _ _ w.heap.size _ _ _ _ rfl HS.out.1 Tryd.underlying30 rfl (by kernel_rfl)) rfl ⟨rfl, HS.out.2⟩
  · rw [if_neg hqe]
    have hqe2 : (qe != 0) = true := bne_iff_ne.2 hqe
    go_enter Tryd.func38, Tryd.ntmps38
    go_upto_region 1 with fail
    rw [← HW.out]
    clear HW
    go_wp2_with fail
    go_loopw [5] (fun i wr => ∃ k : Nat, k ≤ s.size ∧ i = .int .i64 k ∧ Hid (L = numF (s.size - k) (unstr s) k) ∧ wr = wa) (fun i _ => s.size - (intOf i).toNat)
    case atStart => exact ⟨0, Nat.zero_le _, rfl, HL, rfl⟩
    case round =>
      clear HL
      obtain ⟨k, hk, rfl, hN, rfl⟩ := hrel
      by_cases hkl : k < s.size
      · have HIk := Lib.hid (HI.out wr k hkl)
        cases hin : inNum (unstr s) k with
        | true =>
          have hN2 : Hid (L = numF (s.size - (k + 1)) (unstr s) (k + 1)) := by
            have h := hN.out
            rw [numF_go (by omega) hin (by omega)] at h
            rw [show s.size - (k + 1) = s.size - k - 1 by omega]
            exact h
          rw [hin] at HIk
          clear hN hin HP HI
          go_wp2_with fail
          with_reducible refine HIk.out.mono ?_
          rintro e w3 ⟨rfl, rfl⟩
          go_wp2_with fail
          go_roundw
          case rel => exact ⟨k + 1, by omega, by go_num, hN2, trivial⟩
          case measure => simp [intOf]; omega
        | false =>
          have hK : L = k := by
            have h := hN.out
            rw [numF_stop (fun _ => hin)] at h
            exact h
          subst hK
          have hLs : (L : Int) ≤ (s.size : Int) := by omega
          rw [hin] at HIk
          clear hN hin HI
          go_wp2_with fail
          with_reducible refine HIk.out.mono ?_
          rintro e w4 ⟨rfl, rfl⟩
          go_wp2_with fail
          with_reducible refine (HP.out _).mono ?_
          rintro e w3 ⟨rfl, hb3⟩
          have HR3 := Lib.hid (alloc_old (.cells #[.bool qn, .string qd, .int .i64 qx] 28) ((hb3.block _ (lt_of_block HR.out)).trans HR.out))
          have HB3 := Lib.hid ((HB.out.trans (hb3.mono HB.out.size)).alloc (Nat.le_trans HB.out.size hb3.size) (.cells #[.bool qn, .string qd, .int .i64 qx] 28))
          clear hb3 HR HB HP
          have hS := set7 (v0 := .int .i64 0) (v1 := .string ⟨#[]⟩) (v2 := .bool false) (v3 := .string ⟨#[]⟩) (v4 := .int .i64 0) (v5 := .int .i64 0) (v6 := .int .i64 0) HR3.out (Nat.le_refl _) HB3.out
          have HS := Lib.hid hS
          obtain ⟨_, y0, y1, y2, y3, y4, y5, y6⟩ := row7 HR3.out
          clear hS HR3 HB3
          go_wp2_with fail
          refine bodyPost_ret (results_row_tmp2 rfl _ _ w.heap.size _ _ _ _ rfl HS.out.1 Tryd.underlying30 rfl (by kernel_rfl)) rfl ⟨rfl, HS.out.2⟩
      · have hK : L = k := by
          have h := hN.out
          rw [numF_stop (fun hh => absurd hh (by omega))] at h
          exact h
        subst hK
        have hLs : (L : Int) ≤ (s.size : Int) := by omega
        clear hN HI
        go_wp2_with fail
        with_reducible refine (HP.out _).mono ?_
        rintro e w3 ⟨rfl, hb3⟩
        have HR3 := Lib.hid (alloc_old (.cells #[.bool qn, .string qd, .int .i64 qx] 28) ((hb3.block _ (lt_of_block HR.out)).trans HR.out))
        have HB3 := Lib.hid ((HB.out.trans (hb3.mono HB.out.size)).alloc (Nat.le_trans HB.out.size hb3.size) (.cells #[.bool qn, .string qd, .int .i64 qx] 28))
        clear hb3 HR HB HP
        have hS := set7 (v0 := .int .i64 0) (v1 := .string ⟨#[]⟩) (v2 := .bool false) (v3 := .string ⟨#[]⟩) (v4 := .int .i64 0) (v5 := .int .i64 0) (v6 := .int .i64 0) HR3.out (Nat.le_refl _) HB3.out
        have HS := Lib.hid hS
        obtain ⟨_, y0, y1, y2, y3, y4, y5, y6⟩ := row7 HR3.out
        clear hS HR3 HB3
        go_wp2_with fail
        refine bodyPost_ret (results_row_tmp2 rfl _ _ w.heap.size _ _ _ _ rfl HS.out.1 Tryd.underlying30 rfl (by kernel_rfl)) rfl ⟨rfl, HS.out.2⟩
end Go.Proofs.YtkifndecpbphbaaDoor.dk
