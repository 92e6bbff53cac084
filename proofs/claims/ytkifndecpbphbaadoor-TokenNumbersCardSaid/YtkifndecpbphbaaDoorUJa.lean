/- Plain facts about characters and bytes, without a program: what bytes begin with, as a function on numbers; bit operations as arithmetic. -/
import Derived.Laws.BitsAllLaws
import Derived.PlainAid
namespace Go.Proofs.YtkifndecpbphbaaDoor.utf
open Go.RowKit

/-- A byte behind the first one of a character. -/
def cont (b : Int) : Bool := decide (128 ≤ b) && decide (b ≤ 191)

/-- The eight forms: first byte from .. to, how many bytes, second byte from .. to. -/
def fcell : List (Int × Int × Int × Int × Int) :=
  [(194, 223, 2, 128, 191), (224, 224, 3, 160, 191), (225, 236, 3, 128, 191), (237, 237, 3, 128, 159), (238, 239, 3, 128, 191), (240, 240, 4, 144, 191), (241, 243, 4, 128, 191), (244, 244, 4, 128, 143)]

/-- What a form that fits the first byte makes of the bytes. -/
def body (n b0 b1 b2 b3 size low high : Int) : Int × Int :=
  if n < size then (0, 0) else if b1 < low then (0, 0) else if high < b1 then (0, 0) else
  if cont b1 = false then (0, 0) else if size = 2 then (b0 % 32 * 64 + b1 % 64, 2) else
  if cont b2 = false then (0, 0) else if size = 3 then ((b0 % 16 * 64 + b1 % 64) * 64 + b2 % 64, 3) else
  if cont b3 = false then (0, 0) else (((b0 % 8 * 64 + b1 % 64) * 64 + b2 % 64) * 64 + b3 % 64, 4)

def scan (n b0 b1 b2 b3 : Int) : List (Int × Int × Int × Int × Int) → Int × Int
  | [] => (0, 0)
  | (lead, last, size, low, high) :: fs => if b0 < lead then scan n b0 b1 b2 b3 fs else if last < b0 then scan n b0 b1 b2 b3 fs else body n b0 b1 b2 b3 size low high

/-- What n bytes (the first four of them b0 to b3) begin with: the character, and how many bytes. -/
def nx (n b0 b1 b2 b3 : Int) : Int × Int := if n ≤ 0 then (0, 0) else if b0 < 128 then (b0, 1) else scan n b0 b1 b2 b3 fcell

theorem fcell_at (k : Nat) (h : k < 8) : ∃ lead last size low high : Int, fcell.drop k = (lead, last, size, low, high) :: fcell.drop (k + 1) ∧ 0 ≤ lead ∧ lead ≤ 255 ∧ 0 ≤ last ∧ last ≤ 255 ∧ 2 ≤ size ∧ size ≤ 4 ∧ 0 ≤ low ∧ low ≤ 255 ∧ 0 ≤ high ∧ high ≤ 255 := by
  match k, h with
  | 0, _ => exact ⟨194, 223, 2, 128, 191, rfl, by decide⟩
  | 1, _ => exact ⟨224, 224, 3, 160, 191, rfl, by decide⟩
  | 2, _ => exact ⟨225, 236, 3, 128, 191, rfl, by decide⟩
  | 3, _ => exact ⟨237, 237, 3, 128, 159, rfl, by decide⟩
  | 4, _ => exact ⟨238, 239, 3, 128, 191, rfl, by decide⟩
  | 5, _ => exact ⟨240, 240, 4, 144, 191, rfl, by decide⟩
  | 6, _ => exact ⟨241, 243, 4, 128, 191, rfl, by decide⟩
  | 7, _ => exact ⟨244, 244, 4, 128, 143, rfl, by decide⟩

theorem byte_case {P : Int → Prop} (h : ∀ n : Fin 256, P (n.val : Int)) (b : Int) (h0 : 0 ≤ b) (h1 : b ≤ 255) : P b := by
  have := h ⟨b.toNat, by omega⟩
  simpa [Int.toNat_of_nonneg h0] using this

theorem and192 (b : Int) (h0 : 0 ≤ b) (h1 : b ≤ 255) : (bits .and .u8 b 192 != 128) = !cont b :=
  byte_case (P := fun b => (bits .and .u8 b 192 != 128) = !cont b) (by decide +kernel) b h0 h1
theorem and31 (b : Int) (h0 : 0 ≤ b) (h1 : b ≤ 255) : bits .and .i32 b 31 = b % 32 :=
  byte_case (P := fun b => bits .and .i32 b 31 = b % 32) (by decide +kernel) b h0 h1
theorem and15 (b : Int) (h0 : 0 ≤ b) (h1 : b ≤ 255) : bits .and .i32 b 15 = b % 16 :=
  byte_case (P := fun b => bits .and .i32 b 15 = b % 16) (by decide +kernel) b h0 h1
theorem and7 (b : Int) (h0 : 0 ≤ b) (h1 : b ≤ 255) : bits .and .i32 b 7 = b % 8 :=
  byte_case (P := fun b => bits .and .i32 b 7 = b % 8) (by decide +kernel) b h0 h1

/-- r<<6 | x, as a sum. -/
theorem or64 (r x : Int) (h0 : 0 ≤ r) (h1 : r < 33554432) (h2 : 0 ≤ x) (h3 : x < 64) : bits .or .i32 (wrap32 (r * 64)) x = r * 64 + x := by
  obtain ⟨n, rfl⟩ := Int.eq_ofNat_of_zero_le h0
  obtain ⟨m, rfl⟩ := Int.eq_ofNat_of_zero_le h2
  have hw : wrap32 ((n : Int) * 64) = ((n * 64 : Nat) : Int) := by
    rw [IntWalk.wrap32_in _ (by omega)]; omega
  rw [hw]
  have := i32_or6 (x := ((n * 64 : Nat) : Int)) (y := (m : Int)) (by omega) (by omega) (by omega) (by omega) (by omega)
  rw [this]; omega
end Go.Proofs.YtkifndecpbphbaaDoor.utf
/- Plain facts about what bytes begin with: the four shapes of a character, and back. -/
namespace Go.Proofs.YtkifndecpbphbaaDoor.utf
open Go.RowKit

/-- The bytes b0 .. (n of them there) begin with the character r, of m bytes. -/
def Ch (n b0 b1 b2 b3 r m : Int) : Prop :=
  (m = 1 ∧ 1 ≤ n ∧ b0 < 128 ∧ r = b0) ∨
  (m = 2 ∧ 2 ≤ n ∧ 194 ≤ b0 ∧ b0 ≤ 223 ∧ 128 ≤ b1 ∧ b1 ≤ 191 ∧ r = (b0 - 192) * 64 + (b1 - 128)) ∨
  (m = 3 ∧ 3 ≤ n ∧ 224 ≤ b0 ∧ b0 ≤ 239 ∧ 128 ≤ b1 ∧ b1 ≤ 191 ∧ 128 ≤ b2 ∧ b2 ≤ 191 ∧ (b0 = 224 → 160 ≤ b1) ∧ (b0 = 237 → b1 ≤ 159) ∧ r = (b0 - 224) * 4096 + (b1 - 128) * 64 + (b2 - 128)) ∨
  (m = 4 ∧ 4 ≤ n ∧ 240 ≤ b0 ∧ b0 ≤ 244 ∧ 128 ≤ b1 ∧ b1 ≤ 191 ∧ 128 ≤ b2 ∧ b2 ≤ 191 ∧ 128 ≤ b3 ∧ b3 ≤ 191 ∧ (b0 = 240 → 144 ≤ b1) ∧ (b0 = 244 → b1 ≤ 143) ∧ r = (b0 - 240) * 262144 + (b1 - 128) * 4096 + (b2 - 128) * 64 + (b3 - 128))

theorem cont_iff (b : Int) : cont b = true ↔ 128 ≤ b ∧ b ≤ 191 := by simp [cont]
theorem cont_not (b : Int) : cont b = false ↔ ¬ (128 ≤ b ∧ b ≤ 191) := by rw [← cont_iff]; simp

theorem body_two (n b0 b1 b2 b3 low high : Int) : body n b0 b1 b2 b3 2 low high = (if 2 ≤ n ∧ low ≤ b1 ∧ b1 ≤ high ∧ cont b1 = true then (b0 % 32 * 64 + b1 % 64, 2) else (0, 0)) := by
  unfold body
  by_cases h1 : n < 2
  · rw [if_pos h1, if_neg (by omega)]
  by_cases h2 : b1 < low
  · rw [if_neg h1, if_pos h2, if_neg (by omega)]
  by_cases h3 : high < b1
  · rw [if_neg h1, if_neg h2, if_pos h3, if_neg (by omega)]
  rw [if_neg h1, if_neg h2, if_neg h3]
  by_cases h4 : cont b1 = true
  · rw [if_neg (by rw [h4]; decide), if_pos rfl, if_pos ⟨by omega, by omega, by omega, h4⟩]
  · rw [if_pos (by simpa using h4), if_neg (fun h => h4 h.2.2.2)]
theorem body_three (n b0 b1 b2 b3 low high : Int) : body n b0 b1 b2 b3 3 low high = (if 3 ≤ n ∧ low ≤ b1 ∧ b1 ≤ high ∧ cont b1 = true ∧ cont b2 = true then ((b0 % 16 * 64 + b1 % 64) * 64 + b2 % 64, 3) else (0, 0)) := by
  unfold body
  by_cases h1 : n < 3
  · rw [if_pos h1, if_neg (by omega)]
  by_cases h2 : b1 < low
  · rw [if_neg h1, if_pos h2, if_neg (by omega)]
  by_cases h3 : high < b1
  · rw [if_neg h1, if_neg h2, if_pos h3, if_neg (by omega)]
  rw [if_neg h1, if_neg h2, if_neg h3]
  by_cases h4 : cont b1 = true
  · by_cases h5 : cont b2 = true
    · rw [if_neg (by rw [h4]; decide), if_neg (by decide), if_neg (by rw [h5]; decide), if_pos rfl, if_pos ⟨by omega, by omega, by omega, h4, h5⟩]
    · rw [if_neg (by rw [h4]; decide), if_neg (by decide), if_pos (by simpa using h5), if_neg (fun h => h5 h.2.2.2.2)]
  · rw [if_pos (by simpa using h4), if_neg (fun h => h4 h.2.2.2.1)]
theorem body_four (n b0 b1 b2 b3 low high : Int) : body n b0 b1 b2 b3 4 low high = (if 4 ≤ n ∧ low ≤ b1 ∧ b1 ≤ high ∧ cont b1 = true ∧ cont b2 = true ∧ cont b3 = true then (((b0 % 8 * 64 + b1 % 64) * 64 + b2 % 64) * 64 + b3 % 64, 4) else (0, 0)) := by
  unfold body
  by_cases h1 : n < 4
  · rw [if_pos h1, if_neg (by omega)]
  by_cases h2 : b1 < low
  · rw [if_neg h1, if_pos h2, if_neg (by omega)]
  by_cases h3 : high < b1
  · rw [if_neg h1, if_neg h2, if_pos h3, if_neg (by omega)]
  rw [if_neg h1, if_neg h2, if_neg h3]
  by_cases h4 : cont b1 = true
  · by_cases h5 : cont b2 = true
    · by_cases h6 : cont b3 = true
      · rw [if_neg (by rw [h4]; decide), if_neg (by decide), if_neg (by rw [h5]; decide), if_neg (by decide), if_neg (by rw [h6]; decide), if_pos ⟨by omega, by omega, by omega, h4, h5, h6⟩]
      · rw [if_neg (by rw [h4]; decide), if_neg (by decide), if_neg (by rw [h5]; decide), if_neg (by decide), if_pos (by simpa using h6), if_neg (fun h => h6 h.2.2.2.2.2)]
    · rw [if_neg (by rw [h4]; decide), if_neg (by decide), if_pos (by simpa using h5), if_neg (fun h => h5 h.2.2.2.2.1)]
  · rw [if_pos (by simpa using h4), if_neg (fun h => h4 h.2.2.2.1)]

theorem scan_step (n b0 b1 b2 b3 lead last size low high : Int) (fs : List (Int × Int × Int × Int × Int)) :
    scan n b0 b1 b2 b3 ((lead, last, size, low, high) :: fs) = if lead ≤ b0 ∧ b0 ≤ last then body n b0 b1 b2 b3 size low high else scan n b0 b1 b2 b3 fs := by
  show (if b0 < lead then _ else if last < b0 then _ else _) = _
  by_cases h1 : b0 < lead
  · rw [if_pos h1, if_neg (by omega)]
  · by_cases h2 : last < b0
    · rw [if_neg h1, if_pos h2, if_neg (by omega)]
    · rw [if_neg h1, if_neg h2, if_pos (by omega)]

theorem ite_ok {P : Int × Int → Prop} {c : Prop} [Decidable c] {a b : Int × Int} (ha : c → P a) (hb : ¬ c → P b) : P (if c then a else b) := by
  by_cases h : c
  · rw [if_pos h]; exact ha h
  · rw [if_neg h]; exact hb h

/-- v is what the bytes begin with: a character, or none. -/
def Begins (n b0 b1 b2 b3 : Int) (v : Int × Int) : Prop := Ch n b0 b1 b2 b3 v.1 v.2 ∨ (v = (0, 0) ∧ ∀ r m, ¬ Ch n b0 b1 b2 b3 r m)

/-- What 'nx' says is a character is one; else it says (0, 0) and there is none. -/
theorem nx_is (n b0 b1 b2 b3 : Int) (h0 : 0 ≤ b0) (h1 : b0 ≤ 255) : Begins n b0 b1 b2 b3 (nx n b0 b1 b2 b3) := by
  unfold nx
  refine ite_ok (fun hn => .inr ⟨rfl, fun r m h => by unfold Ch at h; omega⟩) (fun hn => ?_)
  refine ite_ok (fun ha => .inl (.inl ⟨rfl, by omega, ha, rfl⟩)) (fun ha => ?_)
  unfold fcell
  simp only [scan_step, body_two, body_three, body_four]
  simp only [cont_iff]
  repeat' (refine ite_ok (fun _ => ?_) (fun _ => ?_))
  all_goals first
    | exact .inl (.inr (.inl ⟨rfl, by omega, by omega, by omega, by omega, by omega, by show _ * 64 + _ = _; omega⟩))
    | exact .inl (.inr (.inr (.inl ⟨rfl, by omega, by omega, by omega, by omega, by omega, by omega, by omega, by omega, by omega, by show _ * 64 + _ = _; omega⟩)))
    | exact .inl (.inr (.inr (.inr ⟨rfl, by omega, by omega, by omega, by omega, by omega, by omega, by omega, by omega, by omega, by omega, by omega, by show _ * 64 + _ = _; omega⟩)))
    | exact .inr ⟨rfl, fun r m h => by unfold Ch at h; omega⟩

/-- The bytes say which character. -/
theorem ch_one {n b0 b1 b2 b3 r m r' m' : Int} (h : Ch n b0 b1 b2 b3 r m) (h' : Ch n b0 b1 b2 b3 r' m') : r = r' ∧ m = m' := by
  unfold Ch at h h'; omega
theorem nx_ch {n b0 b1 b2 b3 r m : Int} (h0 : 0 ≤ b0) (h1 : b0 ≤ 255) (h : Ch n b0 b1 b2 b3 r m) : nx n b0 b1 b2 b3 = (r, m) := by
  rcases nx_is n b0 b1 b2 b3 h0 h1 with h' | ⟨_, h'⟩
  · obtain ⟨e, f⟩ := ch_one h' h
    rw [← e, ← f]
  · exact absurd h (h' r m)
theorem ch_len {n b0 b1 b2 b3 r m : Int} (h : Ch n b0 b1 b2 b3 r m) : 1 ≤ m ∧ m ≤ 4 ∧ m ≤ n := by unfold Ch at h; omega
end Go.Proofs.YtkifndecpbphbaaDoor.utf
/- Plain facts about texts as lists of bytes: where the first byte stands that begins no character; the order of texts by characters; of good texts it is the order of bytes. -/
namespace Go.Proofs.YtkifndecpbphbaaDoor.utf
open Go.RowKit

def gl (l : List Int) (i : Nat) : Int := l.getD i 0
/-- What a list of bytes begins with. -/
def nxl (l : List Int) : Int × Int := nx l.length (gl l 0) (gl l 1) (gl l 2) (gl l 3)
/-- All of them are bytes. -/
def Oct (l : List Int) : Prop := ∀ x ∈ l, 0 ≤ x ∧ x ≤ 255

theorem Oct.drop {l : List Int} (h : Oct l) (n : Nat) : Oct (l.drop n) := fun x hx => h x (List.mem_of_mem_drop hx)
theorem Oct.gl {l : List Int} (h : Oct l) (i : Nat) : 0 ≤ gl l i ∧ gl l i ≤ 255 := by
  unfold utf.gl
  by_cases hi : i < l.length
  · rw [List.getD_eq_getElem?_getD, List.getElem?_eq_getElem hi]; exact h _ (List.getElem_mem hi)
  · rw [List.getD_eq_getElem?_getD, List.getElem?_eq_none (by omega)]; simp
theorem gl_drop (l : List Int) (n i : Nat) : gl (l.drop n) i = gl l (n + i) := by
  unfold gl; simp [List.getD_eq_getElem?_getD, List.getElem?_drop]

theorem nxl_is {l : List Int} (h : Oct l) : Begins l.length (gl l 0) (gl l 1) (gl l 2) (gl l 3) (nxl l) := nx_is _ _ _ _ _ (h.gl 0).1 (h.gl 0).2
theorem nxl_len {l : List Int} (h : Oct l) : 0 ≤ (nxl l).2 ∧ (nxl l).2 ≤ 4 ∧ (nxl l).2 ≤ l.length ∧ ((nxl l).2 = 0 → nxl l = (0, 0)) := by
  rcases nxl_is h with hc | ⟨he, _⟩
  · have := ch_len hc; omega
  · rw [he]; exact ⟨by decide, by decide, by omega, fun _ => rfl⟩

/-- What has no bytes begins with none. -/
theorem nxl_nil : nxl [] = (0, 0) := by unfold nxl nx; rw [if_pos (by decide)]

/-- 'Check': from the place i on. -/
def chkF : Nat → List Int → Int → Int
  | 0, _, _ => -1
  | f + 1, l, i => if l = [] then -1 else if (nxl l).2 = 0 then i else chkF f (l.drop (nxl l).2.toNat) (i + (nxl l).2)
def chk (l : List Int) : Int := chkF l.length l 0

theorem chkF_nil (f : Nat) (i : Int) : chkF f [] i = -1 := by cases f <;> simp [chkF]
theorem chkF_fuel : ∀ (f g : Nat) {l : List Int} (_ : Oct l) (i : Int), l.length ≤ f → l.length ≤ g → chkF f l i = chkF g l i := by
  intro f
  induction f with
  | zero => intro g l _ i hl _; rw [List.length_eq_zero_iff.1 (Nat.le_zero.1 hl), chkF_nil, chkF_nil]
  | succ f ih =>
    intro g l h i hl hg
    by_cases hn : l = []
    · rw [hn, chkF_nil, chkF_nil]
    cases g with
    | zero => exact absurd (List.length_eq_zero_iff.1 (Nat.le_zero.1 hg)) hn
    | succ g =>
      unfold chkF
      rw [if_neg hn, if_neg hn]
      by_cases hz : (nxl l).2 = 0
      · rw [if_pos hz, if_pos hz]
      · have hm := nxl_len h
        rw [if_neg hz, if_neg hz]
        exact ih g (h.drop _) _ (by simp; omega) (by simp; omega)
/-- One character further. -/
theorem chkF_step {f : Nat} {l : List Int} (h : Oct l) (i : Int) (hn : l ≠ []) (hz : (nxl l).2 ≠ 0) (hl : l.length ≤ f) :
    chkF f l i = chkF f (l.drop (nxl l).2.toNat) (i + (nxl l).2) := by
  have hm := nxl_len h
  cases f with
  | zero => exact absurd (List.length_eq_zero_iff.1 (Nat.le_zero.1 hl)) hn
  | succ f =>
    rw [chkF_fuel (f + 1) f (h.drop _) _ (by simp; omega) (by simp; omega)]
    conv => lhs; unfold chkF
    rw [if_neg hn, if_neg hz]
theorem chkF_bad {f : Nat} {l : List Int} (i : Int) (hn : l ≠ []) (hz : (nxl l).2 = 0) (hl : l.length ≤ f) : chkF f l i = i := by
  cases f with
  | zero => exact absurd (List.length_eq_zero_iff.1 (Nat.le_zero.1 hl)) hn
  | succ f => unfold chkF; rw [if_neg hn, if_pos hz]
theorem chkF_range : ∀ (f : Nat) {l : List Int} (_ : Oct l) (i : Int), 0 ≤ i → l.length ≤ f → chkF f l i = -1 ∨ i ≤ chkF f l i ∧ chkF f l i < i + l.length := by
  intro f
  induction f with
  | zero => intro l _ i _ _; exact .inl (by simp [chkF])
  | succ f ih =>
    intro l h i hi hl
    by_cases hn : l = []
    · rw [hn, chkF_nil]; exact .inl rfl
    by_cases hz : (nxl l).2 = 0
    · rw [chkF_bad i hn hz hl]
      have : 0 < l.length := List.length_pos_iff.2 hn
      exact .inr ⟨by omega, by omega⟩
    · have hm := nxl_len h
      rw [chkF_step h i hn hz hl, chkF_fuel (f + 1) f (h.drop _) _ (by simp; omega) (by simp; omega)]
      rcases ih (h.drop (nxl l).2.toNat) (i + (nxl l).2) (by omega) (by simp; omega) with e | e
      · exact .inl e
      · refine .inr ⟨by omega, ?_⟩
        have hd : ((l.drop (nxl l).2.toNat).length : Int) = l.length - (nxl l).2 := by simp; omega
        omega
/-- A good text is empty, or begins with a character and is good behind it. -/
theorem good_step {f : Nat} {l : List Int} (h : Oct l) (i : Int) (hi : 0 ≤ i) (hl : l.length ≤ f) (hg : chkF f l i = -1) (hn : l ≠ []) :
    (nxl l).2 ≠ 0 ∧ chkF f (l.drop (nxl l).2.toNat) (i + (nxl l).2) = -1 := by
  by_cases hz : (nxl l).2 = 0
  · rw [chkF_bad i hn hz hl] at hg; omega
  · rw [chkF_step h i hn hz hl] at hg; exact ⟨hz, hg⟩

/-! ### The order of texts -/

/-- Which of two lists is ahead, element by element. -/
def lx : List Int → List Int → Bool
  | _, [] => false
  | [], _ :: _ => true
  | a :: x, b :: y => decide (a < b) || (a == b && lx x y)

theorem lx_self : ∀ a : List Int, lx a a = false
  | [] => rfl
  | a :: x => by simp [lx, lx_self x]
theorem lx_asymm : ∀ {a b : List Int}, lx a b = true → lx b a = false
  | [], [], h => by cases h
  | [], _ :: _, _ => rfl
  | _ :: _, [], h => by cases h
  | a :: x, b :: y, h => by
    simp only [lx, Bool.or_eq_true, Bool.and_eq_true, decide_eq_true_eq, beq_iff_eq] at h
    rcases h with h | ⟨rfl, h⟩
    · have h1 : ¬ b < a := by omega
      have h2 : ¬ b = a := by omega
      simp [lx, h1, h2]
    · simp [lx, lx_asymm h]
theorem lx_total : ∀ {a b : List Int}, lx a b = false → lx b a = false → a = b
  | [], [], _, _ => rfl
  | [], _ :: _, h, _ => by cases h
  | _ :: _, [], _, h => by cases h
  | a :: x, b :: y, h, k => by
    simp only [lx, Bool.or_eq_false_iff, Bool.and_eq_false_iff, decide_eq_false_iff_not, beq_eq_false_iff_ne] at h k
    have hab : a = b := by omega
    subst hab
    rw [lx_total (h.2.resolve_left (by simp)) (k.2.resolve_left (by simp))]
theorem lx_trans : ∀ {a b c : List Int}, lx a b = true → lx b c = true → lx a c = true
  | [], [], _, h, _ => by cases h
  | _ :: _, [], _, h, _ => by cases h
  | _, _ :: _, [], _, h => by cases h
  | [], _ :: _, _ :: _, _, _ => rfl
  | a :: x, b :: y, c :: z, h, k => by
    simp only [lx, Bool.or_eq_true, Bool.and_eq_true, decide_eq_true_eq, beq_iff_eq] at h k ⊢
    rcases h with h | ⟨rfl, h⟩
    · rcases k with k | ⟨rfl, k⟩
      · exact .inl (by omega)
      · exact .inl h
    · rcases k with k | ⟨rfl, k⟩
      · exact .inl k
      · exact .inr ⟨rfl, lx_trans h k⟩

/-- What a text begins with, for its order; a byte that begins no character is above all of these. -/
def rk (l : List Int) : Int × Int := if (nxl l).2 = 0 then (1114112 + gl l 0, 1) else nxl l
theorem rk_len {l : List Int} (h : Oct l) (hn : l ≠ []) : 1 ≤ (rk l).2 ∧ (rk l).2 ≤ l.length := by
  have hm := nxl_len h
  have : 0 < l.length := List.length_pos_iff.2 hn
  unfold rk
  split
  · exact ⟨by simp, by simp; omega⟩
  · exact ⟨by omega, by omega⟩
def ranksF : Nat → List Int → List Int
  | 0, _ => []
  | f + 1, l => if l = [] then [] else (rk l).1 :: ranksF f (l.drop (rk l).2.toNat)
def ranks (l : List Int) : List Int := ranksF l.length l
theorem ranksF_nil (f : Nat) : ranksF f [] = [] := by cases f <;> simp [ranksF]
theorem ranksF_fuel : ∀ (f g : Nat) {l : List Int} (_ : Oct l), l.length ≤ f → l.length ≤ g → ranksF f l = ranksF g l := by
  intro f
  induction f with
  | zero => intro g l _ hl _; rw [List.length_eq_zero_iff.1 (Nat.le_zero.1 hl), ranksF_nil, ranksF_nil]
  | succ f ih =>
    intro g l h hl hg
    by_cases hn : l = []
    · rw [hn, ranksF_nil, ranksF_nil]
    cases g with
    | zero => exact absurd (List.length_eq_zero_iff.1 (Nat.le_zero.1 hg)) hn
    | succ g =>
      have hm := rk_len h hn
      unfold ranksF
      rw [if_neg hn, if_neg hn, ih g (h.drop _) (by simp; omega) (by simp; omega)]
theorem ranks_nil : ranks [] = [] := rfl
theorem ranks_step {l : List Int} (h : Oct l) (hn : l ≠ []) : ranks l = (rk l).1 :: ranks (l.drop (rk l).2.toNat) := by
  have hm := rk_len h hn
  unfold ranks
  have hl : 0 < l.length := List.length_pos_iff.2 hn
  obtain ⟨f, hf⟩ : ∃ f, l.length = f + 1 := ⟨l.length - 1, by omega⟩
  rw [hf]
  conv => lhs; unfold ranksF
  rw [if_neg hn, ranksF_fuel f _ (h.drop _) (by simp; omega) (Nat.le_refl _)]

/-- The bytes of a rank. -/
def enc (r : Int) : List Int :=
  if r < 128 then [r] else if r < 2048 then [192 + r / 64, 128 + r % 64] else if r < 65536 then [224 + r / 4096, 128 + r / 64 % 64, 128 + r % 64]
  else if r < 1114112 then [240 + r / 262144, 128 + r / 4096 % 64, 128 + r / 64 % 64, 128 + r % 64] else [r - 1114112]

theorem take1 {l : List Int} (h : 1 ≤ l.length) : l.take 1 = [gl l 0] := by
  match l, h with
  | a :: _, _ => rfl
theorem take2 {l : List Int} (h : 2 ≤ l.length) : l.take 2 = [gl l 0, gl l 1] := by
  match l, h with
  | a :: b :: _, _ => rfl
theorem take3 {l : List Int} (h : 3 ≤ l.length) : l.take 3 = [gl l 0, gl l 1, gl l 2] := by
  match l, h with
  | a :: b :: c :: _, _ => rfl
theorem take4 {l : List Int} (h : 4 ≤ l.length) : l.take 4 = [gl l 0, gl l 1, gl l 2, gl l 3] := by
  match l, h with
  | a :: b :: c :: d :: _, _ => rfl

/-- A character's bytes are what was read. -/
theorem take_enc {l : List Int} (h : Oct l) {r m : Int} (hc : Ch l.length (gl l 0) (gl l 1) (gl l 2) (gl l 3) r m) : l.take m.toNat = enc r := by
  have b0 := h.gl 0
  unfold Ch at hc
  unfold enc
  rcases hc with ⟨rfl, hc⟩ | ⟨rfl, hc⟩ | ⟨rfl, hc⟩ | ⟨rfl, hc⟩
  · rw [if_pos (by omega)]
    show l.take 1 = _
    rw [take1 (by omega), hc.2.2]
  · rw [if_neg (by omega), if_pos (by omega)]
    show l.take 2 = _
    rw [take2 (by omega)]
    congr 1
    · omega
    congr 1
    omega
  · rw [if_neg (by omega), if_neg (by omega), if_pos (by omega)]
    show l.take 3 = _
    rw [take3 (by omega)]
    congr 1
    · omega
    congr 1
    · omega
    congr 1
    omega
  · rw [if_neg (by omega), if_neg (by omega), if_neg (by omega), if_pos (by omega)]
    show l.take 4 = _
    rw [take4 (by omega)]
    congr 1
    · omega
    congr 1
    · omega
    congr 1
    · omega
    congr 1
    omega

theorem rk_enc {l : List Int} (h : Oct l) (hn : l ≠ []) : l = enc (rk l).1 ++ l.drop (rk l).2.toNat := by
  have hl : 0 < l.length := List.length_pos_iff.2 hn
  have b0 := h.gl 0
  suffices e : l.take (rk l).2.toNat = enc (rk l).1 by rw [← e, List.take_append_drop]
  rcases nxl_is h with hc | ⟨he, _⟩
  · have := ch_len hc
    unfold rk
    rw [if_neg (by omega)]
    exact take_enc h hc
  · unfold rk
    rw [he]
    show l.take 1 = enc (1114112 + gl l 0)
    unfold enc
    rw [take1 (by omega), if_neg (by omega), if_neg (by omega), if_neg (by omega), if_neg (by omega)]
    congr 1
    omega

/-- Texts of the same ranks are one. -/
theorem ranks_inj : ∀ (n : Nat) {a b : List Int}, a.length ≤ n → Oct a → Oct b → ranks a = ranks b → a = b := by
  intro n
  induction n with
  | zero =>
    intro a b ha _ hb h
    obtain rfl := List.length_eq_zero_iff.1 (Nat.le_zero.1 ha)
    by_cases hn : b = []
    · exact hn.symm
    · rw [ranks_step hb hn] at h; cases h
  | succ n ih =>
    intro a b ha hA hB h
    by_cases hn : a = []
    · subst hn
      by_cases hm : b = []
      · exact hm.symm
      · rw [ranks_step hB hm] at h; cases h
    by_cases hm : b = []
    · subst hm; rw [ranks_step hA hn] at h; cases h
    have la := rk_len hA hn
    rw [ranks_step hA hn, ranks_step hB hm] at h
    obtain ⟨h1, h2⟩ := List.cons.inj h
    have := ih (a := a.drop (rk a).2.toNat) (b := b.drop (rk b).2.toNat) (by simp; omega) (hA.drop _) (hB.drop _) h2
    rw [rk_enc hA hn, rk_enc hB hm, h1, this]

theorem lx_append (p : List Int) {a b : List Int} : lx (p ++ a) (p ++ b) = lx a b := by
  induction p with
  | nil => rfl
  | cons x p ih => simp [lx, ih]
theorem lx_lt {a b : Int} (h : a < b) (x y : List Int) : lx (a :: x) (b :: y) = true := by simp [lx, h]
theorem lx_gt {a b : Int} (h : b < a) (x y : List Int) : lx (a :: x) (b :: y) = false := by
  have h1 : ¬ a < b := by omega
  have h2 : ¬ a = b := by omega
  simp [lx, h1, h2]
theorem lx_eq {a b : Int} (h : a = b) (x y : List Int) : lx (a :: x) (b :: y) = lx x y := by subst h; simp [lx]

/-- Two characters that differ: their bytes are in their order, whatever follows. -/
theorem enc_order {r r' : Int} (h0 : 0 ≤ r) (h1 : r < 1114112) (k0 : 0 ≤ r') (k1 : r' < 1114112) (hne : r ≠ r') (x y : List Int) :
    lx (enc r ++ x) (enc r' ++ y) = decide (r < r') := by
  have step : ∀ {a b : Int} {u v : List Int} {c : Bool}, (a < b → c = true) → (b < a → c = false) → (a = b → lx u v = c) → lx (a :: u) (b :: v) = c := by
    intro a b u v c p q s
    rcases Int.lt_trichotomy a b with h | h | h
    · rw [lx_lt h, p h]
    · rw [lx_eq h, s h]
    · rw [lx_gt h, q h]
  unfold enc
  repeat' split
  all_goals simp only [List.cons_append, List.nil_append]
  all_goals (refine step (fun _ => ?_) (fun _ => ?_) (fun _ => ?_) <;> first | (simp; omega) | skip)
  all_goals (try (exfalso; omega))
  all_goals (refine step (fun _ => ?_) (fun _ => ?_) (fun _ => ?_) <;> first | (simp; omega) | skip)
  all_goals (try (exfalso; omega))
  all_goals (refine step (fun _ => ?_) (fun _ => ?_) (fun _ => ?_) <;> first | (simp; omega) | skip)
  all_goals (try (exfalso; omega))
  all_goals (refine step (fun _ => ?_) (fun _ => ?_) (fun _ => ?_) <;> first | (simp; omega) | skip)
  all_goals (try (exfalso; omega))

theorem ch_range {n b0 b1 b2 b3 r m : Int} (h0 : 0 ≤ b0) (h : Ch n b0 b1 b2 b3 r m) : 0 ≤ r ∧ r < 1114112 := by unfold Ch at h; omega

/-- OF GOOD TEXTS THE ORDER BY CHARACTERS IS THE ORDER OF BYTES. -/
theorem order_good : ∀ (n : Nat) {a b : List Int} (i j : Int), a.length ≤ n → Oct a → Oct b → 0 ≤ i → 0 ≤ j → chkF a.length a i = -1 → chkF b.length b j = -1 → lx (ranks a) (ranks b) = lx a b := by
  intro n
  induction n with
  | zero =>
    intro a b i j ha _ hb _ _ _ _
    obtain rfl := List.length_eq_zero_iff.1 (Nat.le_zero.1 ha)
    by_cases hn : b = []
    · rw [hn]; rfl
    · rw [ranks_step hb hn, ranks_nil]
      match b, hn with
      | _ :: _, _ => rfl
  | succ n ih =>
    intro a b i j ha hA hB hi hj ga gb
    by_cases hm : b = []
    · subst hm; cases ranks a <;> cases a <;> rfl
    by_cases hn : a = []
    · subst hn
      rw [ranks_step hB hm, ranks_nil]
      match b, hm with
      | _ :: _, _ => rfl
    obtain ⟨na, ga'⟩ := good_step hA i hi (Nat.le_refl _) ga hn
    obtain ⟨nb, gb'⟩ := good_step hB j hj (Nat.le_refl _) gb hm
    have lna := nxl_len hA
    have lnb := nxl_len hB
    have ka := rk_enc hA hn
    have kb := rk_enc hB hm
    have ea : rk a = nxl a := if_neg na
    have eb : rk b = nxl b := if_neg nb
    have ca : Ch a.length (gl a 0) (gl a 1) (gl a 2) (gl a 3) (nxl a).1 (nxl a).2 := (nxl_is hA).resolve_right fun h => na (by rw [h.1])
    have cb : Ch b.length (gl b 0) (gl b 1) (gl b 2) (gl b 3) (nxl b).1 (nxl b).2 := (nxl_is hB).resolve_right fun h => nb (by rw [h.1])
    have ra := ch_range (hA.gl 0).1 ca
    have rb := ch_range (hB.gl 0).1 cb
    rw [ranks_step hA hn, ranks_step hB hm, ea, eb]
    rw [ea] at ka
    rw [eb] at kb
    by_cases he : (nxl a).1 = (nxl b).1
    · rw [lx_eq he]
      have := ih (a := a.drop (nxl a).2.toNat) (b := b.drop (nxl b).2.toNat) (i + (nxl a).2) (j + (nxl b).2) (by simp; omega) (hA.drop _) (hB.drop _) (by omega) (by omega)
        (by rw [chkF_fuel _ a.length (hA.drop _) _ (Nat.le_refl _) (by simp)]; exact ga') (by rw [chkF_fuel _ b.length (hB.drop _) _ (Nat.le_refl _) (by simp)]; exact gb')
      rw [this]
      conv => rhs; rw [ka, kb, he, lx_append]
    · conv => rhs; rw [ka, kb, enc_order ra.1 ra.2 rb.1 rb.2 he]
      rcases Int.lt_or_gt_of_ne he with h | h
      · rw [lx_lt h]; simp [h]
      · rw [lx_gt h]; simp; omega
end Go.Proofs.YtkifndecpbphbaaDoor.utf
/- Plain facts: the bytes of a character, read again. -/
namespace Go.Proofs.YtkifndecpbphbaaDoor.utf
open Go.RowKit

/-- A character's number. -/
def IsRune (r : Int) : Prop := 0 ≤ r ∧ (r < 55296 ∨ 57343 < r) ∧ r ≤ 1114111

theorem gl_append_left (a b : List Int) (i : Nat) (h : i < a.length) : gl (a ++ b) i = gl a i := by
  unfold gl; simp [List.getD_eq_getElem?_getD, List.getElem?_append_left h]

theorem enc_len (r : Int) : 1 ≤ (enc r).length ∧ (enc r).length ≤ 4 := by
  unfold enc; repeat' split
  all_goals simp
theorem enc_oct {r : Int} (h : IsRune r) : Oct (enc r) := by
  obtain ⟨h0, h1, h2⟩ := h
  intro x hx
  unfold enc at hx
  split at hx
  · simp at hx; omega
  split at hx
  · simp at hx; omega
  split at hx
  · simp at hx; omega
  split at hx
  · simp at hx; omega
  · omega
/-- The bytes of a character, whatever follows. -/
theorem enc_ch {r : Int} (h : IsRune r) (n : Int) (more : List Int) (hn : n = (enc r ++ more).length) :
    Ch n (gl (enc r ++ more) 0) (gl (enc r ++ more) 1) (gl (enc r ++ more) 2) (gl (enc r ++ more) 3) r (enc r).length := by
  obtain ⟨h0, h1, h2⟩ := h
  subst hn
  unfold enc
  by_cases c1 : r < 128
  · rw [if_pos c1]
    exact .inl ⟨rfl, by simp; omega, c1, rfl⟩
  rw [if_neg c1]
  by_cases c2 : r < 2048
  · rw [if_pos c2]
    refine .inr (.inl ⟨rfl, by simp; omega, ?_⟩)
    simp only [gl, List.cons_append, List.nil_append, List.getD_cons_zero, List.getD_cons_succ]
    omega
  rw [if_neg c2]
  by_cases c3 : r < 65536
  · rw [if_pos c3]
    refine .inr (.inr (.inl ⟨rfl, by simp; omega, ?_⟩))
    simp only [gl, List.cons_append, List.nil_append, List.getD_cons_zero, List.getD_cons_succ]
    omega
  rw [if_neg c3, if_pos (by omega)]
  refine .inr (.inr (.inr ⟨rfl, by simp; omega, ?_⟩))
  simp only [gl, List.cons_append, List.nil_append, List.getD_cons_zero, List.getD_cons_succ]
  omega
theorem enc_first {r : Int} (h : IsRune r) (more : List Int) : 0 ≤ gl (enc r ++ more) 0 ∧ gl (enc r ++ more) 0 ≤ 255 := by
  have hl := enc_len r
  rw [gl_append_left _ _ _ (by omega)]
  exact (enc_oct h).gl 0
theorem nxl_enc {r : Int} (h : IsRune r) (more : List Int) : nxl (enc r ++ more) = (r, ((enc r).length : Int)) := by
  have h0 := enc_first h more
  exact nx_ch h0.1 h0.2 (enc_ch h _ more rfl)
/-- Without the last byte they begin none. -/
theorem nxl_short {r : Int} (h : IsRune r) : nxl ((enc r).take ((enc r).length - 1)) = (0, 0) := by
  have hl := enc_len r
  by_cases h1 : (enc r).length = 1
  · rw [h1]; exact nxl_nil
  have hc := enc_ch h _ [] rfl
  rw [List.append_nil] at hc
  have hO : Oct ((enc r).take ((enc r).length - 1)) := fun x hx => enc_oct h x (List.mem_of_mem_take hx)
  rcases nxl_is hO with k | ⟨k, _⟩
  · exfalso
    have e0 : gl ((enc r).take ((enc r).length - 1)) 0 = gl (enc r) 0 := by
      unfold gl; rw [List.getD_eq_getElem?_getD, List.getElem?_take, if_pos (by omega), ← List.getD_eq_getElem?_getD]
    rw [e0] at k
    have hlen : (((enc r).take ((enc r).length - 1)).length : Int) = (enc r).length - 1 := by simp; omega
    rw [hlen] at k
    unfold Ch at hc k
    omega
  · exact k
theorem chk_enc {r : Int} (h : IsRune r) : chk (enc r) = -1 := by
  have hl := enc_len r
  have hn : enc r ≠ [] := fun e => by rw [e] at hl; simp at hl
  have e := nxl_enc h []
  rw [List.append_nil] at e
  unfold chk
  rw [chkF_step (enc_oct h) 0 hn (by rw [e]; simp; omega) (Nat.le_refl _), e]
  simp only [Int.toNat_natCast, List.drop_length]
  exact chkF_nil _ _
end Go.Proofs.YtkifndecpbphbaaDoor.utf
/- The order by marks is the order by ranks; and what a text begins with, by its bytes laid again. -/
namespace Go.Proofs.YtkifndecpbphbaaDoor.utf
open Go.PlainAid

/-- The document's mark of a rank: a byte that begins no character stands higher there. -/
def up (x : Int) : Int := if x < 1114112 then x else x + 983040
theorem up_lt (x y : Int) : up x < up y ↔ x < y := by unfold up; split <;> split <;> omega
theorem up_eq (x y : Int) : up x = up y ↔ x = y := by unfold up; split <;> split <;> omega
def marks (l : List Int) : List Int := (ranks l).map up
theorem lx_up : ∀ a b : List Int, lx (a.map up) (b.map up) = lx a b
  | _, [] => by simp [lx]
  | [], _ :: _ => rfl
  | a :: x, b :: y => by
    simp only [List.map_cons, lx, lx_up x y]
    have h1 : decide (up a < up b) = decide (a < b) := by simp [up_lt]
    have h2 : (up a == up b) = (a == b) := Bool.eq_iff_iff.2 (by rw [beq_iff_eq, beq_iff_eq]; exact up_eq a b)
    rw [h1, h2]
theorem lx_marks (a b : List Int) : lx (marks a) (marks b) = lx (ranks a) (ranks b) := lx_up _ _
theorem marks_nil : marks [] = [] := rfl
theorem marks_step {l : List Int} (h : Oct l) (hn : l ≠ []) : marks l = up (rk l).1 :: marks (l.drop (rk l).2.toNat) := by
  unfold marks
  rw [ranks_step h hn]
  rfl

/-- The document's way: the bytes begin with those of r. -/
theorem nxl_of_take {l : List Int} {r : Int} (hr : IsRune r) (h : l.take (enc r).length = enc r) : nxl l = (r, ((enc r).length : Int)) := by
  have e : l.take (enc r).length ++ l.drop (enc r).length = l := List.take_append_drop _ _
  have k : min (enc r).length l.length = (enc r).length := by
    have := congrArg List.length h
    rw [List.length_take] at this
    exact this
  have n := nxl_enc hr (l.drop (enc r).length)
  rw [show enc r ++ l.drop (enc r).length = l by
    conv => lhs; rw [← h]
    rw [show (l.take (enc r).length).length = (enc r).length by rw [List.length_take]; exact k]
    exact e] at n
  exact n
end Go.Proofs.YtkifndecpbphbaaDoor.utf
