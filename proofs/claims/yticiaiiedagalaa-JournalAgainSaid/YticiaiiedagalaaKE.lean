/- JournalKeeps: what was told to be laid is there. -/
import Derived.Test.YticiaiiedagalaaKD
import Derived.Deep.DeepCutAuto
import Derived.Deep.CutBlock
namespace Go.Proofs.Yticiaiiedagalaa.dk
open Go.PlainAid Go.ChangeShapes Go.WideShapes Go.ChangeAt Go.RowKit

/-- The t-th record. -/
def fK (l : List Int) (t : Nat) : List Int := bsOf ((l.getD t 0) % 128).toNat (t : Int)
theorem fK_len (l : List Int) (t : Nat) : (fK l t).length ≤ 127 := by unfold fK; rw [bsOf_len]; omega
theorem fK_need (l : List Int) (t : Nat) : needN (fK l t).length ≤ 3 := by
  have h := fK_len l t
  have := needN_bd (fK l t).length
  split at this <;> omega
theorem fK_pl (l : List Int) : ∀ j, plK (fK l) j ≤ 3 * j
  | 0 => Nat.le_refl _
  | j + 1 => by
    have := fK_pl l j
    have := fK_need l j
    show plK (fK l) j + _ ≤ _
    omega
theorem owned_cap {w : World} {B s n c : Nat} {t : TypeId} {p : Option Addr} {xs : List Value} (h : w.ownsRow B t s (.slice p n c) n xs) : n ≤ c ∧ (0 < n → ∃ g, p = some ⟨g, 0, none⟩) := by
  rcases h.2 with ⟨hv, h0⟩ | ⟨g, cap, cur, hv, _, _, hn, _⟩
  · exact ⟨by omega, fun h => absurd h (by omega)⟩
  · injection hv with hp _ hc
    exact ⟨by omega, fun _ => ⟨g, hp⟩⟩
theorem grown_row {B2 : Nat} {v : Value} {R : List (List Int)} {vs : List Value} {W W' : World} (hr : RecAt B2 v R vs W) (hg : W.grownBy W' v.ownBlock) {g : Nat} {cur : Array Value} {t : TypeId} (hc : W.heap[g]? = some (.cells cur t (0, 0))) (ht : t ≠ 45) : W'.heap[g]? = W.heap[g]? :=
  hg.block g (Array.getElem?_eq_some_iff.1 hc).1 fun e => by
    obtain ⟨cur2, hc2⟩ := owned_type hr.own e.symm
    exact row_ne hc hc2 ht rfl
theorem DiskAt.grown {B D L N B2 : Nat} {P : Value} {m : Dk} {v : Value} {R : List (List Int)} {vs : List Value} {W W' : World} (h : DiskAt B D L N P m W) (hr : RecAt B2 v R vs W) (hg : W.grownBy W' v.ownBlock) : DiskAt B D L N P m W' :=
  { h with
    hD := (grown_row hr hg h.hD (by decide)).trans h.hD
    hL := (grown_row hr hg h.hL (by decide)).trans h.hL
    hN := (grown_row hr hg h.hN (by decide)).trans h.hN
    hP := owned_keeps h.hP fun g hgb => by
      obtain ⟨cur, hc⟩ := owned_type h.hP hgb
      exact grown_row hr hg hc (by decide) }
theorem LogAt.grown {A B2 : Nat} {g : Lg} {v : Value} {R : List (List Int)} {vs : List Value} {W W' : World} (h : LogAt A g W) (hr : RecAt B2 v R vs W) (hg : W.grownBy W' v.ownBlock) : LogAt A g W' := (grown_row hr hg h (by decide)).trans h
/-- What is held at the loop's head: j records are laid; the disk lives, or it died at the next one. -/
structure KA (w : World) (l : List Int) (B D L N A B2 j : Nat) (m : Dk) (P : Value) (p : Option Addr) (cc : Nat) (vs : List Value) (W : World) : Prop where
  d : DiskAt B D L N P m W
  r : RecAt B2 (.slice p j cc) (bsK (fK l) j) vs W
  b : Below w.heap.size w W
  n : m.n = 64
  wr : m.writes ≤ 1000 * j + 2000
  sz : B2 ≤ W.heap.size
structure KLive (l : List Int) (D A j : Nat) (m : Dk) (W : World) : Prop where
  g : LogAt A { d := D, frm := 0, n := 64, place := plK (fK l) j, num := (j : Int) + 1, ses := 1, broken := false } W
  liv : Liv m
  lim : 0 ≤ m.limit
  wr : m.writes ≤ 1000 * j + 1000
  seq : SeqN (fK l) 64 j (fun x => secOf m.now x)
def KDead (l : List Int) (B2 D j : Nat) (m : Dk) (v : Value) (W : World) : Prop := ∃ mp G k, Liv mp ∧ mp.n = 64 ∧ mp.writes ≤ 1000 * j + 1000 ∧ SeqN (fK l) 64 j (fun x => secOf mp.now x) ∧
  Torn { d := D, frm := 0, n := 64, place := plK (fK l) j, num := (j : Int) + 1, ses := 1, broken := false } (fK l j) (needN (fK l j).length) k mp m ∧ v = .slice (some ⟨G, 0, none⟩) (fK l j).length (fK l j).length ∧ RowB G (fK l j) W ∧ B2 ≤ G
theorem fK_few (l : List Int) (j : Nat) (h : j ≤ 100) : Few (fK l) j := ⟨h, fun t _ => by have := fK_need l t; omega⟩
/-- What is told when it is opened again. -/
theorem keep_told {l : List Int} {B2 D j : Nat} {m : Dk} {v : Value} {W : World} (hj : j ≤ 20) (hn : m.n = 64) (hl : (Liv m ∧ SeqN (fK l) 64 j (fun x => secOf m.now x)) ∨ (j < 20 ∧ KDead l B2 D j m v W)) (kb : List Bool) :
    Bys (reopened kb m).now ∧ sesOf (reopened kb m).now 0 64 ≠ 4294967295 ∧ ((toldOf (reopened kb m).now 0 64).2.2 = bsK (fK l) j ∨ (m.dead = true ∧ (toldOf (reopened kb m).now 0 64).2.2 = bsK (fK l) (j + 1))) := by
  rcases hl with ⟨h1, h2⟩ | ⟨hj20, mp, G, k, h1, hmn, _, h2, h3, _, _⟩
  · have ha := liv_reopen h1 kb
    have hs : SeqN (fK l) 64 j (fun x => secOf (reopened kb m).now x) := ⟨h2.fit, fun t ht i hi => by
      have := plK_in (fK l) (t := t) (j := j) ht
      have := h2.fit
      show secOf (reopened kb m).now _ = _
      rw [ha.sec _ (by omega)]
      exact h2.rec_ t ht i hi, fun x hx hn' => by
      show secOf (reopened kb m).now _ = _
      rw [ha.sec _ (by omega)]
      exact h2.zero x hx hn'⟩
    refine ⟨ha.liv.bn, ses_small (fun x hx => pc_S ?_), .inl (told_seq (fK_few l j (by omega)) hs)⟩
    rw [Nat.zero_add]
    exact seq_pc hs x hx
  · have hpl := fK_pl l j
    have hnd := fK_need l j
    have hmn' : mp.n = 64 := hmn
    have ha := torn_reopen h3 h1 (bsOf_bys _ _) (by show 0 + plK (fK l) j + _ ≤ mp.n; omega) (by omega) kb
    have hsec : ∀ x, x < 64 → secOf (reopened kb m).now x = if (plK (fK l) j ≤ x ∧ x < plK (fK l) j + k) ∧ kb.getD (x - plK (fK l) j) false = true then pieceOf 1 ((j : Int) + 1) (fK l j) (needN (fK l j).length) (x - plK (fK l) j) else secOf mp.now x := fun x hx => by
      have := ha.sec x (by omega)
      rw [this]
      show (if (0 + plK (fK l) j ≤ x ∧ x < 0 + plK (fK l) j + k) ∧ kb.getD (x - (0 + plK (fK l) j)) false = true then pieceOf 1 ((j : Int) + 1) (fK l j) (needN (fK l j).length) (x - (0 + plK (fK l) j)) else secOf mp.now x) = _
      rw [Nat.zero_add]
    refine ⟨ha.liv.bn, ses_small (fun x hx => pc_S ?_), ?_⟩
    · rw [Nat.zero_add, hsec x hx]
      split
      · exact .inr ⟨_, _, _, _, rfl⟩
      · exact seq_pc h2 x hx
    · rcases told_torn (fK_few l (j + 1) (by omega)) h2 (by omega) h3.kc hsec with h | h
      · exact .inl h
      · exact .inr ⟨h3.dead, h⟩
theorem RowB.lk {B B2 D L N A G : Nat} {P P' : Value} {m : Dk} {w w' : World} {b : List Int} (h : RowB G b w) (hd : DiskAt B D L N P m w) (hD : D < B2) (hL : L < B2) (hN : N < B2) (hA : A < B2) (hG : B2 ≤ G) (k : LkF B D L N P A w P' w') : RowB G b w' := by
  refine (k.fr G (Array.getElem?_eq_some_iff.1 h).1 ?_ (by omega)).trans h
  rintro (e | e | e | e)
  · omega
  · omega
  · omega
  · obtain ⟨cur2, hc⟩ := owned_type hd.hP e
    exact row_ne hc h (by decide) rfl
theorem bsK_getD (f : Nat → List Int) {i j : Nat} (h : i < j) : (bsK f j).getD i [] = f i := by
  rw [List.getD_eq_getElem?_getD, List.getElem?_eq_getElem (by rw [bsK_len]; exact h)]
  simp [bsK]
theorem RecAt.rrK {B n cc m j : Nat} {p : Option Addr} {f : Nat → List Int} {vs : List Value} {W : World} (h : RecAt B (.slice p n cc) (bsK f j) vs W) (hm : m ≤ j) : Rr W p m f := fun i hi => by
  have : ∃ g q c, p = some ⟨g, 0, none⟩ ∧ g < W.heap.size ∧ W.cell? ⟨g, i, none⟩ = some (.slice q ((bsK f j).getD i []).length c) ∧ Rd W q ((bsK f j).getD i []).length ((bsK f j).getD i []) := h.rr (m := m) (by rw [bsK_len]; exact hm) i hi
  rw [bsK_getD f (show i < j by omega)] at this
  exact this
theorem RecAt.cap {B n cc : Nat} {p : Option Addr} {R : List (List Int)} {vs : List Value} {W : World} (h : RecAt B (.slice p n cc) R vs W) (hn : R.length = n) : n ≤ cc ∧ (p = none → n = 0 ∧ cc = 0) ∧ ∀ a, p = some a → a.spot = none := by
  have ho := h.own
  rw [hn] at ho
  rcases ho.2 with ⟨hv, h0⟩ | ⟨g, cap, cur, hv, _, _, hn, _⟩
  · injection hv with hp _ hc
    subst hp
    exact ⟨by omega, (fun _ => ⟨h0, hc⟩), fun a e => nomatch e⟩
  · injection hv with hp _ hc
    subst hp
    exact ⟨by omega, (fun e => nomatch e), fun a e => by injection e with e; rw [← e]⟩
theorem Kb.up {B B' : Nat} {W : World} {q : Option Addr} {n : Nat} {kb : List Bool} (h : Kb B W q n kb) (hB : B ≤ B') : Kb B' W q n kb := ⟨h.1, fun h0 => by
  obtain ⟨b, off, e, hlt, hc⟩ := h.2 h0
  exact ⟨b, off, e, Nat.lt_of_lt_of_le hlt hB, hc⟩⟩
theorem keep_pend {l : List Int} {B2 D A j n : Nat} {m : Dk} {v : Value} {W : World} (h : KLive l D A j m W ∨ (j < n ∧ KDead l B2 D j m v W)) : m.pend.length ≤ 1000000 := by
  rcases h with h | ⟨_, mp, G, k, _, _, _, _, h3, _, _⟩
  · rw [h.liv.pend]; decide
  · rw [h3.mid.pend, pcsOf_len]
    have := h3.kc
    have := fK_need l j
    omega
end Go.Proofs.Yticiaiiedagalaa.dk
