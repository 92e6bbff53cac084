/- What the two disks hold, read as pieces; bytes and bounds. -/
import Derived.Test.YticiaiiedagalaaPl35
import Derived.Test.YticiaiiedagalaaPl36
import Derived.Test.YticiaiiedagalaaPl20
import Derived.Test.YticiaiiedagalaaPl17
namespace Go.Proofs.Yticiaiiedagalaa.dk
open Go.PlainAid Go.ChangeShapes Go.WideShapes Go.ChangeAt Go.RowKit

theorem unstr_strOf (l : List Int) (h : Bys l) : unstr (strOf l) = l := by
  unfold unstr
  rw [strOf_data, List.map_map]
  conv => rhs; rw [← List.map_id l]
  apply List.map_congr_left
  intro x hx
  have hb := h x hx
  show ((UInt8.ofNat x.toNat).toNat : Int) = x
  rw [UInt8.toNat_ofNat']
  omega
/-- All bytes of a disk are bytes. -/
structure DBys (m : Dk) : Prop where
  n : Bys m.now
  l : Bys m.laid
  p : ∀ x ∈ m.pend, Bys x.2
theorem pad_bys {l : List Int} (h : Bys l) : Bys (pad l) := h.app (Bys.rep _)
theorem laidOf_bys : ∀ (p : List (Nat × List Int)) (l : List Int), Bys l → (∀ x ∈ p, Bys x.2) → Bys (laidOf l p)
  | [], _, h, _ => h
  | x :: p, _, h, hp => laidOf_bys p _ (h.lay (hp x List.mem_cons_self) _) fun y hy => hp y (List.mem_cons_of_mem _ hy)
theorem kept_fold (kb : List Bool) : ∀ (q : List ((Nat × List Int) × Nat)) (l : List Int), Bys l → (∀ x ∈ q, Bys x.1.2) → Bys (q.foldl (fun l x => if kb.getD x.2 false = true then lay l (x.1.1 * 64) x.1.2 else l) l)
  | [], _, h, _ => h
  | x :: q, l, h, hq => by
    rw [List.foldl_cons]
    refine kept_fold kb q _ ?_ fun y hy => hq y (List.mem_cons_of_mem _ hy)
    split
    · exact h.lay (hq x List.mem_cons_self) _
    · exact h
theorem keptOf_bys (kb : List Bool) (l : List Int) (p : List (Nat × List Int)) (h : Bys l) (hp : ∀ x ∈ p, Bys x.2) : Bys (keptOf kb l p) :=
  kept_fold kb _ l h fun x hx => hp x.1 (by
    obtain ⟨_, _, e⟩ := List.mem_zipIdx hx
    rw [e]
    exact List.getElem_mem _)
theorem DBys.write {m : Dk} (h : DBys m) {l : List Int} (hl : Bys l) (x : Int) : DBys (dWrite m x l).1 := by
  unfold dWrite
  split
  · exact h
  · split
    · exact h
    · split
      · exact ⟨h.n, h.l, h.p⟩
      · exact ⟨h.n.lay (pad_bys hl) _, h.l, fun y hy => by
          rcases List.mem_append.1 hy with h1 | h1
          · exact h.p y h1
          · rw [List.mem_singleton.1 h1]; exact pad_bys hl⟩
theorem DBys.sync {m : Dk} (h : DBys m) : DBys (dSync m).1 := by
  unfold dSync
  split
  · exact h
  · split
    · exact ⟨h.n, h.l, h.p⟩
    · exact ⟨h.n, laidOf_bys _ _ h.l h.p, fun x hx => by cases hx⟩
theorem DBys.reopen {m : Dk} (h : DBys m) (kb : List Bool) : DBys (reopened kb m) :=
  ⟨nowOf_bys _ (keptOf_bys kb _ _ h.l h.p) _ _ h.n, keptOf_bys kb _ _ h.l h.p, fun x hx => by cases hx⟩
theorem dSync_bd (m : Dk) : (dSync m).1.writes ≤ m.writes + 1 ∧ (dSync m).1.pend.length ≤ m.pend.length ∧ (dSync m).1.n = m.n := by
  unfold dSync
  split
  · exact ⟨by show m.writes ≤ _; omega, Nat.le_refl _, rfl⟩
  · split
    · exact ⟨by show m.writes ≤ _; omega, Nat.le_refl _, rfl⟩
    · exact ⟨Int.le_refl _, Nat.zero_le _, rfl⟩
theorem layGo_ok (g : Lg) (b : List Int) (c : Nat) (hb : Bys b) : ∀ (f i : Nat) (m : Dk), DBys m → DBys (layGo g b c f i m).1 ∧ (layGo g b c f i m).1.writes ≤ m.writes + f + 1 ∧ (layGo g b c f i m).1.pend.length ≤ m.pend.length + f ∧ (layGo g b c f i m).1.n = m.n
  | 0, _, m, h => by
    have := dSync_bd m
    exact ⟨h.sync, by show (dSync m).1.writes ≤ _; omega, by show (dSync m).1.pend.length ≤ _; omega, this.2.2⟩
  | f + 1, i, m, h => by
    have h1 := dWrite_bd m ((g.frm : Int) + g.place + i) (mk g.ses g.num i c ((b.drop (i * 48)).take 48))
    have h2 := h.write (mk_bys g.ses g.num i c ((b.drop (i * 48)).take 48) (by rw [List.length_take]; omega) ((hb.drop _).take _)) ((g.frm : Int) + g.place + i)
    rw [layGo.eq_2]
    split
    · obtain ⟨k1, k2, k3, k4⟩ := layGo_ok g b c hb f (i + 1) _ h2
      exact ⟨k1, by omega, by omega, k4.trans h1.2.2⟩
    · exact ⟨h2, by omega, by omega, h1.2.2⟩
/-- A log that is sound. -/
structure LOk (D fr kn : Nat) (g : Lg) : Prop where
  d : g.d = D
  frm : g.frm = fr
  n : g.n = kn
  pl : g.place ≤ kn
  num : 0 ≤ g.num ∧ g.num ≤ 4294967295
  ses : 0 ≤ g.ses ∧ g.ses ≤ 4294967295
theorem append_ok {D frm n : Nat} {g : Lg} {m : Dk} {b : List Int} (hg : LOk D frm n g) (hm : DBys m) (hb : Bys b) (hl : b.length ≤ 255) : LOk D frm n (appendOf g m b).1 ∧ DBys (appendOf g m b).2.1 ∧ (appendOf g m b).2.1.writes ≤ m.writes + 7 ∧ (appendOf g m b).2.1.pend.length ≤ m.pend.length + 6 ∧ (appendOf g m b).2.1.n = m.n := by
  have hnb := needN_bd b.length
  have hnk : needN b.length ≤ 6 := by split at hnb <;> omega
  obtain ⟨k1, k2, k3, k4⟩ := layGo_ok g b (needN b.length) hb (needN b.length) 0 m hm
  have hpl := hg.pl
  have hn := hg.n
  unfold appendOf
  split
  · exact ⟨hg, hm, by show m.writes ≤ _; omega, by show m.pend.length ≤ _; omega, rfl⟩
  · split
    · exact ⟨hg, hm, by show m.writes ≤ _; omega, by show m.pend.length ≤ _; omega, rfl⟩
    · split
      · exact ⟨hg, hm, by show m.writes ≤ _; omega, by show m.pend.length ≤ _; omega, rfl⟩
      · split
        · exact ⟨{ hg with pl := by show g.place + needN b.length ≤ n; omega, num := by show 0 ≤ (g.num + 1) % 4294967296 ∧ (g.num + 1) % 4294967296 ≤ 4294967295; omega }, k1, by show (layGo g b (needN b.length) (needN b.length) 0 m).1.writes ≤ _; omega, by show (layGo g b (needN b.length) (needN b.length) 0 m).1.pend.length ≤ _; omega, k4⟩
        · exact ⟨{ hg with }, k1, by show (layGo g b (needN b.length) (needN b.length) 0 m).1.writes ≤ _; omega, by show (layGo g b (needN b.length) (needN b.length) 0 m).1.pend.length ≤ _; omega, k4⟩
theorem gathF_bd (F : Nat → Option (List Int)) (n : Nat) : ∀ (f pl : Nat) (num : Int) (last : Option (List Int)) (out : List (List Int)), pl ≤ n → out.length ≤ pl → 0 ≤ num ∧ num ≤ 4294967295 →
    (gathF F n f pl num last out).1 ≤ n ∧ (gathF F n f pl num last out).2.2.length ≤ (gathF F n f pl num last out).1 ∧ 0 ≤ (gathF F n f pl num last out).2.1 ∧ (gathF F n f pl num last out).2.1 ≤ 4294967295
  | 0, _, _, _, _, h1, h2, h3 => ⟨h1, h2, h3⟩
  | f + 1, pl, num, last, out, h1, h2, h3 => by
    rw [gathF.eq_2]
    split
    · split
      · exact ⟨h1, h2, h3⟩
      · rename_i hw
        split
        · exact ⟨h1, h2, h3⟩
        · have hle := wholeF_le (fun i => F (pl + i)) (n - pl)
          exact gathF_bd F n f _ _ _ _ (by omega) (by rw [List.length_append, List.length_singleton]; omega) (by omega)
    · exact ⟨h1, h2, h3⟩
theorem told_bd (now : List Int) (frm n : Nat) : (toldOf now frm n).1 ≤ n ∧ (toldOf now frm n).2.2.length ≤ n ∧ 0 ≤ (toldOf now frm n).2.1 ∧ (toldOf now frm n).2.1 ≤ 4294967295 := by
  have h := gathF_bd (pcF now frm) n n 0 ((gr2 fN (pcF now frm) n + 1) % 4294967296) none [] (Nat.zero_le _) (Nat.le_refl _) (by omega)
  exact ⟨h.1, Nat.le_trans h.2.1 h.1, h.2.2⟩
theorem logOf_ok (D frm n : Nat) (now : List Int) (h : sesOf now frm n ≠ 4294967295) : LOk D frm n (logOf D frm n now) := by
  have hb := gr2_bd fS (pcF now frm) fS_bd n
  have ht := told_bd now frm n
  have e : sesOf now frm n = gr2 fS (pcF now frm) n := rfl
  exact { d := rfl, frm := rfl, n := rfl, pl := ht.1, num := ht.2.2, ses := by show 0 ≤ sesOf now frm n + 1 ∧ sesOf now frm n + 1 ≤ 4294967295; omega }
/-- Where the disks are alike, the document reads the pieces that the program reads. -/
theorem Like.rat_bys {N : Nat} {m : Dk} {r : Rk} (hl : Like N m r) (hb : DBys m) (i : Nat) : Bys (rat r.S r.P i) ∧ pcOf (unstr (strOf (rat r.S r.P i))) = pcOf (secOf m.now i) := by
  by_cases hi : i < N
  · rw [← hl.now i hi]
    have h1 : Bys (secOf m.now i) := (hb.n.drop _).take _
    exact ⟨h1, by rw [unstr_strOf _ h1]⟩
  · have e1 : rat r.S r.P i = [] := by
      unfold rat
      rw [rat_off r.S i r.P _ (fun x hx => by
        rw [← hl.pend] at hx
        have := (hl.fit x hx).1
        omega)]
      rw [List.getD_eq_getElem?_getD, List.getElem?_eq_none (by have := hl.sn; omega)]
      rfl
    have e2 : secOf m.now i = [] := by
      unfold secOf
      rw [List.drop_eq_nil_of_le (by have := hl.nl; omega)]
      rfl
    rw [e1, e2]
    exact ⟨Bys.nil, rfl⟩
theorem Like.rF {N : Nat} {m : Dk} {r : Rk} (hl : Like N m r) (hb : DBys m) (frm : Nat) : rF r frm = pcF m.now frm := by
  funext i
  exact (hl.rat_bys hb (frm + i)).2
theorem Like.rBys {N : Nat} {m : Dk} {r : Rk} (hl : Like N m r) (hb : DBys m) (frm i : Nat) : Bys (rR r frm i) := by
  unfold rR
  rw [unstr_strOf _ (hl.rat_bys hb (frm + i)).1]
  exact (hl.rat_bys hb (frm + i)).1
end Go.Proofs.Yticiaiiedagalaa.dk
/- Both disks, both logs and what they told, in memory: what turns one leaves the others. -/
namespace Go.Proofs.Yticiaiiedagalaa.dk
open Go.PlainAid Go.ChangeShapes Go.WideShapes Go.ChangeAt Go.RowKit

/-- Rows of other types stay, and bytes outside the disk's own two rows. -/
def Ff (L N : Nat) (T : List TypeId) (w w' : World) : Prop := ∀ (k : Nat) (cur : Array Value) (t : TypeId), w.heap[k]? = some (.cells cur t (0, 0)) → (t = 5 → k ≠ L ∧ k ≠ N) → t ∉ T → w'.heap[k]? = w.heap[k]?
theorem Ff.trans {L N : Nat} {T : List TypeId} {a b c : World} (h : Ff L N T a b) (k : Ff L N T b c) : Ff L N T a c := fun g cur t hg hl ht => (k g cur t ((h g cur t hg hl ht).trans hg) hl ht).trans (h g cur t hg hl ht)
theorem Ff.new {L N : Nat} {T : List TypeId} {a b : World} (h : Below a.heap.size a b) : Ff L N T a b := fun g _ _ hg _ _ => h.block g (Array.getElem?_eq_some_iff.1 hg).1
theorem Ff.wide {L N : Nat} {T T' : List TypeId} {a b : World} (h : Ff L N T a b) (hT : ∀ t ∈ T, t ∈ T') : Ff L N T' a b := fun g cur t hg hl ht => h g cur t hg hl (fun hm => ht (hT t hm))
theorem Tf.ff {L N : Nat} {T : List TypeId} {a b : World} (h : Tf T a b) : Ff L N T a b := fun g cur t hg _ ht => h g cur t hg ht
/-- The types of the program's disk; with its log; all. -/
def T6 : List TypeId := [65, 90]
def T7 : List TypeId := 76 :: T6
def T9 : List TypeId := T6 ++ TR
def TA : List TypeId := T7 ++ TL
theorem Ff.d {B D L N B' : Nat} {P : Value} {m : Dk} {w w' : World} (h : DiskAt B D L N P m w) (hb : Bf B' (Xd D L N P) w w') : Ff L N T6 w w' := fun g cur t hg hl ht => by
  refine hb.fr g (Array.getElem?_eq_some_iff.1 hg).1 ?_
  rintro (e | e | e | e)
  · exact cells_ne hg h.hD (by rintro rfl; exact ht (by decide)) e
  · by_cases ht8 : t = 5
    · exact (hl ht8).1 e
    · exact cells_ne hg h.hL ht8 e
  · by_cases ht8 : t = 5
    · exact (hl ht8).2 e
    · exact cells_ne hg h.hN ht8 e
  · obtain ⟨cur2, hc⟩ := own_type h.hP e
    exact cells_ne hg hc (by rintro rfl; exact ht (by decide)) rfl
theorem Ff.lk {B D L N A : Nat} {P P' : Value} {g : Lg} {m : Dk} {w w' : World} (h : DiskAt B D L N P m w) (hg : LogAt A g w) (hb : LkF B D L N P A w P' w') : Ff L N T7 w w' := fun k cur t hk hl ht => by
  refine hb.fr k (Array.getElem?_eq_some_iff.1 hk).1 ?_ (cells_ne hk hg (by rintro rfl; exact ht (by decide)))
  rintro (e | e | e | e)
  · exact cells_ne hk h.hD (by rintro rfl; exact ht (by decide)) e
  · by_cases ht8 : t = 5
    · exact (hl ht8).1 e
    · exact cells_ne hk h.hL ht8 e
  · by_cases ht8 : t = 5
    · exact (hl ht8).2 e
    · exact cells_ne hk h.hN ht8 e
  · obtain ⟨cur2, hc⟩ := own_type h.hP e
    exact cells_ne hk hc (by rintro rfl; exact ht (by decide)) rfl
theorem RefAt.ff {L N : Nat} {T : List TypeId} {B D : Nat} {S P : Value} {r : Rk} {w w' : World} (h : RefAt B D S P r w) (hb : Ff L N T w w') (h1 : 44 ∉ T) (h2 : 9 ∉ T) (h3 : 93 ∉ T) : RefAt B D S P r w' :=
  { h with
    hD := (hb _ _ _ h.hD (fun e => absurd e (by decide)) h1).trans h.hD
    hS := own_block_keeps h.hS fun g hg => by
      obtain ⟨cur, hc⟩ := own_type h.hS hg
      exact hb _ _ _ hc (fun e => absurd e (by decide)) h2
    hP := own_block_keeps h.hP fun g hg => by
      obtain ⟨cur, hc⟩ := own_type h.hP hg
      exact hb _ _ _ hc (fun e => absurd e (by decide)) h3 }
theorem LogAt.ff {L N : Nat} {T : List TypeId} {A : Nat} {g : Lg} {w w' : World} (h : LogAt A g w) (hb : Ff L N T w w') (h1 : 76 ∉ T) : LogAt A g w' := (hb _ _ _ h (fun e => absurd e (by decide)) h1).trans h
theorem RLogAt.ff {L N : Nat} {T : List TypeId} {A : Nat} {g : Lg} {w w' : World} (h : RLogAt A g w) (hb : Ff L N T w w') (h1 : 85 ∉ T) : RLogAt A g w' := (hb _ _ _ h (fun e => absurd e (by decide)) h1).trans h
theorem RecAt.ff {L N : Nat} {T : List TypeId} {B : Nat} {v : Value} {R : List (List Int)} {vs : List Value} {w w' : World} (h : RecAt B v R vs w) (hL : L < B) (hN : N < B) (hb : Ff L N T w w') (h1 : 45 ∉ T) (h2 : 5 ∉ T) : RecAt B v R vs w' := by
  refine ⟨owned_keeps h.own fun g hg => ?_, fun i hi => ?_⟩
  · obtain ⟨cur, hc⟩ := owned_type h.own hg
    exact hb g _ _ hc (fun e => absurd e (by decide)) h1
  · obtain ⟨q, cc, e, ho⟩ := h.el i hi
    refine ⟨q, cc, e, owned_keeps ho fun g hg => ?_⟩
    obtain ⟨cur, hc⟩ := owned_type ho hg
    have hlt := (ho.lt g hg).1
    exact hb g _ _ hc (fun _ => ⟨by omega, by omega⟩) h2
/-- The thing that is done, laid in a block of its own. -/
def OAt (ob : Nat) (oc : Array Value) (W : World) : Prop := W.heap[ob]? = some (.cells oc 48 (0, 0))
theorem OAt.lt {ob : Nat} {oc : Array Value} {W : World} (h : OAt ob oc W) : ob < W.heap.size := (Array.getElem?_eq_some_iff.1 h).1
theorem OAt.cell {ob : Nat} {oc : Array Value} {W : World} (h : OAt ob oc W) (j : Nat) : W.cell? ⟨ob, j, none⟩ = oc[j]? := cell_of_row _ _ _ _ _ _ h
theorem OAt.below {ob : Nat} {oc : Array Value} {W W' : World} (h : OAt ob oc W) (hb : Below W.heap.size W W') : OAt ob oc W' := (hb.block _ h.lt).trans h
theorem OAt.ff {L N : Nat} {T : List TypeId} {ob : Nat} {oc : Array Value} {w w' : World} (h : OAt ob oc w) (hb : Ff L N T w w') (h1 : 48 ∉ T) : OAt ob oc w' := (hb _ _ _ h (fun e => absurd e (by decide)) h1).trans h

/-- Both disks, alike, where at most so much is written and pending. -/
structure Jx (w : World) (B D L N B2 D2 n k : Nat) (P S2 P2 : Value) (m : Dk) (r : Rk) (W : World) : Prop where
  d : DiskAt B D L N P m W
  rr : RefAt B2 D2 S2 P2 r W
  l : Like n m r
  y : DBys m
  wk : m.writes ≤ k
  pk : m.pend.length ≤ k
  b : Below w.heap.size w W
/-- Both disks, whatever they hold; b: only where they live. -/
def Jt (w : World) (B D L N B2 D2 n k : Nat) (al : Bool) (W : World) : Prop := ∃ P S2 P2 m r, Jx w B D L N B2 D2 n k P S2 P2 m r W ∧ (al = true → m.dead = false)
theorem Jx.below {w : World} {B D L N B2 D2 n k : Nat} {P S2 P2 : Value} {m : Dk} {r : Rk} {W W' : World} (h : Jx w B D L N B2 D2 n k P S2 P2 m r W) (hb : Below W.heap.size W W') : Jx w B D L N B2 D2 n k P S2 P2 m r W' :=
  { h with d := h.d.below hb, rr := h.rr.below hb, b := h.b.trans (hb.mono h.b.size) }
theorem Jt.below {w : World} {B D L N B2 D2 n k : Nat} {al : Bool} {W W' : World} (h : Jt w B D L N B2 D2 n k al W) (hb : Below W.heap.size W W') : Jt w B D L N B2 D2 n k al W' := by
  obtain ⟨P, S2, P2, m, r, h, ha⟩ := h
  exact ⟨P, S2, P2, m, r, h.below hb, ha⟩
theorem Jt.more {w : World} {B D L N B2 D2 n k k' : Nat} {al : Bool} {W : World} (h : Jt w B D L N B2 D2 n k al W) (hk : k ≤ k') : Jt w B D L N B2 D2 n k' false W := by
  obtain ⟨P, S2, P2, m, r, h, _⟩ := h
  exact ⟨P, S2, P2, m, r, { h with wk := by have := h.wk; omega, pk := by have := h.pk; omega }, fun e => by cases e⟩
theorem Jt.b {w : World} {B D L N B2 D2 n k : Nat} {al : Bool} {W : World} (h : Jt w B D L N B2 D2 n k al W) : Below w.heap.size w W := by
  obtain ⟨_, _, _, _, _, h, _⟩ := h
  exact h.b
/-- First the program's disk turns, then the document's. -/
theorem Jx.step {w : World} {B D L N B2 D2 n k k' : Nat} {P S2 P2 : Value} {m : Dk} {r : Rk} {W W' W'' : World} (h : Jx w B D L N B2 D2 n k P S2 P2 m r W) (h1 : w.heap.size ≤ B) (h2 : w.heap.size ≤ B2)
    {P' : Value} {m' : Dk} (hd : DiskAt B D L N P' m' W') (hb : Below B W W') {S2' P2' : Value} {r' : Rk} (hr : RefAt B2 D2 S2' P2' r' W'') (hb2 : Below B2 W' W'') (ht2 : Tf TL W' W'') (hl : Like n m' r') (hy : DBys m') (wk : m'.writes ≤ k') (pk : m'.pend.length ≤ k') : Jx w B D L N B2 D2 n k' P' S2' P2' m' r' W'' :=
  { d := hd.tf ht2 (by decide) (by decide) (by decide), rr := hr, l := hl, y := hy, wk := wk, pk := pk, b := (h.b.trans (hb.mono h1)).trans (hb2.mono h2) }
/-- Both logs: none, with an error, or alike. -/
def Logs (B B2 D D2 fr kn : Nat) (e : Int) (va vb : Value) (W : World) : Prop := (e ≠ 0 ∧ va = .pointer none ∧ vb = .pointer none) ∨ (e = 0 ∧ ∃ A A2 g, va = .pointer (some ⟨A, 0, none⟩) ∧ vb = .pointer (some ⟨A2, 0, none⟩) ∧ B ≤ A ∧ B2 ≤ A2 ∧ LogAt A g W ∧ RLogAt A2 { g with d := D2 } W ∧ LOk D fr kn g)
theorem Logs.ff {L N : Nat} {T : List TypeId} {B B2 D D2 fr kn : Nat} {e : Int} {va vb : Value} {w w' : World} (h : Logs B B2 D D2 fr kn e va vb w) (hb : Ff L N T w w') (h1 : 76 ∉ T) (h2 : 85 ∉ T) : Logs B B2 D D2 fr kn e va vb w' := by
  rcases h with h | ⟨h0, A, A2, g, e1, e2, e3, e4, h5, h6, h7⟩
  · exact .inl h
  · exact .inr ⟨h0, A, A2, g, e1, e2, e3, e4, h5.ff hb h1, h6.ff hb h2, h7⟩
/-- What both told: the same records. -/
def Recs (L N : Nat) (vx vy : Value) (W : World) : Prop := ∃ px py cx cy R vs vs2 B3, vx = .slice px (R : List (List Int)).length cx ∧ vy = .slice py R.length cy ∧ R.length ≤ 100000 ∧ L < B3 ∧ N < B3 ∧ RecAt B3 vx R vs W ∧ RecAt B3 vy R vs2 W
theorem Recs.ff {L N : Nat} {T : List TypeId} {vx vy : Value} {w w' : World} (h : Recs L N vx vy w) (hb : Ff L N T w w') (h1 : 45 ∉ T) (h2 : 5 ∉ T) : Recs L N vx vy w' := by
  obtain ⟨px, py, cx, cy, R, vs, vs2, B3, e1, e2, e3, e4, e5, h6, h7⟩ := h
  exact ⟨px, py, cx, cy, R, vs, vs2, B3, e1, e2, e3, e4, e5, h6.ff e4 e5 hb h1 h2, h7.ff e4 e5 hb h1 h2⟩
theorem Recs.nil (L N : Nat) (W : World) : Recs L N (.slice none 0 0) (.slice none 0 0) W :=
  ⟨none, none, 0, 0, [], [], [], L + N + 1, rfl, rfl, by simp, by omega, by omega, ⟨World.ownsRow_nil _ _ _ _, fun i hi => absurd hi (by simp)⟩, ⟨World.ownsRow_nil _ _ _ _, fun i hi => absurd hi (by simp)⟩⟩
/-- All of it. -/
structure Js (w : World) (B D L N B2 D2 n fr kn k : Nat) (al : Bool) (e : Int) (va vb vx vy : Value) (W : World) : Prop where
  t : Jt w B D L N B2 D2 n k al W
  g : Logs B B2 D D2 fr kn e va vb W
  c : Recs L N vx vy W
theorem Js.below {w : World} {B D L N B2 D2 n fr kn k : Nat} {al : Bool} {e : Int} {va vb vx vy : Value} {W W' : World} (h : Js w B D L N B2 D2 n fr kn k al e va vb vx vy W) (hb : Below W.heap.size W W') : Js w B D L N B2 D2 n fr kn k al e va vb vx vy W' :=
  ⟨h.t.below hb, h.g.ff (L := L) (N := N) (T := []) (Ff.new hb) (by decide) (by decide), h.c.ff (T := []) (Ff.new hb) (by decide) (by decide)⟩
theorem Js.more {w : World} {B D L N B2 D2 n fr kn k k' : Nat} {al : Bool} {e : Int} {va vb vx vy : Value} {W : World} (h : Js w B D L N B2 D2 n fr kn k al e va vb vx vy W) (hk : k ≤ k') : Js w B D L N B2 D2 n fr kn k' false e va vb vx vy W :=
  ⟨h.t.more hk, h.g, h.c⟩
/-- Two calls, one behind the other, end alike. -/
def Twice (f g : FuncId) (a b : Array Value) (v : Value) (T1 T : World → Prop) (W : World) : Prop := Calls Try.prog f a W fun e W' => (e = .returned v ∧ T1 W') ∧ Calls Try.prog g b W' fun e W'' => e = .returned v ∧ T W''
theorem Twice.go {f g : FuncId} {a b : Array Value} {v : Value} {T1 T : World → Prop} {W : World} (h : Twice f g a b v T1 T W) : Calls Try.prog f a W fun e W' => (e = .returned v ∧ T1 W') ∧ Calls Try.prog g b W' fun e W'' => e = .returned v ∧ T W'' := h
/-- Bytes below B. -/
def Rb (B : Nat) (W : World) (p : Option Addr) (n : Nat) (l : List Int) : Prop := l.length = n ∧ (0 < n → ∃ b off, p = some ⟨b, off, none⟩ ∧ b < B ∧ ∀ i, i < n → W.cell? ⟨b, off + i, none⟩ = some (.int .u8 (l.getD i 0)))
theorem Rb.below {B : Nat} {W W' : World} {p : Option Addr} {n : Nat} {l : List Int} (h : Rb B W p n l) (hb : Below B W W') : Rb B W' p n l := by
  refine ⟨h.1, fun h0 => ?_⟩
  obtain ⟨b, off, e, hlt, hc⟩ := h.2 h0
  exact ⟨b, off, e, hlt, fun i hi => by rw [hb.cell hlt]; exact hc i hi⟩
theorem Rb.rd {B : Nat} {W : World} {p : Option Addr} {n : Nat} {l : List Int} (h : Rb B W p n l) (hB : B ≤ W.heap.size) : Rd W p n l := by
  refine ⟨h.1, fun h0 => ?_⟩
  obtain ⟨b, off, e, hlt, hc⟩ := h.2 h0
  exact ⟨b, off, e, by omega, hc⟩
theorem Rd.rb {W : World} {p : Option Addr} {n : Nat} {l : List Int} (h : Rd W p n l) : Rb W.heap.size W p n l := h
theorem T6_9 : ∀ t ∈ T6, t ∈ T9 := fun _ ht => List.mem_append_left _ ht
theorem TR_9 : ∀ t ∈ TR, t ∈ T9 := fun _ ht => List.mem_append_right _ ht

theorem Kb.mono {B B' : Nat} {W : World} {q : Option Addr} {n : Nat} {kb : List Bool} (h : Kb B W q n kb) (hB : B ≤ B') : Kb B' W q n kb := ⟨h.1, fun h0 => by
  obtain ⟨b, off, e, hlt, hc⟩ := h.2 h0
  exact ⟨b, off, e, by omega, hc⟩⟩
/-- What the loop holds, and the thing that is done. -/
structure Jo (w : World) (B D L N B2 D2 n fr kn k : Nat) (al : Bool) (e : Int) (va vb vx vy : Value) (ob : Nat) (oc : Array Value) (W : World) : Prop where
  s : Js w B D L N B2 D2 n fr kn k al e va vb vx vy W
  o : OAt ob oc W
theorem Jo.below {w : World} {B D L N B2 D2 n fr kn k ob : Nat} {al : Bool} {e : Int} {va vb vx vy : Value} {oc : Array Value} {W W' : World} (h : Jo w B D L N B2 D2 n fr kn k al e va vb vx vy ob oc W) (hb : Below W.heap.size W W') : Jo w B D L N B2 D2 n fr kn k al e va vb vx vy ob oc W' := ⟨h.s.below hb, h.o.below hb⟩
theorem both_write {w : World} {B D L N B2 D2 n fr kn k ob : Nat} {al : Bool} {e : Int} {va vb vx vy : Value} {oc : Array Value} {W : World} (h : Jo w B D L N B2 D2 n fr kn k al e va vb vx vy ob oc W) (hk : k < 900) (h1 : w.heap.size ≤ B) (h2 : w.heap.size ≤ B2)
    (a : Option Addr) (an c : Nat) (l : List Int) (hl : Bys l) (hR : Rb w.heap.size W a an l) (x : Int) :
    ∃ ec : Int, Twice 19 20 #[.pointer (some ⟨D, 0, none⟩), .int .i64 x, .slice a an c] #[.pointer (some ⟨D2, 0, none⟩), .int .i64 x, .slice a an c] (.int .i64 ec) (OAt ob oc) (Jo w B D L N B2 D2 n fr kn (k + 1) false e va vb vx vy ob oc) W := by
  obtain ⟨⟨⟨P, S2, P2, m, r, h, _⟩, hg, hc⟩, ho⟩ := h
  have hwk := h.wk
  have hpk := h.pk
  have hbd := dWrite_bd m x l
  refine ⟨(dWrite m x l).2, (Write_any h.d a an c l x (hR.rd h.b.size) (by omega) (by omega)).mono ?_⟩
  rintro e1 W' ⟨P', rfl, hd', hf⟩
  have f1 : Ff L N T9 W W' := (Ff.d h.d hf.bf).wide T6_9
  have hr' := RefAt.other h.d h.rr hf.bf
  refine ⟨⟨rfl, ho.ff f1 (by decide)⟩, (rWrite_like hr' h.l a an c l ((hR.below (hf.bf.below.mono h1)).rd (Nat.le_trans h.b.size hf.bf.below.size)) ?_ (by omega) (by omega) x).mono ?_⟩
  · intro h0 bk off e2
    obtain ⟨b', off', e', hlt, _⟩ := hR.2 h0
    rw [e2] at e'
    have : bk = b' := by injection e' with e'; injection e'
    have := hr'.bD
    omega
  · rintro e2 W'' ⟨S', P2', r', rfl, hr2, hl2, hb2, ht2⟩
    have f2 : Ff L N T9 W W'' := f1.trans (ht2.ff.wide TR_9)
    exact ⟨rfl, ⟨⟨_, _, _, _, _, h.step h1 h2 hd' hf.bf.below hr2 hb2 (ht2.wide TR_TL) hl2 (h.y.write hl x) (by omega) (by omega), fun e => by cases e⟩, hg.ff f2 (by decide) (by decide), hc.ff f2 (by decide) (by decide)⟩, ho.ff f2 (by decide)⟩
theorem both_sync {w : World} {B D L N B2 D2 n fr kn k ob : Nat} {al : Bool} {e : Int} {va vb vx vy : Value} {oc : Array Value} {W : World} (h : Jo w B D L N B2 D2 n fr kn k al e va vb vx vy ob oc W) (hk : k < 900) (h1 : w.heap.size ≤ B) (h2 : w.heap.size ≤ B2) :
    ∃ ec : Int, Twice 21 22 #[.pointer (some ⟨D, 0, none⟩)] #[.pointer (some ⟨D2, 0, none⟩)] (.int .i64 ec) (OAt ob oc) (Jo w B D L N B2 D2 n fr kn (k + 1) false e va vb vx vy ob oc) W := by
  obtain ⟨⟨⟨P, S2, P2, m, r, h, _⟩, hg, hc⟩, ho⟩ := h
  have hwk := h.wk
  have hpk := h.pk
  have hbd := dSync_bd m
  refine ⟨(dSync m).2, (Sync_any h.d (by omega) (by omega)).mono ?_⟩
  rintro e1 W' ⟨P', rfl, hd', hf⟩
  have f1 : Ff L N T9 W W' := (Ff.d h.d hf.bf).wide T6_9
  refine ⟨⟨rfl, ho.ff f1 (by decide)⟩, (rSync_like (RefAt.other h.d h.rr hf.bf) h.l (by omega)).mono ?_⟩
  rintro e2 W'' ⟨S', P2', r', rfl, hr2, hl2, hb2, ht2⟩
  have f2 : Ff L N T9 W W'' := f1.trans (ht2.ff.wide TR_9)
  exact ⟨rfl, ⟨⟨_, _, _, _, _, h.step h1 h2 hd' hf.bf.below hr2 hb2 (ht2.wide TR_TL) hl2 h.y.sync (by omega) (by omega), fun e => by cases e⟩, hg.ff f2 (by decide) (by decide), hc.ff f2 (by decide) (by decide)⟩, ho.ff f2 (by decide)⟩
theorem both_limit {w : World} {B D L N B2 D2 n fr kn k ob : Nat} {al : Bool} {e : Int} {va vb vx vy : Value} {oc : Array Value} {W : World} (h : Jo w B D L N B2 D2 n fr kn k al e va vb vx vy ob oc W) (h1 : w.heap.size ≤ B) (h2 : w.heap.size ≤ B2) (x : Int) (hx0 : -9223372036854775808 ≤ x) (hx1 : x ≤ 9223372036854775807) :
    Twice 23 24 #[.pointer (some ⟨D, 0, none⟩), .int .i64 x] #[.pointer (some ⟨D2, 0, none⟩), .int .i64 x] (.tuple #[]) (OAt ob oc) (Jo w B D L N B2 D2 n fr kn k false e va vb vx vy ob oc) W := by
  obtain ⟨⟨⟨P, S2, P2, m, r, h, _⟩, hg, hc⟩, ho⟩ := h
  refine (Limit_any h.d x hx0 hx1).mono ?_
  rintro e1 W' ⟨rfl, hd', hb, hf⟩
  have hbf : Bf B (Xd D L N P) W W' := Bf.one hb hf (.inl rfl)
  have f1 : Ff L N T9 W W' := (Ff.d h.d hbf).wide T6_9
  have hr' := RefAt.other h.d h.rr hbf
  refine ⟨⟨rfl, ho.ff f1 (by decide)⟩, (rLimit_any hr' x hx0 hx1).mono ?_⟩
  rintro e2 W'' ⟨rfl, hr2, hb2, hf2⟩
  have ht2 := Tf.r hr' (Bf.one hb2 hf2 (.inl rfl))
  have f2 : Ff L N T9 W W'' := f1.trans (ht2.ff.wide TR_9)
  exact ⟨rfl, ⟨⟨_, _, _, _, _, h.step h1 h2 hd' hb hr2 hb2 (ht2.wide TR_TL) { h.l with lim := rfl } ⟨h.y.n, h.y.l, h.y.p⟩ h.wk h.pk, fun e => by cases e⟩, hg.ff f2 (by decide) (by decide), hc.ff f2 (by decide) (by decide)⟩, ho.ff f2 (by decide)⟩
theorem both_reopen {w : World} {B D L N B2 D2 n fr kn k ob : Nat} {al : Bool} {e : Int} {va vb vx vy : Value} {oc : Array Value} {W : World} (h : Jo w B D L N B2 D2 n fr kn k al e va vb vx vy ob oc W) (hk : k < 900) (h1 : w.heap.size ≤ B) (h2 : w.heap.size ≤ B2) (a : Option Addr) (an c : Nat) (kb : List Bool) (hkb : Kb w.heap.size W a an kb) (han : an ≤ 200) :
    Twice 17 18 #[.pointer (some ⟨D, 0, none⟩), .slice a an c] #[.pointer (some ⟨D2, 0, none⟩), .slice a an c] (.tuple #[]) (OAt ob oc) (Jo w B D L N B2 D2 n fr kn k true e va vb vx vy ob oc) W := by
  obtain ⟨⟨⟨P, S2, P2, m, r, h, _⟩, hg, hc⟩, ho⟩ := h
  have hpk := h.pk
  refine (Reopen_any h.d a an c kb (hkb.mono h1) (by omega) (by omega)).mono ?_
  rintro e1 W' ⟨rfl, hd', hbf⟩
  have f1 : Ff L N T9 W W' := (Ff.d h.d hbf).wide T6_9
  have hr' := RefAt.other h.d h.rr hbf
  refine ⟨⟨rfl, ho.ff f1 (by decide)⟩, (rReopen_any hr' a an c kb ((hkb.below (hbf.below.mono h1)).mono h2)).mono ?_⟩
  rintro e2 W'' ⟨rfl, hr2, hb2⟩
  have ht2 := Tf.r hr' hb2
  have f2 : Ff L N T9 W W'' := f1.trans (ht2.ff.wide TR_9)
  exact ⟨rfl, ⟨⟨_, _, _, _, _, h.step h1 h2 hd' hbf.below hr2 hb2.below (ht2.wide TR_TL) (h.l.reopen kb) (h.y.reopen kb) h.wk (Nat.zero_le _), fun _ => rfl⟩, hg.ff f2 (by decide) (by decide), hc.ff f2 (by decide) (by decide)⟩, ho.ff f2 (by decide)⟩
end Go.Proofs.Yticiaiiedagalaa.dk
