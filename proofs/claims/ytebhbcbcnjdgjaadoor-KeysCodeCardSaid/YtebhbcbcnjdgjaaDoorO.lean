/- The bytes of any part. -/
import Derived.Test.YtebhbcbcnjdgjaaDoorN
import Derived.Test.YtebhbcbcnjdgjaaDoorShelf
import Derived.Lib.AppendStr
namespace Go.Proofs.YtebhbcbcnjdgjaaDoor.dk
open Go.PlainAid Go.ChangeShapes Go.WideShapes Go.ChangeAt Go.RowKit

theorem strCells_b (s : ByteArray) : Lib.strCells s = bcells (unstr s) := by
  unfold Lib.strCells bcells unstr
  rw [List.map_map]
  rfl
/-- append of a string. -/
theorem append_str {w : World} {B c : Nat} {p0 : Option Addr} {l : List Int} (s : ByteArray) (hown : w.ownsRow B 5 1 (.slice p0 l.length c) l.length (bcells l)) (hl : l.length ≤ 1000000) (hs : s.size ≤ 1000000) (hB : B ≤ w.heap.size) :
    ∃ p cc w', (Builtin.append_ #[23, 9] 23 #[.slice p0 l.length c, .string s]).run Tryd.prog w = .ok (.slice p (l ++ unstr s).length cc) w' ∧ w'.ownsRow B 5 1 (.slice p (l ++ unstr s).length cc) (l ++ unstr s).length (bcells (l ++ unstr s)) ∧ Below B w w' := by
  obtain ⟨i0, hi, hz0, hz1, hz2⟩ := info_parts infoU8
  have h := Lib.run_append_own_string (P := Tryd.prog) w B 23 9 23 5 i0 Tryd.underlying23 Tryd.underlying9 hi hz0 hz1 hz2
  obtain ⟨v', w', hr, h2, h3, _⟩ := h (.slice p0 l.length c) l.length (bcells l) hown s (by unfold maxLen; omega) (by omega) hB
  obtain ⟨p, cc, rfl⟩ := owned_form h2
  have e : l.length + s.size = (l ++ unstr s).length := by rw [List.length_append, unstr_length]
  rw [strCells_b, ← bcells_append, e] at h2
  rw [e] at hr
  exact ⟨p, cc, w', hr, h2, (Below.refl _ _).grown h3 hB (fun k hk => (hown.lt k hk).1)⟩
/-- A text's bytes: each 0 doubled by a 255. -/
def rep (s : ByteArray) : List Int := unstr ⟨(Lib.replaceAll s.data.toList (⟨#[0]⟩ : ByteArray).data.toList (⟨#[0, 255]⟩ : ByteArray).data.toList).toArray⟩
def penc (p : Pt) : List Int :=
  if p.k = 1 then (if p.b = true then [33] else [32]) else
  if p.k = 2 then (if p.dg.size = 0 then [49] else nbytes p.neg (unstr p.dg) ((p.dg.size : Int) + p.ex + 1000)) else
  if p.k = 3 then [64] ++ rep p.s ++ [0, 0] else
  if p.k = 9 then [80, p.i / 16777216, p.i / 65536 % 256, p.i / 256 % 256, p.i % 256] else [16]
/-- What stands where a part is laid: its copy, and the bytes that are its own. -/
theorem box_size (w : World) (x : Obj) : (w.alloc x).heap.size = w.heap.size + 1 := by simp [World.alloc, -World.alloc_eq]
theorem box_own {w : World} {B m c : Nat} {p : Option Addr} {b : List Int} (A : Array Value) (hown : w.ownsRow B 5 1 (.slice p m c) m (bcells b)) (hm : b.length = m) (hB : B ≤ w.heap.size) : (w.alloc (.cells A 43)).ownsRow B 5 1 (.slice p b.length c) b.length (bcells b) ∧ Below B w (w.alloc (.cells A 43)) ∧ B ≤ (w.alloc (.cells A 43)).heap.size := by
  subst hm
  have hb : Below w.heap.size w (w.alloc (.cells A 43)) := (Below.refl _ _).alloc (Nat.le_refl _) _
  exact ⟨owned_keeps hown fun k hk => hb.block k (hown.lt k hk).2, hb.mono hB, Nat.le_trans hB hb.size⟩
set_option maxHeartbeats 4000000 in
set_option maxRecDepth 100000 in
theorem laid_0 (w : World) (B m c : Nat) (p : Option Addr) (b : List Int) (x y : Bool) (dg : ByteArray) (ex : Int) (s : ByteArray) (i : Int) (hown : w.ownsRow B 5 1 (.slice p m c) m (bcells b)) (hm : b.length = m) (hm2 : b.length ≤ 100000) (hB : B ≤ w.heap.size) :
    Calls Tryd.prog 24 #[.slice p m c, .agg #[.int .i64 0, .bool x, .bool y, .string dg, .int .i64 ex, .string s, .int .i64 i]] w (OPost B w (b ++ [16])) := by
  obtain ⟨ho, hb, hB2⟩ := box_own #[.int .i64 0, .bool x, .bool y, .string dg, .int .i64 ex, .string s, .int .i64 i] hown hm hB
  obtain ⟨p3, c3, w3, hru, hgr⟩ := append_one 16 ho (by omega) hB2
  have hFin : Hid (OPost B w (b ++ [16]) (.returned (.slice p3 (b ++ [16]).length c3)) w3) := ⟨p3, c3, rfl, hgr.own, hb.trans hgr.b⟩
  rw [hm, box_size] at hru
  have HRu := Lib.hid hru
  clear hown hm hB ho hb hB2 hru hgr
  generalize b ++ [16] = L at HRu hFin ⊢
  generalize L.length = n3 at HRu hFin
  go_enter Tryd.func24, Tryd.ntmps24
  go_wp2_with (at_builtin; refine wpList_append_run rfl _ _ _ rfl _ _ _ _ rfl rfl HRu.out ?_; clear HRu)
  go_ret
  exact hFin.out
set_option maxHeartbeats 4000000 in
set_option maxRecDepth 100000 in
theorem laid_1 (w : World) (B m c : Nat) (p : Option Addr) (b : List Int) (x y : Bool) (dg : ByteArray) (ex : Int) (s : ByteArray) (i : Int) (hown : w.ownsRow B 5 1 (.slice p m c) m (bcells b)) (hm : b.length = m) (hm2 : b.length ≤ 100000) (hB : B ≤ w.heap.size) :
    Calls Tryd.prog 24 #[.slice p m c, .agg #[.int .i64 1, .bool x, .bool y, .string dg, .int .i64 ex, .string s, .int .i64 i]] w (OPost B w (b ++ if x = true then [33] else [32])) := by
  obtain ⟨ho, hb, hB2⟩ := box_own #[.int .i64 1, .bool x, .bool y, .string dg, .int .i64 ex, .string s, .int .i64 i] hown hm hB
  cases x with
  | true =>
    rw [if_pos rfl]
    obtain ⟨p3, c3, w3, hru, hgr⟩ := append_one 33 ho (by omega) hB2
    have hFin : Hid (OPost B w (b ++ [33]) (.returned (.slice p3 (b ++ [33]).length c3)) w3) := ⟨p3, c3, rfl, hgr.own, hb.trans hgr.b⟩
    rw [hm, box_size] at hru
    have HRu := Lib.hid hru
    clear hown hm hB ho hb hB2 hru hgr
    generalize b ++ [33] = L at HRu hFin ⊢
    generalize L.length = n3 at HRu hFin
    go_enter Tryd.func24, Tryd.ntmps24
    go_wp2_with (at_builtin; refine wpList_append_run rfl _ _ _ rfl _ _ _ _ rfl rfl HRu.out ?_; clear HRu)
    go_ret
    exact hFin.out
  | false =>
    rw [if_neg (by decide)]
    obtain ⟨p3, c3, w3, hru, hgr⟩ := append_one 32 ho (by omega) hB2
    have hFin : Hid (OPost B w (b ++ [32]) (.returned (.slice p3 (b ++ [32]).length c3)) w3) := ⟨p3, c3, rfl, hgr.own, hb.trans hgr.b⟩
    rw [hm, box_size] at hru
    have HRu := Lib.hid hru
    clear hown hm hB ho hb hB2 hru hgr
    generalize b ++ [32] = L at HRu hFin ⊢
    generalize L.length = n3 at HRu hFin
    go_enter Tryd.func24, Tryd.ntmps24
    go_wp2_with (at_builtin; refine wpList_append_run rfl _ _ _ rfl _ _ _ _ rfl rfl HRu.out ?_; clear HRu)
    go_ret
    exact hFin.out
set_option maxHeartbeats 4000000 in
set_option maxRecDepth 100000 in
theorem laid_9 (w : World) (B m c : Nat) (p : Option Addr) (b : List Int) (x y : Bool) (dg : ByteArray) (ex : Int) (s : ByteArray) (i : Int) (hown : w.ownsRow B 5 1 (.slice p m c) m (bcells b)) (hm : b.length = m) (hm2 : b.length ≤ 100000) (hB : B ≤ w.heap.size) (hi0 : 0 ≤ i) (hi1 : i ≤ 4294967295) :
    Calls Tryd.prog 24 #[.slice p m c, .agg #[.int .i64 9, .bool x, .bool y, .string dg, .int .i64 ex, .string s, .int .i64 i]] w (OPost B w (b ++ [80, i / 16777216, i / 65536 % 256, i / 256 % 256, i % 256])) := by
  obtain ⟨ho, hb, hB2⟩ := box_own #[.int .i64 9, .bool x, .bool y, .string dg, .int .i64 ex, .string s, .int .i64 i] hown hm hB
  obtain ⟨p3, c3, w3, hru, hgr⟩ := append_lit [80, i / 16777216, i / 65536 % 256, i / 256 % 256, i % 256] (by simp) (by simp) ho (by omega) hB2
  have hFin : Hid (OPost B w (b ++ [80, i / 16777216, i / 65536 % 256, i / 256 % 256, i % 256]) (.returned (.slice p3 (b ++ [80, i / 16777216, i / 65536 % 256, i / 256 % 256, i % 256]).length c3)) w3) := ⟨p3, c3, rfl, hgr.own, hb.trans hgr.b⟩
  rw [hm, box_size] at hru
  have HRu := Lib.hid hru
  clear hown hm hB ho hb hB2 hru hgr
  generalize b ++ [80, i / 16777216, i / 65536 % 256, i / 256 % 256, i % 256] = L at HRu hFin ⊢
  generalize L.length = n3 at HRu hFin
  go_enter Tryd.func24, Tryd.ntmps24
  go_wp2_with (at_builtin; refine wpList_append_run rfl _ _ _ rfl _ _ _ _ rfl rfl HRu.out ?_; clear HRu)
  go_ret
  exact hFin.out
end Go.Proofs.YtebhbcbcnjdgjaaDoor.dk
