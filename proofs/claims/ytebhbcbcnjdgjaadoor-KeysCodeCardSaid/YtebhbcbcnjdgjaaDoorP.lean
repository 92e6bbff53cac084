/- The bytes of a part of text. -/
import Derived.Test.YtebhbcbcnjdgjaaDoorO
import Derived.Lib.SplitLaws
namespace Go.Proofs.YtebhbcbcnjdgjaaDoor.dk
open Go.PlainAid Go.ChangeShapes Go.WideShapes Go.ChangeAt Go.RowKit

theorem replaceK_len (old new : List UInt8) : ∀ (k : Nat) (s : List UInt8), (Lib.replaceK old new k s).length ≤ s.length + k * new.length
  | 0, s => by rw [Lib.replaceK]; omega
  | k + 1, s => by
    rw [Lib.replaceK]
    split
    · omega
    · have ih := replaceK_len old new k (s.drop ((Lib.index s old).toNat + old.length))
      rw [List.length_append, List.length_append, List.length_take]
      rw [List.length_drop] at ih
      rw [Nat.succ_mul]
      omega
theorem count_len (s : ByteArray) : Lib.countB s ⟨#[0]⟩ ≤ s.size := Lib.countB_le ⟨#[0]⟩ (by decide) s.size s (Nat.le_refl _)
theorem rep_len (s : ByteArray) : (Lib.replaceAll s.data.toList (⟨#[0]⟩ : ByteArray).data.toList (⟨#[0, 255]⟩ : ByteArray).data.toList).length ≤ 3 * s.size := by
  have hc := count_len s
  unfold Lib.replaceAll Lib.replace
  have hl : s.data.toList.length = s.size := (Lib.size_eq s).symm
  rw [if_neg (by decide)]
  · have h := replaceK_len (⟨#[0]⟩ : ByteArray).data.toList (⟨#[0, 255]⟩ : ByteArray).data.toList (Lib.replaceNum s.data.toList (⟨#[0]⟩ : ByteArray).data.toList (-1)) s.data.toList
    have hk : Lib.replaceNum s.data.toList (⟨#[0]⟩ : ByteArray).data.toList (-1) = Lib.countB s ⟨#[0]⟩ := by
      unfold Lib.replaceNum
      rw [if_pos (.inl (by decide))]
    rw [hk] at h
    have h2 : ((⟨#[0, 255]⟩ : ByteArray).data.toList).length = 2 := rfl
    rw [h2] at h
    rw [hk]
    omega
theorem cell_kept {B : Nat} {w w' : World} (h : Below B w w') (h0 : 0 < B) (t : Nat) : w'.cell? ⟨0, t, none⟩ = w.cell? ⟨0, t, none⟩ := by
  have := h.block 0 h0
  simp only [World.cell?, this]
/-- append of a string, by what it does when it is run. -/
theorem wpList_append_run2 {P : Program} {ops : Array Oper} {rest : List Oper} {o : Oper} {a : Act} {w : World} {Q : Exit → Act → World → Prop} (hgd : o.guard = none) (s x : Operand) (t u : TypeId)
    (ho : o.op = .call { callee := .builtin .append, args := #[s, x], argTypes := #[t, u] }) (sv xv v' : Value) (w' : World) (hs : a.eval s = sv) (hx : a.eval x = xv)
    (hr : (Builtin.append_ #[t, u] o.type #[sv, xv]).run P w = .ok v' w') (h : wpList P ops Q rest (a.put o.dst v') w') : wpList P ops Q (o :: rest) a w :=
  wpList_plain hgd fun K hK => by
    unfold Oper.wp execOp
    simp only [ho, resolve, invoke, builtin, Sem.run_bind, Sem.run_pure, Result.andThen_ok, List.map_toArray, List.map_cons, List.map_nil, hs, hx, hr]
    exact hK _ _ h
set_option maxHeartbeats 8000000 in
set_option maxRecDepth 100000 in
theorem laid_3 (w : World) (B m c : Nat) (p : Option Addr) (b : List Int) (x y : Bool) (dg : ByteArray) (ex : Int) (s : ByteArray) (i mx : Int) (hown : w.ownsRow B 5 1 (.slice p m c) m (bcells b)) (hm : b.length = m) (hm2 : b.length ≤ 100000) (hB : B ≤ w.heap.size) (h0 : 0 < B) (hs : s.size ≤ 1000) (hmx : w.cell? ⟨0, 0, none⟩ = some (.int .i64 mx)) :
    Calls Tryd.prog 24 #[.slice p m c, .agg #[.int .i64 3, .bool x, .bool y, .string dg, .int .i64 ex, .string s, .int .i64 i]] w (OPost B w (b ++ ([64] ++ rep s ++ [0, 0]))) := by
  obtain ⟨ho, hb, hB2⟩ := box_own #[.int .i64 3, .bool x, .bool y, .string dg, .int .i64 ex, .string s, .int .i64 i] hown hm hB
  obtain ⟨p3, c3, w3, hru, hgr⟩ := append_one 64 ho (by omega) hB2
  have hrow : (w.alloc (.cells #[.int .i64 3, .bool x, .bool y, .string dg, .int .i64 ex, .string s, .int .i64 i] 43)).heap[w.heap.size]? = some (.cells #[.int .i64 3, .bool x, .bool y, .string dg, .int .i64 ex, .string s, .int .i64 i] 43 (0, 0)) := heap_alloc_new _ _
  have hrow3 := (hgr.fr w.heap.size (by rw [box_size]; omega) (fun hk => by rw [hm] at hk; have := (hown.lt _ hk).2; omega)).trans hrow
  have c5 := cell_of_row _ _ 5 _ _ _ hrow3
  simp at c5
  have hm3 : w3.cell? ⟨0, 0, none⟩ = some (.int .i64 mx) := by rw [cell_kept (hb.trans hgr.b) h0]; exact hmx
  have hcl := count_len s
  have hrl := rep_len s
  have h2 : (⟨#[0, 255]⟩ : ByteArray).size = 2 := rfl
  have HC := Lib.hid (Tryd.strings_ReplaceAll s ⟨#[0]⟩ ⟨#[0, 255]⟩ mx w3 (by omega) hm3 (by decide) (by rw [h2]; omega))
  obtain ⟨W, hW⟩ : ∃ W : ByteArray, (⟨(Lib.replaceAll s.data.toList (⟨#[0]⟩ : ByteArray).data.toList (⟨#[0, 255]⟩ : ByteArray).data.toList).toArray⟩ : ByteArray) = W := ⟨_, rfl⟩
  have hWs : W.size ≤ 3000 := by rw [← hW]; show Array.size (List.toArray _) ≤ 3000; rw [List.size_toArray]; omega
  have eW : rep s = unstr W := by rw [← hW]; rfl
  rw [eW]
  have ho3 := hgr.own
  have hb3 := hb.trans hgr.b
  have hB3 := Nat.le_trans hB hb3.size
  have hl3 : (b ++ [64]).length ≤ 100001 := by simp; omega
  have hFin : ∀ w4, Below w3.heap.size w3 w4 → ∃ p5 c5 w5 p6 c6 w6, (Builtin.append_ #[23, 9] 23 #[.slice p3 (b ++ [64]).length c3, .string W]).run Tryd.prog w4 = .ok (.slice p5 (b ++ [64] ++ unstr W).length c5) w5 ∧
      (Builtin.append_ #[23, 23] 23 #[.slice p5 (b ++ [64] ++ unstr W).length c5, .slice (some ⟨w5.heap.size, 0, none⟩) 2 2]).run Tryd.prog (w5.alloc (.cells #[.int .u8 0, .int .u8 0] 5)) = .ok (.slice p6 (b ++ ([64] ++ unstr W ++ [0, 0])).length c6) w6 ∧
      OPost B w (b ++ ([64] ++ unstr W ++ [0, 0])) (.returned (.slice p6 (b ++ ([64] ++ unstr W ++ [0, 0])).length c6)) w6 := by
    intro w4 hb4
    have ho4 : w4.ownsRow B 5 1 (.slice p3 (b ++ [64]).length c3) (b ++ [64]).length (bcells (b ++ [64])) := owned_keeps ho3 fun k hk => hb4.block k (ho3.lt k hk).2
    obtain ⟨p5, c5, w5, hr5, ho5, hb5⟩ := append_str W ho4 (by omega) (by omega) (Nat.le_trans hB3 hb4.size)
    have hl5 : (b ++ [64] ++ unstr W).length ≤ 104000 := by rw [List.length_append, unstr_length]; omega
    obtain ⟨p6, c6, w6, hr6, hgr6⟩ := append_lit [0, 0] (by simp) (by simp) ho5 (by omega) (Nat.le_trans (Nat.le_trans hB3 hb4.size) hb5.size)
    have eL : b ++ [64] ++ unstr W ++ [0, 0] = b ++ ([64] ++ unstr W ++ [0, 0]) := by simp [List.append_assoc]
    have ho6 := hgr6.own
    rw [eL] at hr6 ho6
    exact ⟨p5, c5, w5, p6, c6, w6, hr5, hr6, p6, c6, rfl, ho6, hb3.trans ((hb4.mono hB3).trans (hb5.trans hgr6.b))⟩
  rw [hW] at HC
  rw [hm, box_size] at hru
  have HRu := Lib.hid hru
  have HF := Lib.hid hFin
  clear hown hm hB ho hb hB2 hru hgr hrow hrow3 hm3 hcl hrl h2 hWs eW ho3 hb3 hB3 hl3 hFin hmx hm2 h0 hs hW
  generalize b ++ ([64] ++ unstr W ++ [0, 0]) = L at HF ⊢
  generalize (b ++ [64] ++ unstr W).length = n5 at HF
  generalize (b ++ [64]).length = n3 at HRu HF
  generalize hLn : L.length = n6 at HF
  have HLn := Lib.hid hLn
  clear hLn
  go_enter Tryd.func24, Tryd.ntmps24
  go_wp2_with (at_builtin; refine wpList_append_run rfl _ _ _ rfl _ _ _ _ rfl rfl HRu.out ?_; clear HRu)
  with_reducible refine HC.out.mono ?_
  rintro e2 w4 ⟨rfl, hb4⟩
  obtain ⟨p5, k5, w5, p6, k6, w6, hr5, hr6, hpost⟩ := HF.out w4 hb4
  have HR5 := Lib.hid hr5
  have HR6 := Lib.hid hr6
  have HP := Lib.hid hpost
  clear HC HF hr5 hr6 hpost hb4 c5
  go_wp2_with (first | (at_builtin; refine wpList_append_run2 rfl _ _ _ _ rfl _ _ _ _ rfl rfl HR5.out ?_; clear HR5) | (at_builtin; refine wpList_append_run rfl _ _ _ rfl _ _ _ _ rfl rfl HR6.out ?_; clear HR6))
  go_ret
  exact HP.out
end Go.Proofs.YtebhbcbcnjdgjaaDoor.dk
