/- The digits that stand at a place. -/
import Derived.Test.YtkifndecpbphbaaDoorE
import Derived.Maps.AppendAt
namespace Go.Proofs.YtkifndecpbphbaaDoor.dk
open Go.PlainAid Go.ChangeShapes Go.WideShapes Go.ChangeAt Go.RowKit

def dgs : List Int := [48, 49, 50, 51, 52, 53, 54, 55, 56, 57]
theorem dgs_in (c : Int) : dgs.contains c = isDig c := by
  rw [Bool.eq_iff_iff]
  unfold dgs isDig
  simp
  omega
/-- So many digits it begins with. -/
def dn : List Int → Nat
  | [] => 0
  | c :: r => if isDig c then dn r + 1 else 0
theorem dn_le : ∀ r, dn r ≤ r.length
  | [] => Nat.le_refl _
  | c :: r => by
    have := dn_le r
    rw [dn]
    split <;> simp <;> omega
theorem dn_at : ∀ (r : List Int) (j : Nat), j ≤ dn r → (decide (j < r.length) && isDig (r.getD j 0)) = decide (j < dn r)
  | [], j, h => by simp [dn] at h ⊢
  | c :: r, 0, h => by
    rw [dn]
    by_cases hc : isDig c = true
    · simp [hc]
    · simp [hc]
  | c :: r, j + 1, h => by
    rw [dn] at h ⊢
    by_cases hc : isDig c = true
    · rw [if_pos hc] at h ⊢
      have := dn_at r j (by omega)
      rw [List.getD_cons_succ]
      simpa using this
    · rw [if_neg hc] at h
      omega
theorem getD_drop (l : List Int) (k j : Nat) : (l.drop k).getD j 0 = l.getD (k + j) 0 := by
  rw [List.getD_eq_getElem?_getD, List.getElem?_drop, List.getD_eq_getElem?_getD]
theorem dn_hit (l : List Int) (k j : Nat) (hk : k ≤ l.length) (h : j ≤ dn (l.drop k)) : hit l dgs (k + j) = decide (j < dn (l.drop k)) := by
  rw [← dn_at _ _ h, getD_drop, List.length_drop]
  unfold hit
  rw [dgs_in, show decide (k + j < l.length) = decide (j < l.length - k) from decide_eq_decide.2 ⟨fun _ => by omega, fun _ => by omega⟩]
theorem dn_dig (l : List Int) (k j : Nat) (h : j < dn (l.drop k)) : isDig (l.getD (k + j) 0) = true := by
  have := dn_at (l.drop k) j (by omega)
  rw [decide_eq_true h, Bool.and_eq_true, getD_drop] at this
  exact this.2
/-- Where the counter in the box stands. -/
def posAt (b : Nat) (w : World) : Nat := match w.cell? ⟨b, 0, none⟩ with | some (.int _ n) => n.toNat | _ => 0
theorem posAt_boxed {b k : Nat} {w : World} {t : TypeId} (h : Boxed w b t (.int .i64 k)) : posAt b w = k := by unfold posAt; rw [h.cell]; simp
/-- What stands around between two digits. -/
structure DgI (w : World) (ba k : Nat) (l : List Int) (j : Nat) (wr : World) : Prop where
  bx : Boxed wr ba 3 (.int .i64 ((k + j : Nat) : Int))
  gr : w.grownBy wr (some ba)
  le : j ≤ dn (l.drop k)
set_option maxRecDepth 100000 in
set_option maxHeartbeats 1000000 in
theorem digits_any (w : World) (ba bn bs : Nat) (s : ByteArray) (k : Nat) (hs : s.size ≤ 1000000000) (hk : k ≤ s.size) (hA : Boxed w ba 3 (.int .i64 k)) (hS : Boxed w bs 9 (.string s))
    (hN : Boxed w bn 99 (.func (.func 66) #[] #[.pointer (some ⟨ba, 0, none⟩), .pointer (some ⟨bs, 0, none⟩)])) :
    Calls Tryd.prog 67 #[.pointer (some ⟨ba, 0, none⟩), .pointer (some ⟨bn, 0, none⟩), .pointer (some ⟨bs, 0, none⟩)] w fun e w' =>
      e = .returned (.string (s.extract k (k + dn ((unstr s).drop k)))) ∧ Boxed w' ba 3 (.int .i64 ((k + dn ((unstr s).drop k) : Nat) : Int)) ∧ w.grownBy w' (some ba) := by
  have hul := unstr_length s
  have a1 := hA.cell
  have n1 := boxes_ne hA hS (by decide)
  have n2 := boxes_ne hA hN (by decide)
  have h0 : DgI w ba k (unstr s) 0 w := ⟨hA, World.grownBy.refl _ _, Nat.zero_le _⟩
  have H0 := Lib.hid h0
  have HS := Lib.hid hS
  have HN := Lib.hid hN
  have hDl : k + dn ((unstr s).drop k) ≤ s.size := by
    have := dn_le ((unstr s).drop k)
    rw [List.length_drop] at this
    omega
  clear hA hS hN h0
  go_enter Tryd.func67, Tryd.ntmps67
  go_wp2
  go_loopw [8] (fun _ wr => ∃ j, Hid (DgI w ba k (unstr s) j wr)) (fun _ wr => s.size - posAt ba wr)
  case atStart => exact ⟨0, H0⟩
  case round =>
    obtain ⟨j, HI⟩ := hrel
    have hcn := (HN.out.kept HI.out.gr (fun e => n2 (Option.some.inj e).symm)).cell
    have hbS := HS.out.kept HI.out.gr (fun e => n1 (Option.some.inj e).symm)
    have hcs := hbS.cell
    have hca := HI.out.bx.cell
    have hpos := posAt_boxed HI.out.bx
    have hh := dn_hit (unstr s) k j (by omega) HI.out.le
    by_cases hj : j < dn ((unstr s).drop k)
    · rw [decide_eq_true hj] at hh
      have hd := dn_dig (unstr s) k j hj
      have HY := Lib.hid (next_yes wr ba bs s ⟨#[48, 49, 50, 51, 52, 53, 54, 55, 56, 57]⟩ (k + j) hs HI.out.bx hbS hh)
      have dz : ((unstr s).getD (k + j) 0 == 0) = false := beq_eq_false_iff_ne.2 fun e => by rw [e] at hd; exact absurd hd (by decide)
      have HB := Lib.hid hbS
      have HP := Lib.hid hpos
      clear hh hd hbS hpos hcs hca
      generalize (unstr s).getD (k + j) 0 = c at HY dz
      go_wp2_with fail
      with_reducible refine HY.out.mono ?_
      rintro e w2 ⟨rfl, rfl⟩
      have hbx := HI.out.bx.set (.int .i64 (((k + j : Nat) : Int) + 1))
      have hI2 : DgI w ba k (unstr s) (j + 1) (wr.setCell ⟨ba, 0, none⟩ (.int .i64 (((k + j : Nat) : Int) + 1))) :=
        ⟨hbx, HI.out.gr.trans (grownBy_setCell' _ _ _), hj⟩
      have HI2 := Lib.hid hI2
      have hm : s.size - posAt ba (wr.setCell ⟨ba, 0, none⟩ (.int .i64 (((k + j : Nat) : Int) + 1))) < s.size - posAt ba wr := by
        rw [HP.out, posAt_boxed (k := k + j + 1) hI2.bx]
        omega
      have HM := Lib.hid hm
      clear HY HI hI2 hbx hm
      go_wp2_with fail
      exact ⟨⟨j + 1, HI2⟩, HM.out⟩
    · rw [decide_eq_false hj] at hh
      have HY := Lib.hid (next_no wr ba bs s ⟨#[48, 49, 50, 51, 52, 53, 54, 55, 56, 57]⟩ (k + j) HI.out.bx hbS hh)
      have ej : j = dn ((unstr s).drop k) := by have := HI.out.le; omega
      have HE := Lib.hid ej
      clear hh hbS hpos ej
      go_wp2_with fail
      with_reducible refine HY.out.mono ?_
      rintro e w2 ⟨rfl, rfl⟩
      have hle : ((k : Nat) : Int) ≤ ((k + j : Nat) : Int) := by omega
      have hle2 : ((k + j : Nat) : Int) ≤ ((s.size : Nat) : Int) := by rw [HE.out]; omega
      clear HY
      go_wp2_with fail
      go_ret
      rw [← HE.out]
      exact ⟨rfl, HI.out.bx, HI.out.gr⟩
end Go.Proofs.YtkifndecpbphbaaDoor.dk
