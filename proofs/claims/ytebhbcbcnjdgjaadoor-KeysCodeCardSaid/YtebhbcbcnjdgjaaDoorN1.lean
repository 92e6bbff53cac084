/- What a number's bytes tell. -/
import Derived.Test.YtebhbcbcnjdgjaaDoorZ
import Derived.Test.YtebhbcbcnjdgjaaDoorShelfI
namespace Go.Proofs.YtebhbcbcnjdgjaaDoor.dk
open Go.PlainAid Go.ChangeShapes Go.WideShapes Go.ChangeAt Go.RowKit

/-- Where the first 0 lies. -/
def zat : List Int → Option Nat
  | [] => none
  | c :: l => if c = 0 then some 0 else (zat l).map (· + 1)
theorem zat_lt : ∀ (l : List Int) (k : Nat), zat l = some k → k < l.length
  | [], k, h => by simp [zat] at h
  | c :: l, k, h => by
    unfold zat at h
    split at h
    · simp at h; subst h; simp
    · cases hz : zat l with
      | none => rw [hz] at h; simp at h
      | some j =>
        rw [hz] at h
        simp at h
        have := zat_lt l j hz
        simp
        omega
theorem indexByte_zat : ∀ (l : List Int), Bys l → Lib.indexByte (Lib.bytesOf l) ((0 : Int).toNat.toUInt8) = match zat l with | some k => (k : Int) | none => -1
  | [], _ => rfl
  | c :: l, h => by
    have ih := indexByte_zat l fun x hx => h x (List.mem_cons_of_mem _ hx)
    have hc := h c (List.mem_cons_self ..)
    have e : Lib.bytesOf (c :: l) = UInt8.ofNat c.toNat :: Lib.bytesOf l := rfl
    rw [e, Lib.indexByte, zat]
    by_cases h0 : c = 0
    · subst h0
      rw [if_pos (by decide), if_pos rfl]
      rfl
    · have hb : (UInt8.ofNat c.toNat == ((0 : Int).toNat.toUInt8)) = false := by
        rw [beq_eq_false_iff_ne]
        intro e
        have e2 := congrArg UInt8.toNat e
        have e3 : (UInt8.ofNat c.toNat).toNat = c.toNat % 256 := by simp
        rw [e3] at e2
        have e4 : (((0 : Int).toNat).toUInt8).toNat = 0 := rfl
        rw [e4] at e2
        omega
      rw [if_neg (by rw [hb]; decide), if_neg h0, ih]
      cases hz : zat l with
      | none => rfl
      | some k =>
        have : ¬ (((k : Int) == -1) = true) := fun e => by have := beq_iff_eq.1 e; omega
        simp only [Option.map_some]
        rw [if_neg this]
        show (k : Int) + 1 = ((k + 1 : Nat) : Int)
        omega
/-- What is told of a number's bytes, once they are plain. -/
def fsz (neg : Bool) (s : List Int) : Option (Bool × List Int × Int × Nat) :=
  if s.length < 2 then none else
  match zat (s.drop 2) with
  | none => none
  | some k => if k = 0 then none else
    if dsane neg (((s.drop 2).take k).map fun c => IntKind.u8.wrap (c + 47)) (s.getD 0 0 * 256 + s.getD 1 0 - 1000 - k) = true then
      some (neg, ((s.drop 2).take k).map (fun c => IntKind.u8.wrap (c + 47)), s.getD 0 0 * 256 + s.getD 1 0 - 1000 - k, k + 4) else none
def fnum (l : List Int) : Option (Bool × List Int × Int × Nat) :=
  if l.getD 0 0 = 48 then fsz true (flipb ((l.take 44).drop 1)) else fsz false ((l.take 44).drop 1)
def NPost (w : World) (R : Option (Bool × List Int × Int × Nat)) (e : Ending) (w' : World) : Prop :=
  Below w.heap.size w w' ∧ e = .returned (match R with | some (neg, dg, ex, k) => .tuple #[.agg #[.int .i64 2, .bool false, .bool neg, .string (strOf dg), .int .i64 ex, .string ⟨#[]⟩, .int .i64 0], .int .i64 (k : Int)] | none => .tuple #[.agg pzero, .int .i64 0])
end Go.Proofs.YtebhbcbcnjdgjaaDoor.dk
