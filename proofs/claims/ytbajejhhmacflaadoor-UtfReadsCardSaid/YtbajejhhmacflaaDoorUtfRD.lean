/- The document's answer: do bytes begin with others? -/
import Derived.Test.YtbajejhhmacflaaDoorUtfRB
import Derived.Deep.QuietTactic
import Derived.BigQuiet
namespace Go.Proofs.YtbajejhhmacflaaDoor.utf
open Go.PlainAid Go.ChangeShapes Go.WideShapes Go.ChangeAt Go.RowKit

theorem take_step {l k : List Int} {t : Nat} (he : l.take t = k.take t) (hl : t < l.length) (hk : t < k.length) : l.take (t + 1) = k.take (t + 1) ↔ gl l t = gl k t := by
  have e : ∀ {q : List Int}, t < q.length → q.take (t + 1) = q.take t ++ [gl q t] := fun {q} h => by
    rw [List.take_add_one, List.getElem?_eq_getElem h]
    simp [gl, List.getD_eq_getElem?_getD, h]
  rw [e hl, e hk, he]
  simp

set_option maxHeartbeats 2000000 in
theorem Rbegins (b off n c b2 off2 m d : Nat) (l k : List Int) (w : World) (hl : l.length = n) (hk : k.length = m) (hnm : m ≤ n)
   (hb : ∀ i, i < n → w.cell? ⟨b, off + i, none⟩ = some (.int .u8 (gl l i))) (hb2 : ∀ i, i < m → w.cell? ⟨b2, off2 + i, none⟩ = some (.int .u8 (gl k i))) (hs : b < w.heap.size) (hs2 : b2 < w.heap.size) (hn : n ≤ 140737488351232) :
    Calls Tryd.prog 28 #[.slice (some ⟨b, off, none⟩) n c, .slice (some ⟨b2, off2, none⟩) m d] w fun e w' => e = .returned (.bool (decide (l.take m = k))) ∧ Below w.heap.size w w' := by
  have z1 : decide ((n : Int) < m) = false := decide_eq_false (by omega)
  go_enter Tryd.func28, Tryd.ntmps28
  go_wp2
  go_loopw [5] (fun i wr => ∃ t : Nat, i = .int .i64 t ∧ t ≤ m ∧ l.take t = k.take t ∧ Below w.heap.size w wr) (fun i _ => m + 1 - (intOf i).toNat)
  case atStart => exact ⟨0, rfl, by omega, by simp, Below.refl _ _⟩
  case round =>
    obtain ⟨t, rfl, ht, he, hB⟩ := hrel
    by_cases hm : t < m
    · have g1 := (hB.cell (p := ⟨b, off + t, none⟩) hs).trans (hb t (by omega))
      have g2 := (hB.cell (p := ⟨b2, off2 + t, none⟩) hs2).trans (hb2 t hm)
      have i1 : (0 : Int) ≤ (t : Int) := by omega
      have i2 : (t : Int) < n := by omega
      have i3 : (t : Int) < m := by omega
      have i4 : IntKind.i64.wrap ((t : Int) + 1) = (t : Int) + 1 := IntWalk.i64_in _ (by omega)
      have i5 : t < n := by omega
      have hst := take_step he (by omega) (by omega)
      have HE := Lib.hid he
      have HB1 := Lib.hid hB
      clear hb hb2 hB he
      by_cases hq : gl l t = gl k t
      · have q1 : (gl l t != gl k t) = false := by simp [hq]
        have HS := Lib.hid (hst.2 hq)
        clear hst hq
        go_wp2
        go_quiet (fail)
        go_wp2
        refine ⟨⟨t + 1, congrArg (Value.int .i64) (by omega), by omega, HS.out, below_drewN HB1.out _⟩, ?_⟩
        show m + 1 - ((t : Int) + 1).toNat < m + 1 - (t : Int).toNat
        omega
      · have q1 : (gl l t != gl k t) = true := by simp [hq]
        have HS : Hid (l.take m ≠ k) := fun e => hq (hst.1 (by rw [← e, List.take_take, Nat.min_eq_left (by omega)]))
        clear hst hq
        go_wp2
        go_quiet (fail)
        go_wp2
        go_ret
        refine ⟨?_, below_drewN HB1.out _⟩
        rw [decide_eq_false HS.out]
        rfl
    · obtain rfl : t = m := by omega
      have HE := Lib.hid he
      have HB1 := Lib.hid hB
      clear hb hb2 he hB
      have i6 : decide ((t : Int) < t) = false := decide_eq_false (by omega)
      go_wp2
      go_ret
      refine ⟨?_, HB1.out⟩
      rw [HE.out, List.take_of_length_le (by omega)]
      simp
end Go.Proofs.YtbajejhhmacflaaDoor.utf
