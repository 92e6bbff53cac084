/- The document's answer: begins, for slices of any length. -/
import Derived.Test.YtbajejhhmacflaaDoorUtfRD
namespace Go.Proofs.YtbajejhhmacflaaDoor.utf
open Go.PlainAid Go.ChangeShapes Go.WideShapes Go.ChangeAt Go.RowKit

set_option maxHeartbeats 2000000 in
theorem Rbegins_short (p q : Option Addr) (n c m d : Nat) (l k : List Int) (w : World) (hl : l.length = n) (hk : k.length = m) (hnm : n < m) :
    Calls Tryd.prog 28 #[.slice p n c, .slice q m d] w fun e w' => e = .returned (.bool (decide (l.take m = k))) ∧ Below w.heap.size w w' := by
  have hne : decide (l.take m = k) = false := decide_eq_false (fun e => by have := congrArg List.length e; rw [List.length_take, hl, hk] at this; omega)
  rw [hne]
  go_enter Tryd.func28, Tryd.ntmps28
  go_wp2
  go_ret
  exact ⟨rfl, Below.refl _ _⟩

theorem Rbegins_any (b off n c b2 off2 m d : Nat) (l k : List Int) (w : World) (hB : Bs w (.slice (some ⟨b, off, none⟩) n c) l) (hB2 : Bs w (.slice (some ⟨b2, off2, none⟩) m d) k) (h0 : 0 < n) (hm : 0 < m) (hn : n ≤ 140737488351232) :
    Calls Tryd.prog 28 #[.slice (some ⟨b, off, none⟩) n c, .slice (some ⟨b2, off2, none⟩) m d] w fun e w' => e = .returned (.bool (decide (l.take m = k))) ∧ Below w.heap.size w w' := by
  have hl := (Bs_news hB).1
  have hk := (Bs_news hB2).1
  rcases hB with ⟨_, _, hv, _⟩ | ⟨b', off', cap, hv, _, _, hs, hb⟩
  · injection hv with _ h; omega
  rcases hB2 with ⟨_, _, hv2, _⟩ | ⟨b2', off2', cap2, hv2, _, _, hs2, hb2⟩
  · injection hv2 with _ h; omega
  injection hv with ha _ _
  injection hv2 with ha2 _ _
  injection ha with ha
  injection ha2 with ha2
  injection ha with hx hy
  injection ha2 with hx2 hy2
  subst hx hy hx2 hy2
  by_cases hnm : m ≤ n
  · exact Rbegins b off n c b2 off2 m d l k w hl.symm hk.symm hnm (fun i hi => hb i (by omega)) (fun i hi => hb2 i (by omega)) hs hs2 hn
  · exact Rbegins_short _ _ n c m d l k w hl.symm hk.symm (by omega)
end Go.Proofs.YtbajejhhmacflaaDoor.utf
