/- What serves every row's frame: what was read before the call reads the same behind it. -/
import Derived.Test.YticiaiiedagalaaDA
import Derived.Carry
import Derived.SizedLaws
import Derived.Lib.Walk
namespace Go.Proofs.Yticiaiiedagalaa.dk
open Go.PlainAid Go.ChangeShapes Go.WideShapes Go.ChangeAt Go.RowKit

theorem laidOut : laidOutB Try.prog = true := by kernel_rfl
theorem trodAll_below {H : Type} {enc : TypeId × Value → H} {W W' : World} (hb : Below W.heap.size W W') :
    ∀ {ts : List TypeId} {vs : List Value} {ds : List (DataW H)} {ps : List MemPlace}, DataW.TrodAll enc Try.prog W 0 (fun _ => true) true ts vs ds ps →
    (∀ t ∈ ts, Try.prog.readableRec t = true ∧ t < Try.prog.types.size) → (∀ x ∈ ps, x.block < W.heap.size) →
    DataW.TrodAll enc Try.prog W' 0 (fun b => decide (b < W.heap.size)) true ts vs ds ps
  | [], [], [], _, h, _, _ => h
  | t :: ts, v :: vs, d :: ds, ps, h, hr, hlt => by
    obtain ⟨p, q, h1, h2, rfl⟩ := h
    have hk := hr t (List.mem_cons_self ..)
    exact ⟨p, q, Below.trod laidOut hk.1 hk.2 h1 hb (fun x hx => hlt x (List.mem_append_left _ hx)), trodAll_below hb h2 (fun t' ht' => hr t' (List.mem_cons_of_mem _ ht')) (fun x hx => hlt x (List.mem_append_right _ hx)), rfl⟩
end Go.Proofs.Yticiaiiedagalaa.dk
