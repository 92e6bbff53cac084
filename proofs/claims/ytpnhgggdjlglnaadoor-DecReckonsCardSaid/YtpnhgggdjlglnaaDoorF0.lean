/- The frame of a law of numbers; arguments opened; Sane of every number. -/
import Derived.Test.YtpnhgggdjlglnaaDoorC2
import Derived.Test.YtpnhgggdjlglnaaDoorRows
import Derived.Carry
import Derived.SizedLaws
import Derived.Lib.Walk
import Derived.Deep.Grids
import Derived.LaidLaws
import Derived.LaidMore
import Derived.Lib.LaidTab
import GoSem.PinnedTables
namespace Go.Proofs.YtpnhgggdjlglnaaDoor.dk
open Go.PlainAid Go.ChangeShapes Go.WideShapes Go.ChangeAt Go.RowKit

theorem laidOut : laidOutB Tryd.prog = true := by kernel_rfl
theorem trodAll_below {H : Type} {enc : TypeId × Value → H} {W W' : World} (hb : Below W.heap.size W W') :
    ∀ {ts : List TypeId} {vs : List Value} {ds : List (DataW H)} {ps : List MemPlace}, DataW.TrodAll enc Tryd.prog W 0 (fun _ => true) true ts vs ds ps →
    (∀ t ∈ ts, Tryd.prog.readableRec t = true ∧ t < Tryd.prog.types.size) → (∀ x ∈ ps, x.block < W.heap.size) →
    DataW.TrodAll enc Tryd.prog W' 0 (fun b => decide (b < W.heap.size)) true ts vs ds ps
  | [], [], [], _, h, _, _ => h
  | t :: ts, v :: vs, d :: ds, ps, h, hr, hlt => by
    obtain ⟨p, q, h1, h2, rfl⟩ := h
    have hk := hr t (List.mem_cons_self ..)
    exact ⟨p, q, Below.trod laidOut hk.1 hk.2 h1 hb (fun x hx => hlt x (List.mem_append_left _ hx)), trodAll_below hb h2 (fun t' ht' => hr t' (List.mem_cons_of_mem _ ht')) (fun x hx => hlt x (List.mem_append_right _ hx)), rfl⟩
theorem cDec3 : Tryd.prog.cellsOf 23 = 3 := by kernel_rfl
theorem cInt : Tryd.prog.cellsOf 3 = 1 := by kernel_rfl
theorem cBool : Tryd.prog.cellsOf 4 = 1 := by kernel_rfl
theorem cStr : Tryd.prog.cellsOf 9 = 1 := by kernel_rfl
theorem decFields : ∃ f0 f1 f2 : Field, Tryd.prog.underlying 23 = some (.struct #[f0, f1, f2]) ∧ f0.type = 4 ∧ f1.type = 9 ∧ f2.type = 3 ∧ f0.offset = 0 ∧ f1.offset = 1 ∧ f2.offset = 2 :=
  ⟨_, _, _, Tryd.underlying23, rfl, rfl, rfl, rfl, rfl, rfl⟩
set_option maxRecDepth 20000 in
theorem open_dec {H : Type} {enc : TypeId × Value → H} {W : World} {base : Nat} {v : Value} {d : DataW H} {p : List MemPlace}
    (hv : Value.okWide Tryd.prog W .any base 23 v) (hj : DataW.Trod enc Tryd.prog W 0 (fun _ => true) true 23 v d p) :
    ∃ (neg : Bool) (dg : ByteArray) (ex : Int), v = .agg #[.bool neg, .string dg, .int .i64 ex] ∧ p = [] := by
  obtain ⟨f20, f21, f22, hu2, t20, t21, t22, o20, o21, o22⟩ := decFields
  unfold Value.okWide at hv
  rw [hu2] at hv
  obtain ⟨cs, rfl, hsz, _⟩ := hv
  rw [cDec3] at hsz
  obtain ⟨fuel, hf⟩ := hj
  have hf' : DataW.trod enc Tryd.prog W 0 (fun _ => true) true fuel 23 cs.toList = some (d, p) := hf
  obtain ⟨xs, k, hk, hxy, _, hxl, hfd⟩ := DataW.trod_struct hu2 hf'
  obtain ⟨l⟩ := cs
  match xs, hxl, l, hsz with
  | [z0, z1, z2], _, [v0, v1, v2], _ =>
    have g20 := hfd 0 f20 rfl
    have g21 := hfd 1 f21 rfl
    have g22 := hfd 2 f22 rfl
    rw [t20, o20, cBool] at g20
    rw [t21, o21, cStr] at g21
    rw [t22, o22, cInt] at g22
    simp at g20 g21 g22
    obtain ⟨x2, hv2, e2⟩ := DataW.trod_bool Tryd.underlying4 g20
    obtain ⟨x3, hv3, e3⟩ := DataW.trod_string Tryd.underlying9 g21
    obtain ⟨x4, hv4, e4, w4⟩ := DataW.trod_int Tryd.underlying3 g22
    obtain rfl := (List.cons.inj hv2).1
    obtain rfl := (List.cons.inj hv3).1
    obtain rfl := (List.cons.inj hv4).1
    refine ⟨x2, x3, x4, rfl, ?_⟩
    have := (Prod.mk.inj hxy).2
    rw [this, e2, e3.1, e4]
    rfl
/-- The table of powers stands third in the rows' list. -/
theorem tab_of_laid {W : World} {n1 n2 : String} {x1 x2 : DataW Unit} {rest : List (String × DataW Unit)} (h : laidMet Tryd.prog ((n1, x1) :: (n2, x2) :: ("internal/strconv.uint64pow10", Lib.tabData .u64 Lib.pow10Tab) :: rest) W) : TabB W := by
  obtain ⟨ps, ⟨_, _, _, _, _, _, _, _, _, _, ⟨_, _, _, _, _, _, _, _, _, _, ⟨g', t', cs, fuel, p, q, hg', ht', hvar, hd, _, _⟩, _⟩, _⟩, _⟩ := h
  refine Lib.tabBelow_of_tabIs ?_
  obtain rfl := Option.some.inj ((show Tryd.prog.globalNamed "internal/strconv.uint64pow10" = some 1 by kernel_rfl).symm.trans hg')
  obtain rfl := Option.some.inj ((show (Tryd.prog.globals[1]?).map (·.type) = some 107 by kernel_rfl).symm.trans ht')
  unfold Lib.TabIs
  rw [hvar, ← Lib.cells_of_tab Tryd.underlying107 Tryd.underlying93 (by kernel_rfl) (by kernel_rfl) hd]
set_option maxRecDepth 100000 in
/-- Sane of digits, however long. -/
theorem Sane_all (w : World) (neg : Bool) (dg : ByteArray) (ex : Int) :
    Calls Tryd.prog 19 #[.agg #[.bool neg, .string dg, .int .i64 ex]] w fun e w' => e = .returned (.bool (dsane neg (unstr dg) ex)) ∧ Below w.heap.size w w' := by
  by_cases h40 : 40 < dg.size
  · have hlen := unstr_length dg
    have hb : Below w.heap.size w (w.alloc (.cells #[.bool neg, .string dg, .int .i64 ex] 23)) := (Below.refl _ _).alloc (Nat.le_refl _) _
    have hl0 : ¬ (unstr dg).length = 0 := by omega
    have dz : (((dg.size : Nat) : Int) == 0) = false := beq_eq_false_iff_ne.2 (by omega)
    have d1 : decide ((40 : Int) < ((dg.size : Nat) : Int)) = true := decide_eq_true (by omega)
    have e : Hid (dsane neg (unstr dg) ex = false) := by
      show dsane _ _ _ = false
      unfold dsane
      rw [if_neg hl0, show decide ((unstr dg).length ≤ 40) = false from decide_eq_false (by omega)]
      simp
    clear hl0 hlen
    go_enter Tryd.func19, Tryd.ntmps19
    go_wp2_with fail
    go_ret
    exact ⟨by rw [e.out]; rfl, hb⟩
  · exact Sane_any w neg dg ex (by omega)
end Go.Proofs.YtpnhgggdjlglnaaDoor.dk
