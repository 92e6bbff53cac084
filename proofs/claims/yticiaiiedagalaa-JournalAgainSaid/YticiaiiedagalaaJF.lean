/- The bytes of a record's pieces, one behind the other. -/
import Derived.Test.YticiaiiedagalaaJE
import Derived.Laws.AppendOwn
namespace Go.Proofs.Yticiaiiedagalaa.dk
open Go.PlainAid Go.ChangeShapes Go.WideShapes Go.ChangeAt Go.RowKit

def joinF (F : Nat → Option (List Int)) (k : Nat) : List Int := joinOf ((List.range k).map F)
theorem joinF_succ (F : Nat → Option (List Int)) (k : Nat) (p : List Int) (h : F k = some p) : joinF F (k + 1) = joinF F k ++ fB p := by
  unfold joinF joinOf
  rw [List.range_succ, List.map_append, List.map_singleton, List.flatMap_append, h]
  simp
theorem fB_len (p : List Int) (hp : isP p = true) : (fB p).length ≤ 48 := by
  unfold isP at hp
  simp only [Bool.and_eq_true, decide_eq_true_eq] at hp
  unfold fB fZ
  rw [List.length_take, List.length_drop]
  have := hp.2
  omega
theorem joinF_len (F : Nat → Option (List Int)) (hP : ∀ i l, F i = some l → isP l = true) : ∀ k, (joinF F k).length ≤ 48 * k
  | 0 => Nat.le_refl _
  | k + 1 => by
    have ih := joinF_len F hP k
    match h : F k with
    | some p =>
      rw [joinF_succ F k p h, List.length_append]
      have := fB_len p (hP k p h)
      omega
    | none =>
      have : joinF F (k + 1) = joinF F k := by
        unfold joinF joinOf
        rw [List.range_succ, List.map_append, List.map_singleton, List.flatMap_append, h]
        simp
      rw [this]; omega
theorem owned_form {w : World} {B s : Nat} {t : TypeId} {v : Value} {n : Nat} {xs : List Value} (h : w.ownsRow B t s v n xs) : ∃ p c, v = .slice p n c := by
  rcases h.2 with ⟨hv, h0⟩ | ⟨g, cap, cur, hv, _⟩
  · exact ⟨none, 0, by rw [hv, h0]⟩
  · exact ⟨some ⟨g, 0, none⟩, cap, hv⟩
theorem infoU8 : (Try.prog.info? 5).map (fun i => (i.zero, i.size, i.bytes)) = some (some (.int .u8 0), 1, 1) := by kernel_rfl
/-- append of bytes to a slice that the call made. -/
theorem append_bytes {w : World} {B : Nat} {v : Value} {l b : List Int} {G off m c : Nat} (hown : w.ownsRow B 5 1 v l.length (bcells l)) (hR : Rd w (some ⟨G, off, none⟩) m b) (hl : l.length ≤ 100000000) (hm : m ≤ 100000000) (hB : B ≤ w.heap.size) :
    ∃ p cc w', (Builtin.append_ #[45, 45] 45 #[v, .slice (some ⟨G, off, none⟩) m c]).run Try.prog w = .ok (.slice p (l ++ b).length cc) w' ∧ w'.ownsRow B 5 1 (.slice p (l ++ b).length cc) (l ++ b).length (bcells (l ++ b)) ∧ Below B w w' ∧ w.grownBy w' v.ownBlock := by
  obtain ⟨i0, hi, hz0, hz1, hz2⟩ := info_parts infoU8
  have hbl := hR.1
  obtain ⟨v', w', hr, h2, h3, _⟩ := run_append_own (P := Try.prog) w B 45 45 5 i0 _ 1 1 Try.underlying45 hi hz0 hz1 hz2 (by rfl) (by decide) v l.length (bcells l) hown ⟨G, off, none⟩ m c (bcells b) (by rw [bcells_length, hbl, Nat.mul_one])
    (fun j u hj => by
      rw [add_off]
      have hjb : j < b.length := by
        have := (List.getElem?_eq_some_iff.1 hj).1
        rwa [bcells_length] at this
      rw [bcells_at b j hjb] at hj
      rw [← hj]
      exact hR.cell j (by omega)) (bcells_one b) (by unfold maxLen; omega) (by omega) hB
  obtain ⟨p, cc, rfl⟩ := owned_form h2
  have e : l.length + m = (l ++ b).length := by rw [List.length_append, hbl]
  rw [e, ← bcells_append] at h2
  rw [e] at hr
  exact ⟨p, cc, w', hr, h2, (Below.refl _ _).grown h3 hB (fun k hk => (hown.lt k hk).1), h3⟩
/-- append, by what it does when it is run. -/
theorem wpList_append_run {P : Program} {ops : Array Oper} {rest : List Oper} {o : Oper} {a : Act} {w : World} {Q : Exit → Act → World → Prop} (hgd : o.guard = none) (s x : Operand) (t : TypeId)
    (ho : o.op = .call { callee := .builtin .append, args := #[s, x], argTypes := #[t, t] }) (sv xv v' : Value) (w' : World) (hs : a.eval s = sv) (hx : a.eval x = xv)
    (hr : (Builtin.append_ #[t, t] o.type #[sv, xv]).run P w = .ok v' w') (h : wpList P ops Q rest (a.put o.dst v') w') : wpList P ops Q (o :: rest) a w :=
  wpList_plain hgd fun K hK => by
    unfold Oper.wp execOp
    simp only [ho, resolve, invoke, builtin, Sem.run_bind, Sem.run_pure, Result.andThen_ok, List.map_toArray, List.map_cons, List.map_nil, hs, hx, hr]
    exact hK _ _ h
def JoinPost (w : World) (l : List Int) (e : Ending) (w' : World) : Prop := ∃ p cc, e = .returned (.slice p l.length cc) ∧ w'.ownsRow w.heap.size 5 1 (.slice p l.length cc) l.length (bcells l) ∧ Below w.heap.size w w'
set_option maxHeartbeats 4000000 in
set_option maxRecDepth 100000 in
theorem joined_any {B b n : Nat} {F : Nat → Option (List Int)} {gs : Nat → Nat} {w : World} (h : PcAt B b n F gs w) (hF : ∀ i l, F i = some l → l.length = 64 ∧ Bys l) (hP : ∀ i l, F i = some l → isP l = true) (o k c : Nat) (hok : o + k ≤ n) (hn : n ≤ 65536) (hall : ∀ i, i < k → ∃ l, F (o + i) = some l) :
    Calls Try.prog 55 #[.slice (some ⟨b, o, none⟩) k c] w (JoinPost w (joinF (fun i => F (o + i)) k)) := by
  have HP := Lib.hid h
  have HF := Lib.hid hF
  have HIP := Lib.hid hP
  have HA := Lib.hid hall
  clear h hF hP hall
  go_enter Try.func55, Try.ntmps55
  go_wp2_with fail
  generalize hw1 : w.alloc (.cells #[] 5) = w1
  have h1 : w1.ownsRow w.heap.size 5 1 (.slice (some ⟨w.heap.size, 0, none⟩) (joinF (fun i => F (o + i)) 0).length 0) (joinF (fun i => F (o + i)) 0).length (bcells (joinF (fun i => F (o + i)) 0)) := by
    rw [← hw1]
    exact World.ownsRow_made w #[] 0 (Nat.le_refl _) (by unfold maxLen; omega) rfl
  have hb1 : Below w.heap.size w w1 := by rw [← hw1]; exact (Below.refl _ _).alloc (Nat.le_refl _) _
  have H1 := Lib.hid h1
  have HB1 := Lib.hid hb1
  clear hw1 h1 hb1
  go_loopw [3, 9] (fun v i wr => ∃ (j : Nat) (p : Option Addr) (cc : Nat), i = .int .i64 (j : Int) ∧ j ≤ k ∧ v = .slice p (joinF (fun i => F (o + i)) j).length cc ∧ Hid (wr.ownsRow w.heap.size 5 1 (.slice p (joinF (fun i => F (o + i)) j).length cc) (joinF (fun i => F (o + i)) j).length (bcells (joinF (fun i => F (o + i)) j))) ∧ Hid (Below w.heap.size w wr)) (fun _ i _ => k - (intOf i).toNat)
  case atStart => exact ⟨0, _, _, rfl, Nat.zero_le _, rfl, H1.out, HB1.out⟩
  case round =>
    clear H1 HB1
    obtain ⟨j, p, cc, rfl, hj, rfl, HO, HB⟩ := hrel
    by_cases hjn : j < k
    · have dj : decide ((j : Int) < (k : Int)) = true := decide_eq_true (by omega)
      obtain ⟨l, hl⟩ := HA.out j hjn
      have hP := HP.out.below HB.out
      have c1 := hP.cell (o + j) (by omega)
      rw [hl] at c1
      unfold pv at c1
      have hlf := HF.out _ l hl
      have hip := HIP.out _ l hl
      have hrd := (hP.el (o + j) (by omega) l hl).1.rd hlf.1
      have HBy := Lib.hid (bytes_any wr (gs (o + j)) l hrd hlf.2 hip)
      have hjl := joinF_len (fun i => F (o + i)) (fun i l h => HIP.out _ l h) j
      have hfl := fB_len l hip
      have hcut := hrd.cut 16 (fB l).length (by omega)
      have hfB : (l.drop 16).take (fB l).length = fB l := by unfold fB; simp
      rw [hfB, Nat.zero_add] at hcut
      obtain ⟨p2, cc2, w2, hr, h2, hb2, _⟩ := append_bytes (c := 48) HO.out hcut (by omega) (by omega) HB.out.size
      have HO2 := Lib.hid h2
      have HB2 := Lib.hid (HB.out.trans hb2)
      have e : Hid (joinF (fun i => F (o + i)) (j + 1) = joinF (fun i => F (o + i)) j ++ fB l) := joinF_succ _ j l hl
      rw [← e.out] at hr HO2
      have HR := Lib.hid hr
      clear hl hP hlf hip hrd hcut hfB h2 hb2 HO HB hr
      generalize (joinF (fun i => F (o + i)) j).length = L0 at HR hjl ⊢
      go_wp2_with fail
      with_reducible refine HBy.out.mono ?_
      rintro e' w' ⟨rfl, rfl⟩
      go_wp2_with (at_builtin; refine wpList_append_run rfl _ _ _ rfl _ _ _ _ rfl rfl HR.out ?_)
      constructor
      · exact ⟨j + 1, p2, cc2, by go_num, by omega, rfl, HO2.out, HB2.out⟩
      · show k - ((j : Int) + 1).toNat < k - (j : Int).toNat
        omega
    · have dj : decide ((j : Int) < (k : Int)) = false := decide_eq_false (by omega)
      obtain rfl : j = k := by omega
      go_wp2_with fail
      go_ret
      exact ⟨p, cc, rfl, HO.out, HB.out⟩
end Go.Proofs.Yticiaiiedagalaa.dk
