/- Sectors of a row; a conversion of bytes that are written out; bytes as a string. -/
import Derived.Test.YticiaiiedagalaaDH
import Derived.Lib.ConvBytes
import Derived.Laws.BytesString
namespace Go.Proofs.Yticiaiiedagalaa.dk
open Go.PlainAid Go.ChangeShapes Go.WideShapes Go.ChangeAt Go.RowKit

theorem lay_sec {l : List Int} {i : Nat} {b : List Int} (hb : b.length = 64) (hl : i * 64 + 64 ≤ l.length) : secOf (lay l (i * 64) b) i = b := by
  unfold secOf lay
  have h1 : (l.take (i * 64)).length = i * 64 := by rw [List.length_take]; omega
  rw [List.append_assoc, List.drop_append_of_le_length (by omega), List.drop_eq_nil_of_le (by omega), List.nil_append, List.take_append_of_le_length (by omega), List.take_of_length_le (by omega)]
theorem secOf_rep (n i : Nat) (h : i * 64 + 64 ≤ n) : secOf (List.replicate n 0) i = List.replicate 64 0 := by
  unfold secOf
  rw [List.drop_replicate, List.take_replicate]
  congr 1
  omega
theorem bytes_belowd (w : World) (s : ByteArray) (T : TypeId) : Below w.heap.size w (Lib.bytesWorld w T s) :=
  ⟨rfl, rfl, rfl, by rw [Lib.bytesWorld_size]; omega, fun k hk => Lib.bytesWorld_at_old w T s k hk⟩

theorem conv_lit (w : World) (x : Int) : ∃ w2, (convert 45 45 (.slice (some ⟨w.heap.size, 0, none⟩) 1 1)).run Try.prog (w.alloc (.cells #[.int .u8 x] 5)) = .ok (.slice (some ⟨w.heap.size, 0, none⟩) 1 1) w2 ∧
    w2.heap.size = w.heap.size + 1 ∧ w2.cell? ⟨w.heap.size, 0, none⟩ = some (.int .u8 x) ∧ Below w.heap.size w w2 := by
  have hsh : (w.alloc (.cells #[.int .u8 x] 5)).shape? w.heap.size = some (5, 1) := by
    simp [World.shape?, World.alloc, -World.alloc_eq]
  refine ⟨(w.alloc (.cells #[.int .u8 x] 5)).freeze ⟨w.heap.size, 1, none⟩ 1, ?_, ?_, ?_, ?_⟩
  · simp [convert, run_underlying Try.underlying45, run_underlying Try.underlying5, markStringish, Result.andThen, hsh, -World.alloc_eq]
  · simp [World.freeze, World.alloc, -World.alloc_eq]
  · simp [World.cell?, World.freeze, World.alloc, -World.alloc_eq]
    rw [Array.getElem_modify_self]
    simp
  · refine ⟨rfl, rfl, rfl, by simp [World.freeze, World.alloc, -World.alloc_eq], fun k hk => ?_⟩
    have h1 : w.heap.size ≠ k := by omega
    simp [World.freeze, World.alloc, -World.alloc_eq, Array.getElem?_modify, Array.getElem?_push, h1, Ne.symm h1]

theorem lay_other {l : List Int} {i k : Nat} {b : List Int} (hb : b.length = 64) (hl : i * 64 + 64 ≤ l.length) (h : i ≠ k) : secOf (lay l (i * 64) b) k = secOf l k := by
  unfold secOf lay
  apply List.ext_getElem?
  intro j
  by_cases hj : j < 64
  · rw [List.getElem?_take, if_pos hj, List.getElem?_take, if_pos hj, List.getElem?_drop, List.getElem?_drop]
    rcases Nat.lt_or_gt_of_ne h with h | h
    · rw [List.getElem?_append_right (by simp; omega), List.getElem?_drop]
      congr 1
      simp
      omega
    · rw [List.append_assoc, List.getElem?_append_left (by simp; omega), List.getElem?_take, if_pos (by omega)]
  · rw [List.getElem?_take, if_neg hj, List.getElem?_take, if_neg hj]
/-- Bytes as a string. -/
def strOf (l : List Int) : ByteArray := l.foldl (fun r n => r.push (UInt8.ofNat n.toNat)) ByteArray.empty
theorem conv_rd {W : World} {p : Option Addr} {n c : Nat} {l : List Int} (h : Rd W p n l) : (convert 45 9 (.slice p n c)).run Try.prog W = .ok (.string (strOf l)) W := by
  rw [run_convert_bytes_string W 45 9 5 p n c Try.underlying45 Try.underlying5 Try.underlying9]
  rcases Nat.eq_zero_or_pos n with rfl | h0
  · have hl := List.length_eq_zero_iff.1 h.1
    subst hl
    cases p with
    | none => simp [Conv.bytesToString, strOf]
    | some a => exact run_bytesToString W a 0 c [] (by simp [loadCells, loadCellsFrom])
  · obtain ⟨b, off, rfl, _, hc⟩ := h.2 h0
    refine run_bytesToString W _ _ _ l ?_
    have := run_loadCells_list (P := Try.prog) W ⟨b, off, none⟩ (bcells l) (fun j u hj => by
      have hjl : j < l.length := by
        obtain ⟨k, _⟩ := List.getElem?_eq_some_iff.1 hj
        rwa [bcells_length] at k
      rw [bcells_at l j hjl] at hj
      cases hj
      rw [add_off]
      exact hc j (by rw [← h.1]; exact hjl))
    rw [bcells_length, h.1] at this
    exact this

theorem fold_push : ∀ (l : List Int) (s : ByteArray), (l.foldl (fun r n => r.push (UInt8.ofNat n.toNat)) s).data.toList = s.data.toList ++ l.map fun n => UInt8.ofNat n.toNat
  | [], s => by simp
  | x :: l, s => by
    rw [List.foldl_cons, fold_push l]
    simp [ByteArray.push]
theorem strOf_data (l : List Int) : (strOf l).data.toList = l.map fun n => UInt8.ofNat n.toNat := by
  unfold strOf
  rw [fold_push]
  rfl
theorem strOf_size (l : List Int) : (strOf l).size = l.length := by
  have := congrArg List.length (strOf_data l)
  simpa using this
/-- A string's bytes. -/
def unstr (s : ByteArray) : List Int := s.data.toList.map fun b => (b.toNat : Int)
theorem unstr_length (s : ByteArray) : (unstr s).length = s.size := by simp [unstr]
theorem strOf_unstr (s : ByteArray) : strOf (unstr s) = s := by
  have h : (strOf (unstr s)).data.toList = s.data.toList := by
    rw [strOf_data]
    unfold unstr
    rw [List.map_map]
    conv => rhs; rw [← List.map_id s.data.toList]
    apply List.map_congr_left
    intro x _
    simp
  have h2 : (strOf (unstr s)).data = s.data := Array.toList_inj.1 h
  cases hs : strOf (unstr s) with
  | mk d => cases s with
    | mk d' => rw [hs] at h2; exact congrArg ByteArray.mk h2
theorem lay_sec2 {l : List Int} {n i j : Nat} {b : List Int} (hb : b.length = 64) (hl : l.length = n * 64) (hi : i < n) (hj : j < n) : secOf (lay l (i * 64) b) j = if i = j then b else secOf l j := by
  have e1 : i * 64 + 64 ≤ n * 64 := by omega
  by_cases h : i = j
  · subst h
    rw [if_pos rfl, lay_sec hb (by omega)]
  · rw [if_neg h, lay_other hb (by omega) h]
end Go.Proofs.Yticiaiiedagalaa.dk
