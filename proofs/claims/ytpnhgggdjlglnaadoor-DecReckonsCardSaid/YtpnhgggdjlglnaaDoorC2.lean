/- The document's examples. -/
import Derived.Test.YtpnhgggdjlglnaaDoorC1
namespace Go.Proofs.YtpnhgggdjlglnaaDoor.dk
open Go.PlainAid Go.ChangeShapes Go.WideShapes Go.ChangeAt Go.RowKit

theorem TabB.below {w w' : World} (h : TabB w) (hb : Below w.heap.size w w') : TabB w' := fun v hv => h v (hb.trans (hv.mono hb.size))
set_option maxRecDepth 100000 in
set_option maxHeartbeats 4000000 in
theorem awake_any (w : World) (ht : TabB w) :
    Calls Tryd.prog 10 #[] w fun e w' => e = .returned (.bool true) ∧ Below w.heap.size w w' := by
  have HP1 := Lib.hid (fun v => Parse_pair v ⟨#[45, 49, 46, 53, 48, 101, 50]⟩ (by decide))
  have HP2 := Lib.hid (fun v => Parse_pair v ⟨#[48, 46, 49]⟩ (by decide))
  have HP3 := Lib.hid (fun v => Parse_pair v ⟨#[48, 46, 50]⟩ (by decide))
  have HA := Lib.hid (fun v => Add_pair v false ⟨#[49]⟩ (-1) false ⟨#[50]⟩ (-1) (by decide) (by decide))
  have HR1 := Lib.hid (fun v h => Print_any v true ⟨#[49, 53]⟩ 1 (by decide) h)
  have HR2 := Lib.hid (fun v h => Print_any v false ⟨#[51]⟩ (-1) (by decide) h)
  rw [parse_a] at HP1
  rw [parse_b] at HP2
  rw [parse_c] at HP3
  rw [add_bc] at HA
  rw [print_a] at HR1
  rw [print_c] at HR2
  have HT := Lib.hid ht
  have HB := Lib.hid (Below.refl w.heap.size w)
  clear ht
  go_enter Tryd.func10, Tryd.ntmps10
  go_wp2_with fail
  with_reducible refine (HP1.out _).mono ?_
  rintro e u1 ⟨rfl, hb⟩
  have X2 := Lib.hid (TabB.below HT.out hb)
  have B3 := Lib.hid (HB.out.trans (hb.mono HB.out.size))
  clear hb HT HB
  unfold pairV
  obtain ⟨u4, hwv, hr, hb⟩ := boxed3 u1 (.bool true) (.string ⟨#[49, 53]⟩) (.int .i64 1)
  have X5 := Lib.hid (TabB.below X2.out hb)
  have B6 := Lib.hid (B3.out.trans (hb.mono B3.out.size))
  have R7 := Lib.hid hr
  have HYW := Lib.hid hwv
  clear hb hr hwv X2 B3
  go_upto_region 2 with fail
  rw [← HYW.out]
  clear HYW
  go_wp2_with fail
  with_reducible refine (HP2.out _).mono ?_
  rintro e u8 ⟨rfl, hb⟩
  have R9 := Lib.hid ((hb.block _ (lt_of_block R7.out)).trans R7.out)
  have X10 := Lib.hid (TabB.below X5.out hb)
  have B11 := Lib.hid (B6.out.trans (hb.mono B6.out.size))
  clear hb R7 X5 B6
  unfold pairV
  obtain ⟨u12, hwv, hr, hb⟩ := boxed3 u8 (.bool false) (.string ⟨#[49]⟩) (.int .i64 (-1))
  have R13 := Lib.hid ((hb.block _ (lt_of_block R9.out)).trans R9.out)
  have X14 := Lib.hid (TabB.below X10.out hb)
  have B15 := Lib.hid (B11.out.trans (hb.mono B11.out.size))
  have R16 := Lib.hid hr
  have HYW := Lib.hid hwv
  clear hb hr hwv R9 X10 B11
  go_upto_region 3 with fail
  rw [← HYW.out]
  clear HYW
  go_wp2_with fail
  with_reducible refine (HP3.out _).mono ?_
  rintro e u17 ⟨rfl, hb⟩
  have R18 := Lib.hid ((hb.block _ (lt_of_block R13.out)).trans R13.out)
  have R19 := Lib.hid ((hb.block _ (lt_of_block R16.out)).trans R16.out)
  have X20 := Lib.hid (TabB.below X14.out hb)
  have B21 := Lib.hid (B15.out.trans (hb.mono B15.out.size))
  clear hb R13 R16 X14 B15
  unfold pairV
  obtain ⟨u22, hwv, hr, hb⟩ := boxed3 u17 (.bool false) (.string ⟨#[50]⟩) (.int .i64 (-1))
  have R23 := Lib.hid ((hb.block _ (lt_of_block R18.out)).trans R18.out)
  have R24 := Lib.hid ((hb.block _ (lt_of_block R19.out)).trans R19.out)
  have X25 := Lib.hid (TabB.below X20.out hb)
  have B26 := Lib.hid (B21.out.trans (hb.mono B21.out.size))
  have R27 := Lib.hid hr
  have HYW := Lib.hid hwv
  clear hb hr hwv R18 R19 X20 B21
  go_upto_region 4 with fail
  rw [← HYW.out]
  clear HYW
  obtain ⟨⟨c28, c29, c30⟩, _⟩ := row3 R24.out
  obtain ⟨⟨c31, c32, c33⟩, _⟩ := row3 R27.out
  go_wp2_with fail
  clear c28 c29 c30 c31 c32 c33
  with_reducible refine (HA.out _).mono ?_
  rintro e u34 ⟨rfl, hb⟩
  have R35 := Lib.hid ((hb.block _ (lt_of_block R23.out)).trans R23.out)
  have R36 := Lib.hid ((hb.block _ (lt_of_block R24.out)).trans R24.out)
  have R37 := Lib.hid ((hb.block _ (lt_of_block R27.out)).trans R27.out)
  have X38 := Lib.hid (TabB.below X25.out hb)
  have B39 := Lib.hid (B26.out.trans (hb.mono B26.out.size))
  clear hb R23 R24 R27 X25 B26
  unfold pairV
  obtain ⟨u40, hwv, hr, hb⟩ := boxed3 u34 (.bool false) (.string ⟨#[51]⟩) (.int .i64 (-1))
  have R41 := Lib.hid ((hb.block _ (lt_of_block R35.out)).trans R35.out)
  have R42 := Lib.hid ((hb.block _ (lt_of_block R36.out)).trans R36.out)
  have R43 := Lib.hid ((hb.block _ (lt_of_block R37.out)).trans R37.out)
  have X44 := Lib.hid (TabB.below X38.out hb)
  have B45 := Lib.hid (B39.out.trans (hb.mono B39.out.size))
  have R46 := Lib.hid hr
  have HYW := Lib.hid hwv
  clear hb hr hwv R35 R36 R37 X38 B39
  go_upto_region 5 with fail
  rw [← HYW.out]
  clear HYW
  obtain ⟨⟨c47, c48, c49⟩, _⟩ := row3 R41.out
  go_wp2_with fail
  clear c47 c48 c49
  with_reducible refine (HR1.out _ X44.out).mono ?_
  rintro e u50 ⟨rfl, hb⟩
  have R51 := Lib.hid ((hb.block _ (lt_of_block R41.out)).trans R41.out)
  have R52 := Lib.hid ((hb.block _ (lt_of_block R42.out)).trans R42.out)
  have R53 := Lib.hid ((hb.block _ (lt_of_block R43.out)).trans R43.out)
  have R54 := Lib.hid ((hb.block _ (lt_of_block R46.out)).trans R46.out)
  have X55 := Lib.hid (TabB.below X44.out hb)
  have B56 := Lib.hid (B45.out.trans (hb.mono B45.out.size))
  clear hb R41 R42 R43 R46 X44 B45
  obtain ⟨⟨c57, c58, c59⟩, _⟩ := row3 R54.out
  go_wp2_with fail
  clear c57 c58 c59
  with_reducible refine (HR2.out _ X55.out).mono ?_
  rintro e u60 ⟨rfl, hb⟩
  have R61 := Lib.hid ((hb.block _ (lt_of_block R51.out)).trans R51.out)
  have R62 := Lib.hid ((hb.block _ (lt_of_block R52.out)).trans R52.out)
  have R63 := Lib.hid ((hb.block _ (lt_of_block R53.out)).trans R53.out)
  have R64 := Lib.hid ((hb.block _ (lt_of_block R54.out)).trans R54.out)
  have X65 := Lib.hid (TabB.below X55.out hb)
  have B66 := Lib.hid (B56.out.trans (hb.mono B56.out.size))
  clear hb R51 R52 R53 R54 X55 B56
  go_wp2_with fail
  go_ret
  exact ⟨rfl, B66.out⟩
end Go.Proofs.YtpnhgggdjlglnaaDoor.dk
