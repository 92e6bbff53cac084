/-
  DERIVED. GIVEN WITH THE SEED: THE CARDS: each row of YtbajejhhmacflaaDoorRows.lean that lists a variable, with what it lists TIED to the program's text (the seventh form; the later family's looks); each row that meets fmt, with fmt's text TOLD by the authors' own Lean function (tested against real Go, not proved from fmt's source: count such statements apart). THE CARD IS WHAT COUNTS. Prove the row's statement (the work); the ties are given (YtbajejhhmacflaaDoorTie.lean); close each card by the builder's one call (the guide's Derived/Test/ToyasCard.lean, 'card_holds'). Laid BY PROGRAM, IN A SANDBOX (cutbox-door.mjs). By AI agents, Wed Nov 11 2026. No macro, syntax, notation, axiom, sorry.
-/
import Derived.Test.YtbajejhhmacflaaDoorRows
import GoSem.ClaimSeven
namespace Go.Proofs.YtbajejhhmacflaaDoor
namespace Rows

/-- THE TIED CARD OF 'orangerylaw01.UtfReads'. -/
def utfReadsCard : Claim7 := { stood := { row := utfReadsRow, standIns := [], harness := (true, "faccdc7b40f7dbfc4c4962d2c3847e20c10fd697ffe6fa48a7d9fbde69caf434"), looks := false }, kinds := [], alts := [], laidByText := true, laidKinds := [.data], laidTests := true, laidLooks := .later }
def UtfReadsCardSaid : Prop := Claim7.holds Tryd.pinned (.plain (OpenSpec.ofChange utfReadsSpec)) utfReadsCard

/-- THE TIED CARD OF 'orangerylaw01.UtfPuts'. -/
def utfPutsCard : Claim7 := { stood := { row := utfPutsRow, standIns := [], harness := (true, "faccdc7b40f7dbfc4c4962d2c3847e20c10fd697ffe6fa48a7d9fbde69caf434"), looks := false }, kinds := [], alts := [], laidByText := true, laidKinds := [.data], laidTests := true, laidLooks := .later }
def UtfPutsCardSaid : Prop := Claim7.holds Tryd.pinned (.plain (OpenSpec.ofChange utfPutsSpec)) utfPutsCard

/-- THE TIED CARD OF 'orangerylaw01.UtfBack'. -/
def utfBackCard : Claim7 := { stood := { row := utfBackRow, standIns := [], harness := (true, "faccdc7b40f7dbfc4c4962d2c3847e20c10fd697ffe6fa48a7d9fbde69caf434"), looks := false }, kinds := [], alts := [], laidByText := true, laidKinds := [.data], laidTests := true, laidLooks := .later }
def UtfBackCardSaid : Prop := Claim7.holds Tryd.pinned (.plain (OpenSpec.ofChange utfBackSpec)) utfBackCard

/-- THE TIED CARD OF 'orangerylaw01.UtfOrder'. -/
def utfOrderCard : Claim7 := { stood := { row := utfOrderRow, standIns := [], harness := (true, "faccdc7b40f7dbfc4c4962d2c3847e20c10fd697ffe6fa48a7d9fbde69caf434"), looks := false }, kinds := [], alts := [], laidByText := true, laidKinds := [.data], laidTests := true, laidLooks := .later }
def UtfOrderCardSaid : Prop := Claim7.holds Tryd.pinned (.plain (OpenSpec.ofChange utfOrderSpec)) utfOrderCard

/-- THE TIED CARD OF 'orangerylaw01.UtfQuotes'. -/
def utfQuotesCard : Claim7 := { stood := { row := utfQuotesRow, standIns := [], harness := (true, "faccdc7b40f7dbfc4c4962d2c3847e20c10fd697ffe6fa48a7d9fbde69caf434"), looks := false }, kinds := [], alts := [], laidByText := true, laidKinds := [.data], laidTests := true, laidLooks := .later }
def UtfQuotesCardSaid : Prop := Claim7.holds Tryd.pinned (.plain (OpenSpec.ofChange utfQuotesSpec)) utfQuotesCard

/-- THE TIED CARD OF 'orangerylaw01.UtfJoins'. -/
def utfJoinsCard : Claim7 := { stood := { row := utfJoinsRow, standIns := [], harness := (true, "faccdc7b40f7dbfc4c4962d2c3847e20c10fd697ffe6fa48a7d9fbde69caf434"), looks := false }, kinds := [], alts := [], laidByText := true, laidKinds := [.data], laidTests := true, laidLooks := .later }
def UtfJoinsCardSaid : Prop := Claim7.holds Tryd.pinned (.plain (OpenSpec.ofChange utfJoinsSpec)) utfJoinsCard

/-- THE TIED CARD OF 'orangerylaw01.UtfHex'. -/
def utfHexCard : Claim7 := { stood := { row := utfHexRow, standIns := [], harness := (true, "faccdc7b40f7dbfc4c4962d2c3847e20c10fd697ffe6fa48a7d9fbde69caf434"), looks := false }, kinds := [], alts := [], laidByText := true, laidKinds := [.data], laidTests := true, laidLooks := .later }
def UtfHexCardSaid : Prop := Claim7.holds Tryd.pinned (.plain (OpenSpec.ofChange utfHexSpec)) utfHexCard

/-- THE TIED CARD OF 'orangerylaw01.UtfFirst'. -/
def utfFirstCard : Claim7 := { stood := { row := utfFirstRow, standIns := [], harness := (true, "faccdc7b40f7dbfc4c4962d2c3847e20c10fd697ffe6fa48a7d9fbde69caf434"), looks := false }, kinds := [], alts := [], laidByText := true, laidKinds := [.data], laidTests := true, laidLooks := .later }
def UtfFirstCardSaid : Prop := Claim7.holds Tryd.pinned (.plain (OpenSpec.ofChange utfFirstSpec)) utfFirstCard

/-- THE SECOND FORM's CARD OF 'orangerylaw01.UtfReads'. -/
def utfReadsUptoCard : Claim7 := { stood := { row := utfReadsUptoRow, standIns := [], harness := (true, "faccdc7b40f7dbfc4c4962d2c3847e20c10fd697ffe6fa48a7d9fbde69caf434"), looks := false }, kinds := [], alts := [], laidByText := true, laidKinds := [.data], laidTests := true, laidLooks := .later }
def UtfReadsUptoCardSaid : Prop := Claim7.holds Tryd.pinned (.plain (OpenSpec.upto utfReadsSpec)) utfReadsUptoCard

/-- THE SECOND FORM's CARD OF 'orangerylaw01.UtfPuts'. -/
def utfPutsUptoCard : Claim7 := { stood := { row := utfPutsUptoRow, standIns := [], harness := (true, "faccdc7b40f7dbfc4c4962d2c3847e20c10fd697ffe6fa48a7d9fbde69caf434"), looks := false }, kinds := [], alts := [], laidByText := true, laidKinds := [.data], laidTests := true, laidLooks := .later }
def UtfPutsUptoCardSaid : Prop := Claim7.holds Tryd.pinned (.plain (OpenSpec.upto utfPutsSpec)) utfPutsUptoCard

/-- THE SECOND FORM's CARD OF 'orangerylaw01.UtfBack'. -/
def utfBackUptoCard : Claim7 := { stood := { row := utfBackUptoRow, standIns := [], harness := (true, "faccdc7b40f7dbfc4c4962d2c3847e20c10fd697ffe6fa48a7d9fbde69caf434"), looks := false }, kinds := [], alts := [], laidByText := true, laidKinds := [.data], laidTests := true, laidLooks := .later }
def UtfBackUptoCardSaid : Prop := Claim7.holds Tryd.pinned (.plain (OpenSpec.upto utfBackSpec)) utfBackUptoCard

/-- THE SECOND FORM's CARD OF 'orangerylaw01.UtfOrder'. -/
def utfOrderUptoCard : Claim7 := { stood := { row := utfOrderUptoRow, standIns := [], harness := (true, "faccdc7b40f7dbfc4c4962d2c3847e20c10fd697ffe6fa48a7d9fbde69caf434"), looks := false }, kinds := [], alts := [], laidByText := true, laidKinds := [.data], laidTests := true, laidLooks := .later }
def UtfOrderUptoCardSaid : Prop := Claim7.holds Tryd.pinned (.plain (OpenSpec.upto utfOrderSpec)) utfOrderUptoCard

/-- THE SECOND FORM's CARD OF 'orangerylaw01.UtfQuotes'. -/
def utfQuotesUptoCard : Claim7 := { stood := { row := utfQuotesUptoRow, standIns := [], harness := (true, "faccdc7b40f7dbfc4c4962d2c3847e20c10fd697ffe6fa48a7d9fbde69caf434"), looks := false }, kinds := [], alts := [], laidByText := true, laidKinds := [.data], laidTests := true, laidLooks := .later }
def UtfQuotesUptoCardSaid : Prop := Claim7.holds Tryd.pinned (.plain (OpenSpec.upto utfQuotesSpec)) utfQuotesUptoCard

/-- THE SECOND FORM's CARD OF 'orangerylaw01.UtfJoins'. -/
def utfJoinsUptoCard : Claim7 := { stood := { row := utfJoinsUptoRow, standIns := [], harness := (true, "faccdc7b40f7dbfc4c4962d2c3847e20c10fd697ffe6fa48a7d9fbde69caf434"), looks := false }, kinds := [], alts := [], laidByText := true, laidKinds := [.data], laidTests := true, laidLooks := .later }
def UtfJoinsUptoCardSaid : Prop := Claim7.holds Tryd.pinned (.plain (OpenSpec.upto utfJoinsSpec)) utfJoinsUptoCard

/-- THE SECOND FORM's CARD OF 'orangerylaw01.UtfHex'. -/
def utfHexUptoCard : Claim7 := { stood := { row := utfHexUptoRow, standIns := [], harness := (true, "faccdc7b40f7dbfc4c4962d2c3847e20c10fd697ffe6fa48a7d9fbde69caf434"), looks := false }, kinds := [], alts := [], laidByText := true, laidKinds := [.data], laidTests := true, laidLooks := .later }
def UtfHexUptoCardSaid : Prop := Claim7.holds Tryd.pinned (.plain (OpenSpec.upto utfHexSpec)) utfHexUptoCard

/-- THE SECOND FORM's CARD OF 'orangerylaw01.UtfFirst'. -/
def utfFirstUptoCard : Claim7 := { stood := { row := utfFirstUptoRow, standIns := [], harness := (true, "faccdc7b40f7dbfc4c4962d2c3847e20c10fd697ffe6fa48a7d9fbde69caf434"), looks := false }, kinds := [], alts := [], laidByText := true, laidKinds := [.data], laidTests := true, laidLooks := .later }
def UtfFirstUptoCardSaid : Prop := Claim7.holds Tryd.pinned (.plain (OpenSpec.upto utfFirstSpec)) utfFirstUptoCard
end Rows
end Go.Proofs.YtbajejhhmacflaaDoor
