/- The signs. -/
import Derived.Test.YtkifndecpbphbaaDoorTR
namespace Go.Proofs.YtkifndecpbphbaaDoor.dk
open Go.PlainAid Go.ChangeShapes Go.WideShapes Go.ChangeAt Go.RowKit

def sgs : Array ByteArray := #[⟨#[36]⟩, ⟨#[64]⟩, ⟨#[46]⟩, ⟨#[44]⟩, ⟨#[58]⟩, ⟨#[59]⟩, ⟨#[63]⟩, ⟨#[42]⟩, ⟨#[91]⟩, ⟨#[93]⟩, ⟨#[40]⟩, ⟨#[41]⟩, ⟨#[123]⟩, ⟨#[125]⟩, ⟨#[60]⟩, ⟨#[62]⟩, ⟨#[33]⟩, ⟨#[61]⟩, ⟨#[43]⟩, ⟨#[45]⟩, ⟨#[46, 46]⟩, ⟨#[61, 61]⟩, ⟨#[33, 61]⟩, ⟨#[60, 61]⟩, ⟨#[62, 61]⟩, ⟨#[38, 38]⟩, ⟨#[124, 124]⟩, ⟨#[58, 61]⟩]
def sg (i : Nat) : ByteArray := sgs.getD i ⟨#[]⟩
def sgOne (x : ByteArray) : Bool := let r := allL (unstr x); decide (r.2 = 0) && decide (r.1.length = 1) && decide ((r.1.getD 0 default).1.kind = 4) && decide (strOf (r.1.getD 0 default).1.s = x) && !isNameL (unstr x) && decide (x.size ≤ 2)
def sgTwo (x y : ByteArray) : Bool := let r := allL (unstr (x ++ ⟨#[32]⟩ ++ y)); decide (r.2 = 0) && decide (r.1.length = 2) && decide (strOf (r.1.getD 0 default).1.s = x) && decide (strOf (r.1.getD 1 default).1.s = y) && decide ((r.1.getD 1 default).1.kind = 4)
theorem one_all : ∀ i : Fin 28, sgOne (sg i.val) = true := by decide +kernel
theorem two_all : ∀ i : Fin 28, ∀ j : Fin 28, sgTwo (sg i.val) (sg j.val) = true := by decide +kernel
end Go.Proofs.YtkifndecpbphbaaDoor.dk
