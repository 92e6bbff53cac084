/- UtfHex answers true for every input: the walks joined. -/
import Derived.Test.YtbajejhhmacflaaDoorUtfHexA
import Derived.Test.YtbajejhhmacflaaDoorUtfHexB
import Derived.Test.YtbajejhhmacflaaDoorUtfHexC
import Derived.Test.YtbajejhhmacflaaDoorUtfHexD
import Derived.Test.YtbajejhhmacflaaDoorUtfHexF
import Derived.Test.YtbajejhhmacflaaDoorUtfHexG
namespace Go.Proofs.YtbajejhhmacflaaDoor.utf
open Go.PlainAid Go.ChangeShapes Go.WideShapes Go.ChangeAt Go.RowKit

theorem hex_any (r : Int) (g : Bool) (p : Option Addr) (n c : Nat) (w : World) (more : List Int) (hp : p = none → n = 0 ∧ c = 0) (hO : Oct more) (hB : Bs w (.slice p n c) more) (hn : n ≤ 140737488351232) (hF : Forms w) :
    Calls Tryd.prog 9 #[.int .i32 r, .bool g, .slice p n c] w fun e w' => e = .returned (.bool true) ∧ Below w.heap.size w w' := by
  by_cases h1 : 200 < n
  · exact hex_long r g p n c w hF h1 hn
  have h1' : n ≤ 200 := by omega
  by_cases h2 : r < 0
  · exact hex_neg r g p n c w hF h1' h2
  by_cases h3 : 1114111 < r
  · exact hex_high r g p n c w hF h1' h3
  by_cases h4 : r < 55296
  · cases g
    · exact hex_lo_false r p n c w more hO hB hF h1' hp (by omega) h4
    · exact hex_lo_true r p n c w more hO hB hF h1' hp (by omega) h4
  by_cases h5 : r < 57344
  · exact hex_half r g p n c w hF h1' (by omega) h5
  by_cases h6 : r ≤ 65535
  · cases g
    · exact hex_hi_false r p n c w more hO hB hF h1' hp (by omega) h6
    · exact hex_hi_true r p n c w more hO hB hF h1' hp (by omega) h6
  cases g
  · exact hex_big_false r p n c w more hO hB hF h1' hp (by omega) (by omega)
  · exact hex_big_true r p n c w more hO hB hF h1' hp (by omega) (by omega)

end Go.Proofs.YtbajejhhmacflaaDoor.utf
