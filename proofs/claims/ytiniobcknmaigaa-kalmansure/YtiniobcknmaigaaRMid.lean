/-
  The contract of the document's mid: a times p, times a turned.
-/
import Derived.Test.YtiniobcknmaigaaMidR
import Derived.Test.YtiniobcknmaigaaRMulM
import Derived.Test.YtiniobcknmaigaaRTrans
import Derived.Test.YtiniobcknmaigaaFactT
namespace Go.Proofs.Ytiniobcknmaigaa
open Go.RowKit Go.Sort Qm

namespace Qm
def midL (r n : Nat) (xs ps : List Int) : List Int := prd r n r (prd r n n xs ps) (trn r n xs)
def midB (r n : Nat) (xs ps : List Int) : Bool := prdB r n n xs ps || prdB r n r (prd r n n xs ps) (trn r n xs)
theorem prd_len (r n c : Nat) (xs ys : List Int) : (prd r n c xs ys).length = r * c := tab_len _ _
theorem midL_len (r n : Nat) (xs ps : List Int) : (midL r n xs ps).length = r * r := prd_len _ _ _ _ _
end Qm

end Go.Proofs.Ytiniobcknmaigaa
