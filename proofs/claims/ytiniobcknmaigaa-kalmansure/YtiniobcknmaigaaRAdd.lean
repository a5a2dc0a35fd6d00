/-
  The contracts of the document's Add and Sub.
-/
import Derived.Test.YtiniobcknmaigaaRScale
import Derived.Test.YtiniobcknmaigaaAddSub
namespace Go.Proofs.Ytiniobcknmaigaa
open Go.RowKit Go.Sort Qm

end Go.Proofs.Ytiniobcknmaigaa
