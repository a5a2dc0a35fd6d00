/-
  Ends: the document's In.
-/
import Derived.Test.YtbhgffbmeaomkaaRNx
import Derived.Test.YtbhgffbmeaomkaaRMyz
import Derived.Test.YtbhgffbmeaomkaaRMyo
import Derived.Test.YtbhgffbmeaomkaaRMnz
import Derived.Test.YtbhgffbmeaomkaaRMno
namespace Go.Proofs.Ytbhgffbmeaomkaa.Gr
open Go.RowKit Go.Sort Lm
set_option linter.unusedVariables false

theorem rin_any (v vp : Value) (l : Lk) (p : Pk) (w : World) (hr : rightL l = true) (hp : p.words.length ≤ 1000) (sv : SeesL w v l) (sp : SeesP w vp p) :
    Calls Try.prog 20 #[v, vp] w fun e w' => ∃ v' vt, e = .returned (.tuple #[v', vt]) ∧ SeesL w' v' (inL l p) ∧ SeesI w' vt (inW l p) ∧ Below w.heap.size w w' := by
  obtain ⟨h1, h2, h3, h4, h5, h6, h7, h8, h9⟩ := rightL_iff.1 hr
  by_cases hl : letP l p
  · have ht := hl.2.2.2.1
    by_cases hnew : l.other < p.frm
    · by_cases h0 : p.to = 0
      · exact rin_yz v vp l p w h9 hp h5 h6 h7 h8 sv sp hl h1 hnew h0
      · exact rin_yo v vp l p w h9 hp h5 h6 h7 h8 sv sp hl h1 hnew (ht.resolve_left h0)
    · by_cases h0 : p.to = 0
      · exact rin_nz v vp l p w h9 hp h5 h6 h7 h8 sv sp hl h1 hnew h0
      · exact rin_no v vp l p w h9 hp h5 h6 h7 h8 sv sp hl h1 hnew (ht.resolve_left h0)
  · have e1 : inL l p = l := by unfold inL; rw [if_neg hl]
    have e2 : inW l p = [] := by unfold inW; rw [if_neg hl]
    rw [e1, e2]
    exact rin_x v vp l p w h9 hp h5 h6 h7 h8 sv sp hl
end Go.Proofs.Ytbhgffbmeaomkaa.Gr
