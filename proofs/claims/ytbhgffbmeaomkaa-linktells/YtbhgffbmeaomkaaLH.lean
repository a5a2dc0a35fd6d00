/-
  Ends: the code's isFor.
-/
import Derived.Test.YtbhgffbmeaomkaaLG
import Derived.Test.YtbhgffbmeaomkaaLGa
import Derived.Test.YtbhgffbmeaomkaaLGb
namespace Go.Proofs.Ytbhgffbmeaomkaa.Gr
open Go.RowKit Go.Sort Lm
set_option linter.unusedVariables false

theorem isfor_any (v vp : Value) (l : Lk) (p : Pk) (w : World) (hp : p.words.length ≤ 1000) (sv : SeesL w v l) (sp : SeesP w vp p) :
    Calls Try.prog 28 #[v, vp] w fun e w' => e = .returned (.bool (decide (letP l p))) ∧ Below w.heap.size w w' := by
  have key : decide (letP l p) = (inB 1 4611686018427387904 p.frm && !decide (p.frm < l.other) && (decide (p.to = 0) || decide (p.to = l.own)) && inB 0 4611686018427387896 p.place && inB 0 4611686018427387904 p.wait && decide ((p.words.length : Int) ≤ 8)) := by
    rw [Bool.eq_iff_iff, decide_eq_true_eq]
    unfold letP inB
    simp only [decide_eq_true_eq, Bool.and_eq_true, Bool.or_eq_true, Bool.not_eq_true', decide_eq_false_iff_not]
    omega
  rw [key]
  clear key
  cases h1 : inB 1 4611686018427387904 p.frm with
  | false => simpa using isfor_a v vp l p w hp sv sp h1
  | true =>
  cases h2 : decide (p.frm < l.other) with
  | true => simpa using isfor_b v vp l p w hp sv sp h1 h2
  | false =>
  by_cases h3 : p.to = 0
  · cases h5 : inB 0 4611686018427387896 p.place with
    | false => simpa using isfor_dz v vp l p w hp sv sp h1 h2 h3 h5
    | true =>
    cases h6 : inB 0 4611686018427387904 p.wait with
    | false => simpa using isfor_ez v vp l p w hp sv sp h1 h2 h3 h5 h6
    | true => simpa [h3] using isfor_fz v vp l p w hp sv sp h1 h2 h3 h5 h6
  · by_cases h4 : p.to = l.own
    · have h4c : ¬ l.own = 0 := by rw [← h4]; exact h3
      cases h5 : inB 0 4611686018427387896 p.place with
      | false => simpa using isfor_dn v vp l p w hp sv sp h1 h2 h3 h4 h4c h5
      | true =>
      cases h6 : inB 0 4611686018427387904 p.wait with
      | false => simpa using isfor_en v vp l p w hp sv sp h1 h2 h3 h4 h4c h5 h6
      | true => simpa [h4, h4c] using isfor_fn v vp l p w hp sv sp h1 h2 h3 h4 h4c h5 h6
    · simpa [h3, h4] using isfor_c v vp l p w hp sv sp h1 h2 h3 h4
end Go.Proofs.Ytbhgffbmeaomkaa.Gr
