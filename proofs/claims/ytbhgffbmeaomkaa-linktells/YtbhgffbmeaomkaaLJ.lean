/-
  Ends: the code's In.
-/
import Derived.Test.YtbhgffbmeaomkaaLIya
import Derived.Test.YtbhgffbmeaomkaaLIyb
import Derived.Test.YtbhgffbmeaomkaaLIyc
import Derived.Test.YtbhgffbmeaomkaaLIyd
import Derived.Test.YtbhgffbmeaomkaaLIna
import Derived.Test.YtbhgffbmeaomkaaLInb
import Derived.Test.YtbhgffbmeaomkaaLInc
import Derived.Test.YtbhgffbmeaomkaaLInd
import Derived.Test.YtbhgffbmeaomkaaLIx
namespace Go.Proofs.Ytbhgffbmeaomkaa.Gr
open Go.RowKit Go.Sort Lm
set_option linter.unusedVariables false

theorem inl_any (v vp : Value) (l : Lk) (p : Pk) (w : World) (hn : l.sent.length ≤ 8) (hp : p.words.length ≤ 1000) (hf0 : 0 ≤ l.first) (hf1 : l.first ≤ 4611686018427387904) (hx0 : 0 ≤ l.next) (hx1 : l.next ≤ 4611686018427388904) (sv : SeesL w v l) (sp : SeesP w vp p) :
    Calls Try.prog 19 #[v, vp] w fun e w' => ∃ v' vt, e = .returned (.tuple #[v', vt]) ∧ OwnL w.heap.size w' v' (inL l p) ∧ SeesI w' vt (inW l p) ∧ New w.heap.size vt ∧ Below w.heap.size w w' := by
  by_cases hl : letP l p
  · have hwl : 0 ≤ p.wait := hl.2.2.2.2.2.2.1
    by_cases hnew : l.other < p.frm
    · have eb : baseL l p = ⟨l.own, p.frm, 0, l.sent, 0⟩ := by unfold baseL; rw [if_pos hnew]
      have ew : inW l p = (if p.place ≤ 0 then p.words.drop (-p.place).toNat else []) := by unfold inW; rw [if_pos hl, eb]; unfold tellW; simp
      by_cases ha : p.to = l.own
      rotate_left
      · have ea : ackN ⟨l.own, p.frm, 0, l.sent, 0⟩ p = 0 := by unfold ackN; rw [if_neg]; rintro ⟨q1, q2, q3⟩; exact ha q1
        have el : inL l p = ⟨l.own, p.frm, 0, l.sent, 0 + ((inW l p).length : Int)⟩ := by unfold inL inW; rw [if_pos hl, if_pos hl, eb]; unfold ackL; rw [ea]; simp
        rw [el, ew]
        exact in_ya v vp l p w hn hp hf0 hf1 hx0 hx1 sv sp hl hnew ha
      by_cases hb : 0 < p.wait
      rotate_left
      · have ea : ackN ⟨l.own, p.frm, 0, l.sent, 0⟩ p = 0 := by unfold ackN; rw [if_neg]; rintro ⟨q1, q2, q3⟩; exact hb q2
        have el : inL l p = ⟨l.own, p.frm, 0, l.sent, 0 + ((inW l p).length : Int)⟩ := by unfold inL inW; rw [if_pos hl, if_pos hl, eb]; unfold ackL; rw [ea]; simp
        rw [el, ew]
        exact in_yb v vp l p w hn hp hf0 hf1 hx0 hx1 sv sp hl hnew ha hb
      by_cases hc : p.wait ≤ (l.sent.length : Int)
      rotate_left
      · have ea : ackN ⟨l.own, p.frm, 0, l.sent, 0⟩ p = 0 := by unfold ackN; rw [if_neg]; rintro ⟨q1, q2, q3⟩; exact hc (by have q4 : p.wait ≤ (0 : Int) + (l.sent.length : Int) := q3; omega)
        have el : inL l p = ⟨l.own, p.frm, 0, l.sent, 0 + ((inW l p).length : Int)⟩ := by unfold inL inW; rw [if_pos hl, if_pos hl, eb]; unfold ackL; rw [ea]; simp
        rw [el, ew]
        exact in_yc v vp l p w hn hp hf0 hf1 hx0 hx1 sv sp hl hnew ha hb hc
      · have ea : ackN ⟨l.own, p.frm, 0, l.sent, 0⟩ p = (p.wait).toNat := by unfold ackN; rw [if_pos (⟨ha, hb, by show p.wait ≤ (0 : Int) + (l.sent.length : Int); omega⟩)]; simp
        have el : inL l p = ⟨l.own, p.frm, p.wait, l.sent.drop (p.wait).toNat, 0 + ((inW l p).length : Int)⟩ := by unfold inL inW; rw [if_pos hl, if_pos hl, eb]; unfold ackL; rw [ea]; have e9 : (((p.wait).toNat : Nat) : Int) = p.wait := (by omega); rw [e9]; simp
        rw [el, ew]
        exact in_yd v vp l p w hn hp hf0 hf1 hx0 hx1 sv sp hl hnew ha hb hc
    · have eb : baseL l p = l := by unfold baseL; rw [if_neg hnew]
      have ew : inW l p = (if p.place ≤ l.next then p.words.drop (l.next - p.place).toNat else []) := by unfold inW; rw [if_pos hl, eb]; unfold tellW; simp
      by_cases ha : p.to = l.own
      rotate_left
      · have ea : ackN l p = 0 := by unfold ackN; rw [if_neg]; rintro ⟨q1, q2, q3⟩; exact ha q1
        have el : inL l p = ⟨l.own, l.other, l.first, l.sent, l.next + ((inW l p).length : Int)⟩ := by unfold inL inW; rw [if_pos hl, if_pos hl, eb]; unfold ackL; rw [ea]; simp
        rw [el, ew]
        exact in_na v vp l p w hn hp hf0 hf1 hx0 hx1 sv sp hl hnew ha
      by_cases hb : l.first < p.wait
      rotate_left
      · have ea : ackN l p = 0 := by unfold ackN; rw [if_neg]; rintro ⟨q1, q2, q3⟩; exact hb q2
        have el : inL l p = ⟨l.own, l.other, l.first, l.sent, l.next + ((inW l p).length : Int)⟩ := by unfold inL inW; rw [if_pos hl, if_pos hl, eb]; unfold ackL; rw [ea]; simp
        rw [el, ew]
        exact in_nb v vp l p w hn hp hf0 hf1 hx0 hx1 sv sp hl hnew ha hb
      by_cases hc : p.wait ≤ l.first + (l.sent.length : Int)
      rotate_left
      · have ea : ackN l p = 0 := by unfold ackN; rw [if_neg]; rintro ⟨q1, q2, q3⟩; exact hc (by have q4 : p.wait ≤ l.first + (l.sent.length : Int) := q3; omega)
        have el : inL l p = ⟨l.own, l.other, l.first, l.sent, l.next + ((inW l p).length : Int)⟩ := by unfold inL inW; rw [if_pos hl, if_pos hl, eb]; unfold ackL; rw [ea]; simp
        rw [el, ew]
        exact in_nc v vp l p w hn hp hf0 hf1 hx0 hx1 sv sp hl hnew ha hb hc
      · have ea : ackN l p = (p.wait - l.first).toNat := by unfold ackN; rw [if_pos (⟨ha, hb, by show p.wait ≤ l.first + (l.sent.length : Int); omega⟩)]
        have el : inL l p = ⟨l.own, l.other, p.wait, l.sent.drop (p.wait - l.first).toNat, l.next + ((inW l p).length : Int)⟩ := by unfold inL inW; rw [if_pos hl, if_pos hl, eb]; unfold ackL; rw [ea]; have e9 : (((p.wait - l.first).toNat : Nat) : Int) = p.wait - l.first := (by omega); rw [e9]; simp; omega
        rw [el, ew]
        exact in_nd v vp l p w hn hp hf0 hf1 hx0 hx1 sv sp hl hnew ha hb hc
  · have el : inL l p = l := by unfold inL; rw [if_neg hl]
    have ew : inW l p = [] := by unfold inW; rw [if_neg hl]
    rw [el, ew]
    exact in_x v vp l p w hn hp hf0 hf1 hx0 hx1 sv sp hl
end Go.Proofs.Ytbhgffbmeaomkaa.Gr
