/-
  Arrays of numbers that come in by value.
-/
import Derived.Test.YtbhgffbmeaomkaaRows
import Derived.WalkKit
import Derived.ProofKit
import Derived.OpenShut
import Derived.ChangeOld
import Derived.Below
import Derived.Carry
namespace Go.Proofs.Ytbhgffbmeaomkaa
open Go.ChangeShapes Go.WideShapes Go.ChangeAt Go.RowKit

/-- an array of numbers, each of one cell, that comes in by value -/
theorem okWide_row {P : Program} {w : World} {r : Reach} {base n : Nat} {t e : TypeId} {v : Value} (ht : P.underlying t = some (.array n e)) (h : Value.okWide P w r base t v) : ∃ cs, v = .agg cs ∧ cs.size = P.cellsOf t := by
  simp only [Value.okWide, ht] at h
  obtain ⟨cs, h1, h2, _⟩ := h
  exact ⟨cs, h1, h2⟩
theorem row_open {H : Type} {enc : TypeId × Value → H} {P : Program} {w : World} {r : Reach} {b0 base n : Nat} {spare : Nat → Bool} {held : Bool} {t e : TypeId} {k : IntKind} {v : Value} {d : DataW H} {p : List MemPlace}
    (ht : P.underlying t = some (.array n e)) (he : P.underlying e = some (.int k)) (hc : P.cellsOf e = 1) (hC : P.cellsOf t = n)
    (hw : (Lit.int k 0).wf = true) (hv : Value.okWide P w r b0 t v) (h : DataW.Trod enc P w base spare held t v d p) :
    ∃ f : Nat → Int, v = .agg (Array.ofFn fun i : Fin n => Value.int k (f i)) ∧ p = [] ∧ ∀ i, (Lit.int k (f i)).wf = true := by
  obtain ⟨cs, rfl, hsz⟩ := okWide_row ht hv
  obtain ⟨fuel, hf⟩ := h
  obtain ⟨xs, m, _, hx, hl, hxl, hg⟩ := DataW.trod_array ht hf
  have cell : ∀ i, i < n → ∃ z, cs[i]? = some (.int k z) ∧ xs[i]? = some (.lit (.int k z), []) ∧ (Lit.int k z).wf = true := by
    intro i hi
    have g := hg i hi
    rw [hc, List.getElem?_eq_getElem (by omega)] at g
    obtain ⟨z, e1, e2, wz⟩ := DataW.trod_int he g
    refine ⟨z, ?_, ?_, wz⟩
    · have h0 := congrArg (fun l => l[0]?) e1
      simp [Value.cells] at h0
      simpa using h0
    · rw [List.getElem?_eq_getElem (by omega), e2]
  let f : Nat → Int := fun i => if h : i < n then (cell i h).choose else 0
  have hfz : ∀ i (hi : i < n), cs[i]? = some (.int k (f i)) ∧ xs[i]? = some (.lit (.int k (f i)), []) ∧ (Lit.int k (f i)).wf = true := by
    intro i hi
    have := (cell i hi).choose_spec
    simp only [f, hi, dite_true]
    exact this
  refine ⟨f, ?_, ?_, fun i => by
    by_cases hi : i < n
    · exact (hfz i hi).2.2
    · simp only [f, hi, dite_false]; exact hw⟩
  · congr 1
    apply Array.ext
    · simp; omega
    · intro i h1 h2
      have := (hfz i (by omega)).1
      rw [Array.getElem?_eq_getElem h1] at this
      simpa using this
  · simp only [Prod.mk.injEq] at hx
    rw [hx.2]
    rw [List.flatMap_eq_nil_iff]
    intro x hxm
    obtain ⟨i, hi, rfl⟩ := List.mem_iff_getElem.1 hxm
    have := (hfz i (by omega)).2.1
    rw [List.getElem?_eq_getElem hi] at this
    rw [Option.some.inj this]
end Go.Proofs.Ytbhgffbmeaomkaa
