/-
  What the program's table reads as when the call begins; arrays of numbers that come in by value.
-/
import Derived.Test.YtgekignonjfaiaaDoorQM
import Derived.WalkKit
import Derived.ProofKit
import Derived.OpenShut
import Derived.ChangeOld
import Derived.Below
import Derived.Carry
import Derived.LaidMore
import Derived.Stop.Joined
namespace Go.Proofs.YtgekignonjfaiaaDoor
open Go.ChangeShapes Go.WideShapes Go.ChangeAt Go.RowKit Qm

theorem gLess : Tryd.prog.globalNamed "alidade/quat.less" = some 0 := by kernel_rfl
theorem tLess : (Tryd.prog.globals[0]?).map (·.type) = some 51 := by kernel_rfl
theorem u51 : Tryd.prog.underlying 51 = some (.array 4 50) := by kernel_rfl
theorem u50 : Tryd.prog.underlying 50 = some (.array 4 4) := by kernel_rfl
theorem u4 : Tryd.prog.underlying 4 = some .bool := by kernel_rfl
theorem k50 : Tryd.prog.cellsOf 50 = 4 := by kernel_rfl
theorem k4 : Tryd.prog.cellsOf 4 = 1 := by kernel_rfl

theorem less_of_laid {W : World} (h : laidMetH Tryd.prog [("alidade/quat.less", Rows.laid_alidade_quat_less)] W) : Less W := by
  rw [MakeChecks.laidMetH_plain _ _ _ (by kernel_rfl)] at h
  obtain ⟨ps, ⟨g0, t0, cs0, f0, p0, q0, hg0, ht0, hv0, hd0, _⟩, _⟩ := h
  obtain rfl := Option.some.inj (gLess.symm.trans hg0)
  obtain rfl := Option.some.inj (tLess.symm.trans ht0)
  obtain ⟨xs, m, rfl, hx, hlen, hn, hel⟩ := DataW.trod_array u51 hd0
  intro k i hk hi
  rw [World.var?_cell hg0 hv0 (k * 4 + i)]
  have h1 := hel k hk
  rw [k50, List.getElem?_eq_getElem (by omega)] at h1
  obtain ⟨ys, m', rfl, hy, hlen', hn', hel'⟩ := DataW.trod_array u50 h1
  have h2 := hel' i hi
  rw [k4, List.getElem?_eq_getElem (by omega)] at h2
  obtain ⟨b, e1, e2⟩ := DataW.trod_bool u4 h2
  have hb : b = lessB k i := by
    simp only [Rows.laid_alidade_quat_less, Prod.mk.injEq, DataW.agg.injEq] at hx
    have hx1 : xs[k].1 = ([.agg [.lit (.bool false), .lit (.bool true), .lit (.bool true), .lit (.bool true)], .agg [.lit (.bool false), .lit (.bool false), .lit (.bool false), .lit (.bool true)], .agg [.lit (.bool false), .lit (.bool true), .lit (.bool false), .lit (.bool false)], .agg [.lit (.bool false), .lit (.bool false), .lit (.bool true), .lit (.bool false)]] : List (DataW Unit)).getD k .nil := by
      rw [hx.1]; simp [List.getD, List.getElem?_eq_getElem (show k < xs.length by omega)]
    rw [hy] at hx1
    have hy1 : ys[i].1 = (ys.map (·.1)).getD i .nil := by simp [List.getD, List.getElem?_eq_getElem (show i < ys.length by omega)]
    rw [e2] at hy1
    have c1 : k = 0 ∨ k = 1 ∨ k = 2 ∨ k = 3 := by omega
    have c2 : i = 0 ∨ i = 1 ∨ i = 2 ∨ i = 3 := by omega
    rcases c1 with rfl | rfl | rfl | rfl <;> (simp at hx1; rw [hx1] at hy1; rcases c2 with rfl | rfl | rfl | rfl <;> (simp at hy1; subst hy1; rfl))
  rw [← hb]
  have e3 : cs0.toList[k * 4 + i]? = some (.bool b) := by
    have : ((List.take 4 (List.drop (k * 4) cs0.toList)).drop (i * 1)).take 1 = [.bool b] := e1
    have h0 := congrArg (fun l => l[0]?) this
    simp at h0
    rw [List.getElem?_take, if_pos hi, List.getElem?_drop] at h0
    exact h0
  simpa using e3

/-- The door's own heap meets the condition. -/
theorem door_met (os : Os) (args : Array Value) : laidMetH Tryd.prog [("alidade/quat.less", Rows.laid_alidade_quat_less)] ((World.doorLaid Tryd.prog 18 os).forCall (fun _ _ => 0) ⟨#[], args, []⟩).memory :=
  laidMetH_of_parts3 (fuel := 8) (laidMet_of_run' 8 (by kernel_rfl) (by kernel_rfl)) (by kernel_rfl) (by kernel_rfl)

/-- an array of numbers, each of one cell, that comes in by value -/
theorem okWide_row {P : Program} {w : World} {r : Reach} {base n : Nat} {t e : TypeId} {v : Value} (ht : P.underlying t = some (.array n e)) (h : Value.okWide P w r base t v) : ∃ cs, v = .agg cs ∧ cs.size = P.cellsOf t := by
  simp only [Value.okWide, ht] at h
  obtain ⟨cs, h1, h2, _⟩ := h
  exact ⟨cs, h1, h2⟩
theorem row_open {H : Type} {enc : TypeId × Value → H} {P : Program} {w : World} {r : Reach} {b0 base n : Nat} {spare : Nat → Bool} {held : Bool} {t e : TypeId} {k : IntKind} {v : Value} {d : DataW H} {p : List MemPlace}
    (ht : P.underlying t = some (.array n e)) (he : P.underlying e = some (.int k)) (hc : P.cellsOf e = 1) (hC : P.cellsOf t = n)
    (hv : Value.okWide P w r b0 t v) (h : DataW.Trod enc P w base spare held t v d p) :
    ∃ f : Nat → Int, v = .agg (Array.ofFn fun i : Fin n => Value.int k (f i)) ∧ p = [] ∧ ∀ i, i < n → (Lit.int k (f i)).wf = true := by
  obtain ⟨cs, rfl, hsz⟩ := okWide_row ht hv
  obtain ⟨fuel, hf⟩ := h
  obtain ⟨xs, m, _, hx, hl, hxl, hg⟩ := DataW.trod_array ht hf
  have cell : ∀ i, i < n → ∃ z, cs[i]? = some (.int k z) ∧ xs[i]? = some (.lit (.int k z), []) ∧ (Lit.int k z).wf = true := by
    intro i hi
    have g := hg i hi
    rw [hc, List.getElem?_eq_getElem (by omega)] at g
    obtain ⟨z, e1, e2, wz⟩ := DataW.trod_int he g
    refine ⟨z, ?_, ?_, wz⟩
    · have h0 := congrArg (fun l => l[0]?) e1
      simp [Value.cells] at h0
      simpa using h0
    · rw [List.getElem?_eq_getElem (by omega), e2]
  let f : Nat → Int := fun i => if h : i < n then (cell i h).choose else 0
  have hfz : ∀ i (hi : i < n), cs[i]? = some (.int k (f i)) ∧ xs[i]? = some (.lit (.int k (f i)), []) ∧ (Lit.int k (f i)).wf = true := by
    intro i hi
    have := (cell i hi).choose_spec
    simp only [f, hi, dite_true]
    exact this
  refine ⟨f, ?_, ?_, fun i hi => (hfz i hi).2.2⟩
  · congr 1
    apply Array.ext
    · simp; omega
    · intro i h1 h2
      have := (hfz i (by omega)).1
      rw [Array.getElem?_eq_getElem h1] at this
      simpa using this
  · simp only [Prod.mk.injEq] at hx
    rw [hx.2]
    rw [List.flatMap_eq_nil_iff]
    intro x hxm
    obtain ⟨i, hi, rfl⟩ := List.mem_iff_getElem.1 hxm
    have := (hfz i (by omega)).2.1
    rw [List.getElem?_eq_getElem hi] at this
    rw [Option.some.inj this]
end Go.Proofs.YtgekignonjfaiaaDoor
