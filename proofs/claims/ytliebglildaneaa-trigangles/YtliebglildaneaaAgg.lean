/-
  A struct of whole numbers that comes in by value: what it reads as, and that it reads so behind the call.
-/
import Derived.Test.YtliebglildaneaaRows
import Derived.WalkKit
import Derived.ProofKit
import Derived.OpenShut
import Derived.ChangeOld
import Derived.Below
namespace Go.Proofs.Ytliebglildaneaa
open Go.ChangeShapes Go.WideShapes Go.ChangeAt Go.RowKit

/-- the fields, each of one cell, in order, each a whole number of its kind -/
def flatB (P : Program) (fs : Array Field) (ks : List IntKind) : Bool :=
  fs.size == ks.length && (List.range ks.length).all fun i =>
    match fs[i]?, ks[i]? with
    | some f, some k => f.offset == i && P.cellsOf f.type == 1 && (match P.underlying f.type with | some (.int k') => decide (k' = k) | _ => false)
    | _, _ => false
def ints (ks : List IntKind) (zs : List Int) : List Value := List.zipWith Value.int ks zs

theorem flat_open {H : Type} {enc : TypeId × Value → H} {P : Program} {w : World} {r : Reach} {b0 base : Nat} {spare : Nat → Bool} {held : Bool} {t : TypeId} {fs : Array Field} {v : Value} {d : DataW H} {p : List MemPlace}
    (hs : P.underlying t = some (.struct fs)) (ks : List IntKind) (hk : flatB P fs ks = true) (hC : P.cellsOf t = ks.length)
    (hv : Value.okWide P w r b0 t v) (h : DataW.Trod enc P w base spare held t v d p) :
    ∃ zs : List Int, zs.length = ks.length ∧ v = .agg (ints ks zs).toArray ∧ p = [] ∧ ∀ (i : Nat) (k : IntKind) (z : Int), ks[i]? = some k → zs[i]? = some z → (Lit.int k z).wf = true := by
  obtain ⟨cs, rfl, hsz⟩ := okWide_struct hs hv
  obtain ⟨fuel, hf⟩ := h
  obtain ⟨xs, n, _, hx, hl, hxl, hg⟩ := DataW.trod_struct hs hf
  simp only [flatB, Bool.and_eq_true, beq_iff_eq, List.all_eq_true, List.mem_range] at hk
  obtain ⟨hfs, hk⟩ := hk
  have hcl : cs.size = ks.length := hsz.trans hC
  have cell : ∀ i (hi : i < ks.length), ∃ z, cs[i]? = some (.int ks[i] z) ∧ xs[i]? = some (.lit (.int ks[i] z), []) ∧ (Lit.int ks[i] z).wf = true := by
    intro i hi
    have q := hk i hi
    have e1 : ks[i]? = some ks[i] := List.getElem?_eq_getElem hi
    have e2 : fs[i]? = some (fs[i]'(by omega)) := Array.getElem?_eq_getElem (by omega)
    rw [e1, e2] at q
    generalize fs[i]'(by omega) = f at *
    simp only [Bool.and_eq_true, beq_iff_eq] at q
    obtain ⟨⟨q1, q2⟩, q3⟩ := q
    have g := hg i f e2
    rw [q1, q2] at g
    have hxi : i < xs.length := by omega
    rw [List.getElem?_eq_getElem hxi] at g
    cases hu : P.underlying f.type with
    | none => rw [hu] at q3; simp at q3
    | some u =>
      rw [hu] at q3
      cases u with
      | int k' =>
        simp only [decide_eq_true_eq] at q3
        subst q3
        obtain ⟨z, z1, z2, z3⟩ := DataW.trod_int hu g
        refine ⟨z, ?_, ?_, z3⟩
        · have : (Value.agg cs).cells = cs := rfl
          rw [this] at z1
          have h0 : ((cs.toList.drop i).take 1)[0]? = some (.int ks[i] z) := by rw [z1]; rfl
          simpa using h0
        · rw [List.getElem?_eq_getElem hxi, z2]
      | _ => simp at q3
  -- the numbers
  refine ⟨(List.range ks.length).map fun i => intOf (cs.getD i undef), by simp, ?_, ?_, ?_⟩
  · congr 1
    apply Array.ext_getElem?
    intro i
    by_cases hi : i < ks.length
    · obtain ⟨z, z1, -, -⟩ := cell i hi
      rw [z1]
      simp [ints, hi, z1, intOf]
    · rw [Array.getElem?_eq_none (by omega)]
      simp [ints, hi]
  · have hp : (d, p) = (DataW.agg (xs.map (·.1)), xs.flatMap (·.2)) := hx
    have : p = xs.flatMap (·.2) := congrArg Prod.snd hp
    rw [this, List.flatMap_eq_nil_iff]
    intro x hxm
    obtain ⟨i, hi, rfl⟩ := List.getElem_of_mem hxm
    obtain ⟨z, -, z2, -⟩ := cell i (by omega)
    rw [List.getElem?_eq_getElem hi] at z2
    rw [Option.some.inj z2]
  · intro i k z hki hzi
    obtain ⟨hi, rfl⟩ := List.getElem?_eq_some_iff.1 hki
    obtain ⟨z', z1, -, z3⟩ := cell i hi
    have e : ((List.range ks.length).map fun i => intOf (cs.getD i undef))[i]? = some z' := by simp [hi, z1, intOf]
    rw [e] at hzi
    cases hzi
    exact z3
theorem len2 {zs : List Int} (h : zs.length = 2) : ∃ z0 z1, zs = [z0, z1] := by
  match zs, h with
  | [z0, z1], _ => exact ⟨z0, z1, rfl⟩
theorem flat_open2 {H : Type} {enc : TypeId × Value → H} {P : Program} {w : World} {r : Reach} {b0 base : Nat} {spare : Nat → Bool} {held : Bool} {t : TypeId} {fs : Array Field} {v : Value} {d : DataW H} {p : List MemPlace}
    (hs : P.underlying t = some (.struct fs)) (k0 k1 : IntKind) (hk : flatB P fs [k0, k1] = true) (hC : P.cellsOf t = 2)
    (hv : Value.okWide P w r b0 t v) (h : DataW.Trod enc P w base spare held t v d p) :
    ∃ z0 z1 : Int, v = .agg #[.int k0 z0, .int k1 z1] ∧ p = [] ∧ (Lit.int k0 z0).wf = true ∧ (Lit.int k1 z1).wf = true := by
  obtain ⟨zs, hl, hv', hp, hw⟩ := flat_open hs [k0, k1] hk hC hv h
  obtain ⟨z0, z1, rfl⟩ := len2 hl
  exact ⟨z0, z1, hv', hp, hw 0 _ _ rfl rfl, hw 1 _ _ rfl rfl⟩
theorem len3 {zs : List Int} (h : zs.length = 3) : ∃ z0 z1 z2, zs = [z0, z1, z2] := by
  match zs, h with
  | [z0, z1, z2], _ => exact ⟨z0, z1, z2, rfl⟩
theorem flat_open3 {H : Type} {enc : TypeId × Value → H} {P : Program} {w : World} {r : Reach} {b0 base : Nat} {spare : Nat → Bool} {held : Bool} {t : TypeId} {fs : Array Field} {v : Value} {d : DataW H} {p : List MemPlace}
    (hs : P.underlying t = some (.struct fs)) (k0 k1 k2 : IntKind) (hk : flatB P fs [k0, k1, k2] = true) (hC : P.cellsOf t = 3)
    (hv : Value.okWide P w r b0 t v) (h : DataW.Trod enc P w base spare held t v d p) :
    ∃ z0 z1 z2 : Int, v = .agg #[.int k0 z0, .int k1 z1, .int k2 z2] ∧ p = [] ∧ (Lit.int k0 z0).wf = true ∧ (Lit.int k1 z1).wf = true ∧ (Lit.int k2 z2).wf = true := by
  obtain ⟨zs, hl, hv', hp, hw⟩ := flat_open hs [k0, k1, k2] hk hC hv h
  obtain ⟨z0, z1, z2, rfl⟩ := len3 hl
  exact ⟨z0, z1, z2, hv', hp, hw 0 _ _ rfl rfl, hw 1 _ _ rfl rfl, hw 2 _ _ rfl rfl⟩
theorem len4 {zs : List Int} (h : zs.length = 4) : ∃ z0 z1 z2 z3, zs = [z0, z1, z2, z3] := by
  match zs, h with
  | [z0, z1, z2, z3], _ => exact ⟨z0, z1, z2, z3, rfl⟩
theorem flat_open4 {H : Type} {enc : TypeId × Value → H} {P : Program} {w : World} {r : Reach} {b0 base : Nat} {spare : Nat → Bool} {held : Bool} {t : TypeId} {fs : Array Field} {v : Value} {d : DataW H} {p : List MemPlace}
    (hs : P.underlying t = some (.struct fs)) (k0 k1 k2 k3 : IntKind) (hk : flatB P fs [k0, k1, k2, k3] = true) (hC : P.cellsOf t = 4)
    (hv : Value.okWide P w r b0 t v) (h : DataW.Trod enc P w base spare held t v d p) :
    ∃ z0 z1 z2 z3 : Int, v = .agg #[.int k0 z0, .int k1 z1, .int k2 z2, .int k3 z3] ∧ p = [] ∧ (Lit.int k0 z0).wf = true ∧ (Lit.int k1 z1).wf = true ∧ (Lit.int k2 z2).wf = true ∧ (Lit.int k3 z3).wf = true := by
  obtain ⟨zs, hl, hv', hp, hw⟩ := flat_open hs [k0, k1, k2, k3] hk hC hv h
  obtain ⟨z0, z1, z2, z3, rfl⟩ := len4 hl
  exact ⟨z0, z1, z2, z3, hv', hp, hw 0 _ _ rfl rfl, hw 1 _ _ rfl rfl, hw 2 _ _ rfl rfl, hw 3 _ _ rfl rfl⟩
theorem len5 {zs : List Int} (h : zs.length = 5) : ∃ z0 z1 z2 z3 z4, zs = [z0, z1, z2, z3, z4] := by
  match zs, h with
  | [z0, z1, z2, z3, z4], _ => exact ⟨z0, z1, z2, z3, z4, rfl⟩
theorem flat_open5 {H : Type} {enc : TypeId × Value → H} {P : Program} {w : World} {r : Reach} {b0 base : Nat} {spare : Nat → Bool} {held : Bool} {t : TypeId} {fs : Array Field} {v : Value} {d : DataW H} {p : List MemPlace}
    (hs : P.underlying t = some (.struct fs)) (k0 k1 k2 k3 k4 : IntKind) (hk : flatB P fs [k0, k1, k2, k3, k4] = true) (hC : P.cellsOf t = 5)
    (hv : Value.okWide P w r b0 t v) (h : DataW.Trod enc P w base spare held t v d p) :
    ∃ z0 z1 z2 z3 z4 : Int, v = .agg #[.int k0 z0, .int k1 z1, .int k2 z2, .int k3 z3, .int k4 z4] ∧ p = [] ∧ (Lit.int k0 z0).wf = true ∧ (Lit.int k1 z1).wf = true ∧ (Lit.int k2 z2).wf = true ∧ (Lit.int k3 z3).wf = true ∧ (Lit.int k4 z4).wf = true := by
  obtain ⟨zs, hl, hv', hp, hw⟩ := flat_open hs [k0, k1, k2, k3, k4] hk hC hv h
  obtain ⟨z0, z1, z2, z3, z4, rfl⟩ := len5 hl
  exact ⟨z0, z1, z2, z3, z4, hv', hp, hw 0 _ _ rfl rfl, hw 1 _ _ rfl rfl, hw 2 _ _ rfl rfl, hw 3 _ _ rfl rfl, hw 4 _ _ rfl rfl⟩
theorem len6 {zs : List Int} (h : zs.length = 6) : ∃ z0 z1 z2 z3 z4 z5, zs = [z0, z1, z2, z3, z4, z5] := by
  match zs, h with
  | [z0, z1, z2, z3, z4, z5], _ => exact ⟨z0, z1, z2, z3, z4, z5, rfl⟩
theorem flat_open6 {H : Type} {enc : TypeId × Value → H} {P : Program} {w : World} {r : Reach} {b0 base : Nat} {spare : Nat → Bool} {held : Bool} {t : TypeId} {fs : Array Field} {v : Value} {d : DataW H} {p : List MemPlace}
    (hs : P.underlying t = some (.struct fs)) (k0 k1 k2 k3 k4 k5 : IntKind) (hk : flatB P fs [k0, k1, k2, k3, k4, k5] = true) (hC : P.cellsOf t = 6)
    (hv : Value.okWide P w r b0 t v) (h : DataW.Trod enc P w base spare held t v d p) :
    ∃ z0 z1 z2 z3 z4 z5 : Int, v = .agg #[.int k0 z0, .int k1 z1, .int k2 z2, .int k3 z3, .int k4 z4, .int k5 z5] ∧ p = [] ∧ (Lit.int k0 z0).wf = true ∧ (Lit.int k1 z1).wf = true ∧ (Lit.int k2 z2).wf = true ∧ (Lit.int k3 z3).wf = true ∧ (Lit.int k4 z4).wf = true ∧ (Lit.int k5 z5).wf = true := by
  obtain ⟨zs, hl, hv', hp, hw⟩ := flat_open hs [k0, k1, k2, k3, k4, k5] hk hC hv h
  obtain ⟨z0, z1, z2, z3, z4, z5, rfl⟩ := len6 hl
  exact ⟨z0, z1, z2, z3, z4, z5, hv', hp, hw 0 _ _ rfl rfl, hw 1 _ _ rfl rfl, hw 2 _ _ rfl rfl, hw 3 _ _ rfl rfl, hw 4 _ _ rfl rfl, hw 5 _ _ rfl rfl⟩
end Go.Proofs.Ytliebglildaneaa
