/-
  Arguments opened: frames, samples, rows of words.
-/
import Derived.Test.YtnkghcbjokmooaaDoorGO
import Derived.Test.YtnkghcbjokmooaaDoorFW
namespace Go.Proofs.YtnkghcbjokmooaaDoor.Gr
open Go.ChangeShapes Go.WideShapes Go.ChangeAt Go.RowKit

/-- the fields' types and places, in their order -/
def shapeOf (P : Program) (t : TypeId) : List (TypeId × Nat) := match P.underlying t with | some (.struct fs) => fs.toList.map fun f => (f.type, f.offset) | _ => []
section
variable {H : Type} {enc : TypeId × Value → H} {w : World} {base : Nat} {spare : Nat → Bool} {held : Bool}
set_option maxRecDepth 40000 in
theorem fields_w {t : TypeId} {shape : List (TypeId × Nat)} {fuel : Nat} {cs : List Value} {x : DataW H × List MemPlace} (hsh : shapeOf Tryd.prog t = shape) (hne : shape ≠ []) (h : DataW.trod enc Tryd.prog w base spare held fuel t cs = some x) {R : Nat} (hR : ∀ m ∈ x.1.weights Tryd.prog t, m ≤ R) :
    cs.length = Tryd.prog.cellsOf t ∧ ∃ n, ∀ (i : Nat) (ty : TypeId) (off : Nat), shape[i]? = some (ty, off) → ∃ y, DataW.trod enc Tryd.prog w base spare held n ty (List.take (Tryd.prog.cellsOf ty) (List.drop off cs)) = some y ∧ ∀ m ∈ y.1.weights Tryd.prog ty, m ≤ R := by
  unfold shapeOf at hsh
  cases hu : Tryd.prog.underlying t with
  | none => rw [hu] at hsh; exact absurd hsh.symm hne
  | some u =>
    rw [hu] at hsh
    cases u with
    | struct fs =>
      simp only at hsh
      obtain ⟨xs, n, _, hx, hl, hxl, hg⟩ := DataW.trod_struct hu h
      refine ⟨hl, n, fun i ty off hi => ?_⟩
      rw [← hsh] at hi
      simp only [List.getElem?_map, Array.getElem?_toList] at hi
      cases e : fs[i]? with
      | none => rw [e] at hi; cases hi
      | some f =>
        rw [e] at hi
        simp at hi
        have q := hg i f e
        rw [hi.1, hi.2] at q
        have hlt : i < xs.length := by rw [hxl]; exact (Array.getElem?_eq_some_iff.1 e).1
        rw [List.getElem?_eq_getElem hlt] at q
        refine ⟨_, q, fun m hm => hR m ?_⟩
        rw [hx]
        simp only [DataW.weights, hu]
        refine mem_each _ _ i ty xs[i].1 m ?_ ?_ hm
        · rw [List.getElem?_map, Array.getElem?_toList, e]; simp [hi.1]
        · rw [List.getElem?_map, List.getElem?_eq_getElem hlt]; rfl
    | _ => simp at hsh; first | exact absurd hsh hne | exact absurd hsh.symm hne
set_option maxRecDepth 40000 in
theorem struct_of {t : TypeId} {shape : List (TypeId × Nat)} (hsh : shapeOf Tryd.prog t = shape) (hne : shape ≠ []) {r : Reach} {b0 : Nat} {v : Value} {d : DataW H} {p : List MemPlace} (hv : Value.okWide Tryd.prog w r b0 t v) (h : DataW.Trod enc Tryd.prog w base spare held t v d p) :
    ∃ (cs : List Value) (fuel : Nat) (x : DataW H × List MemPlace), v = .agg cs.toArray ∧ DataW.trod enc Tryd.prog w base spare held fuel t cs = some x := by
  have hu : ∃ fs, Tryd.prog.underlying t = some (.struct fs) := by
    unfold shapeOf at hsh
    cases hu : Tryd.prog.underlying t with
    | none => rw [hu] at hsh; exact absurd hsh.symm hne
    | some u =>
      rw [hu] at hsh
      cases u with
      | struct fs => exact ⟨fs, rfl⟩
      | _ => simp at hsh; first | exact absurd hsh hne | exact absurd hsh.symm hne
  obtain ⟨fs, hu⟩ := hu
  obtain ⟨cs, rfl, hsz⟩ := okWide_struct hu hv
  obtain ⟨fuel, hf⟩ := h
  exact ⟨cs.toList, fuel, _, rfl, hf⟩
theorem int_cellR {n : Nat} {cs : List Value} {y : DataW H × List MemPlace} {t : TypeId} (ht : Tryd.prog.underlying t = some (.int .i64)) (h : DataW.trod enc Tryd.prog w base spare held n t cs = some y) : ∃ a, cs = [.int .i64 a] ∧ -9223372036854775808 ≤ a ∧ a ≤ 9223372036854775807 := by
  obtain ⟨d, p⟩ := y
  obtain ⟨a, e, _, hw⟩ := DataW.trod_int ht h
  refine ⟨a, e, ?_⟩
  simpa [Lit.wf, IntKind.min, IntKind.max, IntKind.bits, IntKind.signed] using hw
theorem int_cell {n : Nat} {cs : List Value} {y : DataW H × List MemPlace} {t : TypeId} (ht : Tryd.prog.underlying t = some (.int .i64)) (h : DataW.trod enc Tryd.prog w base spare held n t cs = some y) : ∃ a, cs = [.int .i64 a] :=
  let ⟨a, e, _⟩ := int_cellR ht h; ⟨a, e⟩
theorem bool_cell {n : Nat} {cs : List Value} {y : DataW H × List MemPlace} {t : TypeId} (ht : Tryd.prog.underlying t = some .bool) (h : DataW.trod enc Tryd.prog w base spare held n t cs = some y) : ∃ a, cs = [.bool a] := by
  obtain ⟨d, p⟩ := y
  obtain ⟨a, e, _⟩ := DataW.trod_bool ht h
  exact ⟨a, e⟩
theorem ints_cells_open {n m : Nat} {cs : List Value} {x : DataW H × List MemPlace} {t e : TypeId} (ht : Tryd.prog.underlying t = some (.array n e)) (he : Tryd.prog.underlying e = some (.int .i64)) (h1 : Tryd.prog.cellsOf e = 1) (hC : Tryd.prog.cellsOf t = n)
    (h : DataW.trod enc Tryd.prog w base spare held m t cs = some x) : ∃ f : Nat → Int, cs = (List.range n).map fun i => Value.int .i64 (f i) := by
  obtain ⟨xs, k, _, _, hl, hxl, hg⟩ := DataW.trod_array ht h
  rw [hC] at hl
  have cell : ∀ i, i < n → ∃ a, List.take 1 (List.drop (i * 1) cs) = [.int .i64 a] := by
    intro i hi
    have g := hg i hi
    rw [h1, List.getElem?_eq_getElem (by omega)] at g
    exact int_cell he g
  refine ⟨fun i => intOf (cs.getD i undef), ?_⟩
  apply List.ext_getElem?
  intro i
  by_cases hi : i < n
  · obtain ⟨a, ea⟩ := cell i hi
    have h0 : ((cs.drop (i * 1)).take 1)[0]? = some (.int .i64 a) := by rw [ea]; rfl
    have h2 : cs[i]? = some (.int .i64 a) := by simpa using h0
    rw [h2]
    simp [hi, h2, intOf]
  · rw [List.getElem?_eq_none (by omega), List.getElem?_eq_none (by simp; omega)]
theorem by2 : Tryd.prog.bytesOf 2 = 8 := by kernel_rfl
set_option maxRecDepth 40000 in
theorem words_w {fuel : Nat} {cs : List Value} {x : DataW H × List MemPlace} (h : DataW.trod enc Tryd.prog w base spare held fuel 22 cs = some x) {R : Nat} (hR : ∀ m ∈ x.1.weights Tryd.prog 22, m ≤ R) :
    ∃ v xs, cs = [v] ∧ SeesI w v xs ∧ xs.length * 8 ≤ R ∧ ∀ x ∈ xs, -9223372036854775808 ≤ x ∧ x ≤ 9223372036854775807 := by
  rcases open_ints under22 under2 cells2 h with ⟨rfl, _⟩ | ⟨a, len, cap, zs, rfl, _, hlc, _, hz, hx, hcell, hwf⟩
  · exact ⟨_, [], rfl, Row.nil w, by simp, fun x hx => by cases hx⟩
  · have hlen : len ≤ zs.length := by rw [hz]; split <;> omega
    have hl : (zs.take len).length = len := by simp; omega
    refine ⟨_, zs.take len, rfl, ⟨some a, cap, by simp; omega, ⟨by simp; omega, fun e => by cases e⟩, fun k u hu => ?_⟩, ?_, fun x hx => ?_⟩
    · simp only [List.getElem?_map, List.getElem?_take] at hu
      split at hu
      · rename_i hk
        have h1 := hcell k (by omega)
        have hz1 : zs[k]? = some (zs.getD k 0) := by rw [List.getD_eq_getElem?_getD, List.getElem?_eq_getElem (by omega)]; rfl
        rw [hz1] at hu
        simp only [Option.map_some, Option.some.injEq] at hu
        subst hu
        refine ⟨a, rfl, ?_, h1⟩
        have := block_lt_of_cell h1
        rw [add_block] at this
        exact this
      · simp at hu
    · rw [hx] at hR
      simp only [DataW.weights, under22] at hR
      have h1 := hR _ (List.mem_cons_self ..)
      rw [by2] at h1
      have e1 : (lits .i64 (zs.take len) : List (DataW H)).length = len := by simp [lits]; omega
      rw [hl]
      rw [e1] at h1
      exact Nat.le_trans (Nat.mul_le_mul_right 8 (Nat.le_add_right _ _)) h1
    · have hw := hwf x (List.mem_of_mem_take hx)
      simpa [Lit.wf, IntKind.min, IntKind.max, IntKind.bits, IntKind.signed] using hw
theorem shapeF : shapeOf Tryd.prog 24 = [(3, 0), (22, 1)] := by kernel_rfl
theorem cF : Tryd.prog.cellsOf 24 = 2 := by kernel_rfl
theorem uIntF : Tryd.prog.underlying 3 = some (.int .i64) := by kernel_rfl
theorem cIntF : Tryd.prog.cellsOf 3 = 1 := by kernel_rfl
theorem cWsF : Tryd.prog.cellsOf 22 = 1 := by kernel_rfl
/-- a frame that came in -/
theorem frame_open {r : Reach} {b0 : Nat} {v : Value} {d : DataW H} {p : List MemPlace} (hv : Value.okWide Tryd.prog w r b0 24 v) (h : DataW.Trod enc Tryd.prog w base spare held 24 v d p) {R : Nat} (hR : ∀ m ∈ d.weights Tryd.prog 24, m ≤ R) :
    ∃ k v' xs, v = .agg #[.int .i64 k, v'] ∧ SeesI w v' xs ∧ xs.length * 8 ≤ R ∧ (-9223372036854775808 ≤ k ∧ k ≤ 9223372036854775807) ∧ ∀ x ∈ xs, -9223372036854775808 ≤ x ∧ x ≤ 9223372036854775807 := by
  have hu : ∃ fs, Tryd.prog.underlying 24 = some (.struct fs) := by
    have hsh := shapeF
    unfold shapeOf at hsh
    cases hu : Tryd.prog.underlying 24 with
    | none => rw [hu] at hsh; cases hsh
    | some u =>
      rw [hu] at hsh
      cases u with
      | struct fs => exact ⟨fs, rfl⟩
      | _ => simp at hsh
  obtain ⟨fs, hu⟩ := hu
  obtain ⟨cs, rfl, hsz⟩ := okWide_struct hu hv
  obtain ⟨fuel, hf0⟩ := h
  obtain ⟨hl, m, hf⟩ := fields_w (x := (d, p)) shapeF (by simp) hf0 hR
  rw [cF] at hl
  obtain ⟨y0, h0, _⟩ := hf 0 _ _ rfl
  obtain ⟨y1, h1, r1⟩ := hf 1 _ _ rfl
  rw [cIntF] at h0
  rw [cWsF] at h1
  obtain ⟨k, e0, hk⟩ := int_cellR uIntF h0
  obtain ⟨v', xs, e1, sv, hn, hr⟩ := words_w h1 r1
  refine ⟨k, v', xs, ?_, sv, hn, hk, hr⟩
  have hl' : cs.toList.length = 2 := hl
  have e0' : cs.toList.take 1 = [.int .i64 k] := e0
  have e1' : (cs.toList.drop 1).take 1 = [v'] := e1
  congr 1
  apply Array.toList_inj.1
  generalize cs.toList = l at e0' e1' hl' ⊢
  match l, hl' with
  | [x0, x1], _ =>
    simp at e0' e1'
    rw [e0', e1']
/-- a row of words that came in -/
theorem words_open {r : Reach} {b0 : Nat} {v : Value} {d : DataW H} {p : List MemPlace} (hv : Value.okWide Tryd.prog w r b0 22 v) (h : DataW.Trod enc Tryd.prog w base spare held 22 v d p) {R : Nat} (hR : ∀ m ∈ d.weights Tryd.prog 22, m ≤ R) :
    ∃ xs, SeesI w v xs ∧ xs.length * 8 ≤ R ∧ ∀ x ∈ xs, -9223372036854775808 ≤ x ∧ x ≤ 9223372036854775807 := by
  obtain ⟨fuel, hf⟩ := h
  obtain ⟨v', xs, e, sv, hn, hr⟩ := words_w (x := (d, p)) hf hR
  obtain ⟨a0, l0, c0, rfl⟩ := okWide_slice under22 hv
  have : Value.slice a0 l0 c0 = v' := List.head_eq_of_cons_eq e
  rw [this]
  exact ⟨xs, sv, hn, hr⟩
end
end Go.Proofs.YtnkghcbjokmooaaDoor.Gr
