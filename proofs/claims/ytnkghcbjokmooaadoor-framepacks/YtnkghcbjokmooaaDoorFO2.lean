/-
  A sample that came in, opened.
-/
import Derived.Test.YtnkghcbjokmooaaDoorFO
import Derived.Test.YtnkghcbjokmooaaDoorFP
namespace Go.Proofs.YtnkghcbjokmooaaDoor.Gr
open Go.ChangeShapes Go.WideShapes Go.ChangeAt Go.RowKit

section
variable {H : Type} {enc : TypeId × Value → H} {w : World} {base : Nat} {spare : Nat → Bool} {held : Bool}
set_option maxRecDepth 40000 in
theorem fields_of {t : TypeId} {shape : List (TypeId × Nat)} {fuel : Nat} {cs : List Value} {x : DataW H × List MemPlace} (hsh : shapeOf Tryd.prog t = shape) (hne : shape ≠ []) (h : DataW.trod enc Tryd.prog w base spare held fuel t cs = some x) :
    cs.length = Tryd.prog.cellsOf t ∧ ∃ n, ∀ (i : Nat) (ty : TypeId) (off : Nat), shape[i]? = some (ty, off) → ∃ y, DataW.trod enc Tryd.prog w base spare held n ty (List.take (Tryd.prog.cellsOf ty) (List.drop off cs)) = some y := by
  unfold shapeOf at hsh
  cases hu : Tryd.prog.underlying t with
  | none => rw [hu] at hsh; exact absurd hsh.symm hne
  | some u =>
    rw [hu] at hsh
    cases u with
    | struct fs =>
      simp only at hsh
      obtain ⟨xs, n, _, _, hl, hxl, hg⟩ := DataW.trod_struct hu h
      refine ⟨hl, n, fun i ty off hi => ?_⟩
      rw [← hsh] at hi
      simp only [List.getElem?_map, Array.getElem?_toList] at hi
      cases e : fs[i]? with
      | none => rw [e] at hi; cases hi
      | some f =>
        rw [e] at hi
        simp at hi
        have q := hg i f e
        rw [hi.1, hi.2] at q
        have hlt : i < xs.length := by rw [hxl]; exact (Array.getElem?_eq_some_iff.1 e).1
        rw [List.getElem?_eq_getElem hlt] at q
        exact ⟨_, q⟩
    | _ => simp at hsh; first | exact absurd hsh hne | exact absurd hsh.symm hne
theorem uBool : Tryd.prog.underlying 4 = some .bool := by kernel_rfl
theorem cBool : Tryd.prog.cellsOf 4 = 1 := by kernel_rfl
theorem uVec : Tryd.prog.underlying 43 = some (.array 3 41) := by kernel_rfl
theorem cVec : Tryd.prog.cellsOf 43 = 3 := by kernel_rfl
theorem cQ1 : Tryd.prog.cellsOf 41 = 1 := by kernel_rfl
theorem uQ1 : Tryd.prog.underlying 41 = some (.int .i64) := by kernel_rfl
theorem shapeSm : shapeOf Tryd.prog 45 = [(4, 0), (43, 1), (43, 4), (4, 7), (41, 8), (4, 9), (43, 10)] := by kernel_rfl
theorem cSm : Tryd.prog.cellsOf 45 = 13 := by kernel_rfl
set_option maxRecDepth 40000 in
theorem sample_open {r : Reach} {b0 : Nat} {v : Value} {d : DataW H} {p : List MemPlace} (hv : Value.okWide Tryd.prog w r b0 45 v) (h : DataW.Trod enc Tryd.prog w base spare held 45 v d p) :
    ∃ q : Sp, v = .agg (smV q) := by
  obtain ⟨cs, fuel, x, rfl, hq⟩ := struct_of shapeSm (by simp) hv h
  obtain ⟨hl, m, hf⟩ := fields_of shapeSm (by simp) hq
  rw [cSm] at hl
  obtain ⟨y0, h0⟩ := hf 0 _ _ rfl
  obtain ⟨y1, h1⟩ := hf 1 _ _ rfl
  obtain ⟨y2, h2⟩ := hf 2 _ _ rfl
  obtain ⟨y3, h3⟩ := hf 3 _ _ rfl
  obtain ⟨y4, h4⟩ := hf 4 _ _ rfl
  obtain ⟨y5, h5⟩ := hf 5 _ _ rfl
  obtain ⟨y6, h6⟩ := hf 6 _ _ rfl
  rw [cBool] at h0 h3 h5
  rw [cVec] at h1 h2 h6
  rw [cQ1] at h4
  obtain ⟨ms, e0⟩ := bool_cell uBool h0
  obtain ⟨hb, e3⟩ := bool_cell uBool h3
  obtain ⟨hg, e5⟩ := bool_cell uBool h5
  obtain ⟨gy, e1⟩ := ints_cells_open uVec uQ1 cQ1 cVec h1
  obtain ⟨ac, e2⟩ := ints_cells_open uVec uQ1 cQ1 cVec h2
  obtain ⟨gn, e6⟩ := ints_cells_open uVec uQ1 cQ1 cVec h6
  obtain ⟨br, e4⟩ := int_cell uQ1 h4
  refine ⟨⟨ms, hb, hg, fun i => if i < 3 then gy i else if i < 6 then ac (i - 3) else if i = 6 then br else gn (i - 7)⟩, ?_⟩
  clear hf hq hv h h0 h1 h2 h3 h4 h5 h6
  have split : cs = cs.take 1 ++ ((cs.drop 1).take 3 ++ ((cs.drop 4).take 3 ++ ((cs.drop 7).take 1 ++ ((cs.drop 8).take 1 ++ ((cs.drop 9).take 1 ++ (cs.drop 10).take 3))))) := by
    match cs, hl with
    | [a0, a1, a2, a3, a4, a5, a6, a7, a8, a9, a10, a11, a12], _ => rfl
  have e0' : cs.take 1 = _ := e0
  rw [e0', e1, e2, e3, e4, e5, e6] at split
  rw [split]
  rfl
end
end Go.Proofs.YtnkghcbjokmooaaDoor.Gr
