/-
  Arguments that are structs of tracks, matrices, rows and numbers, opened.
-/
import Derived.Test.YtiniobcknmaigaaGreatGOpenT
import Derived.DataShut
namespace Go.Proofs.YtiniobcknmaigaaGreat
open Go.ChangeShapes Go.WideShapes Go.ChangeAt Go.RowKit Qm

section
variable {H : Type} {enc : TypeId × Value → H} {w : World} {base : Nat} {spare : Nat → Bool} {held : Bool}
set_option maxRecDepth 40000 in
theorem struct_of {t : TypeId} {shape : List (TypeId × Nat)} (hsh : shapeOf Tryz.prog t = shape) (hne : shape ≠ []) {r : Reach} {b0 : Nat} {v : Value} {d : DataW H} {p : List MemPlace} (hv : Value.okWide Tryz.prog w r b0 t v) (h : DataW.Trod enc Tryz.prog w base spare held t v d p) :
    ∃ (cs : List Value) (fuel : Nat) (x : DataW H × List MemPlace), v = .agg cs.toArray ∧ DataW.trod enc Tryz.prog w base spare held fuel t cs = some x := by
  have hu : ∃ fs, Tryz.prog.underlying t = some (.struct fs) := by
    unfold shapeOf at hsh
    cases hu : Tryz.prog.underlying t with
    | none => rw [hu] at hsh; exact absurd hsh.symm hne
    | some u =>
      rw [hu] at hsh
      cases u with
      | struct fs => exact ⟨fs, rfl⟩
      | _ => simp at hsh; first | exact absurd hsh hne | exact absurd hsh.symm hne
  obtain ⟨fs, hu⟩ := hu
  obtain ⟨cs, rfl, hsz⟩ := okWide_struct hu hv
  obtain ⟨fuel, hf⟩ := h
  exact ⟨cs.toList, fuel, _, rfl, hf⟩
theorem Tryz.uN3 : Tryz.prog.underlying 28 = some (.array 3 27) := by kernel_rfl
theorem Tryz.cN3 : Tryz.prog.cellsOf 28 = 3 := by kernel_rfl
theorem Tryz.cQ1 : Tryz.prog.cellsOf 27 = 1 := by kernel_rfl
theorem Tryz.uQ1 : Tryz.prog.underlying 27 = some (.int .i64) := by kernel_rfl
set_option maxRecDepth 40000 in
theorem three_cells_open {n : Nat} {cs : List Value} {x : DataW H × List MemPlace} (h : DataW.trod enc Tryz.prog w base spare held n 28 cs = some x) : ∃ a b c : Int, cs = [.int .i64 a, .int .i64 b, .int .i64 c] := by
  obtain ⟨xs, m, _, _, hl, hxl, hg⟩ := DataW.trod_array Tryz.uN3 h
  rw [Tryz.cN3] at hl
  have cell : ∀ i, i < 3 → ∃ a, List.take 1 (List.drop (i * 1) cs) = [.int .i64 a] := by
    intro i hi
    have g := hg i hi
    rw [Tryz.cQ1, List.getElem?_eq_getElem (by omega)] at g
    exact int_cell Tryz.uQ1 g
  obtain ⟨a, ea⟩ := cell 0 (by omega)
  obtain ⟨b, eb⟩ := cell 1 (by omega)
  obtain ⟨c, ec⟩ := cell 2 (by omega)
  refine ⟨a, b, c, ?_⟩
  match cs, hl with
  | [x, y, z], _ =>
    simp at ea eb ec
    rw [ea, eb, ec]
theorem Tryz.shapeGo : shapeOf Tryz.prog 30 = [(26, 0), (24, 6), (24, 9), (24, 12), (28, 15)] := by kernel_rfl
theorem Tryz.cGo : Tryz.prog.cellsOf 30 = 18 := by kernel_rfl
set_option maxRecDepth 40000 in
theorem goes_open {r : Reach} {b0 : Nat} {v : Value} {d : DataW H} {p : List MemPlace} (hv : Value.okWide Tryz.prog w r b0 30 v) (h : DataW.Trod enc Tryz.prog w base spare held 30 v d p) :
    ∃ (ta ua tb ub rf cf rq cq rh ch z r g : Int) (v1 v2 v3 v4 v5 : Value) (xs ps fs qs hs : List Int), v = .agg #[.int .i64 ta, .int .i64 ua, v1, .int .i64 tb, .int .i64 ub, v2, .int .i64 rf, .int .i64 cf, v3, .int .i64 rq, .int .i64 cq, v4, .int .i64 rh, .int .i64 ch, v5, .int .i64 z, .int .i64 r, .int .i64 g] ∧ Sees w v1 xs ∧ Sees w v2 ps ∧ Sees w v3 fs ∧ Sees w v4 qs ∧ Sees w v5 hs := by
  obtain ⟨cs, fuel, x, rfl, hq⟩ := struct_of Tryz.shapeGo (by simp) hv h
  obtain ⟨hl, m, hf⟩ := fields_of Tryz.shapeGo (by simp) hq
  rw [Tryz.cGo] at hl
  obtain ⟨y0, h0⟩ := hf 0 _ _ rfl
  obtain ⟨y1, h1⟩ := hf 1 _ _ rfl
  obtain ⟨y2, h2⟩ := hf 2 _ _ rfl
  obtain ⟨y3, h3⟩ := hf 3 _ _ rfl
  obtain ⟨y4, h4⟩ := hf 4 _ _ rfl
  rw [Tryz.cT] at h0
  rw [Tryz.c24] at h1 h2 h3
  rw [Tryz.cN3] at h4
  obtain ⟨ta, ua, tb, ub, v1, v2, xs, ps, e0, s1, s2⟩ := track_cells_open h0
  obtain ⟨rf, cf, v3, fs, e1, s3⟩ := mat_cells_open h1
  obtain ⟨rq, cq, v4, qs, e2, s4⟩ := mat_cells_open h2
  obtain ⟨rh, ch, v5, hs, e3, s5⟩ := mat_cells_open h3
  obtain ⟨z, r, g, e4⟩ := three_cells_open h4
  refine ⟨ta, ua, tb, ub, rf, cf, rq, cq, rh, ch, z, r, g, v1, v2, v3, v4, v5, xs, ps, fs, qs, hs, ?_, s1, s2, s3, s4, s5⟩
  clear hf h0 h1 h2 h3 h4 hv h hq s1 s2 s3 s4 s5
  have split : cs = cs.take 6 ++ ((cs.drop 6).take 3 ++ ((cs.drop 9).take 3 ++ ((cs.drop 12).take 3 ++ (cs.drop 15).take 3))) := by
    match cs, hl with
    | [a0, a1, a2, a3, a4, a5, a6, a7, a8, a9, a10, a11, a12, a13, a14, a15, a16, a17], _ => rfl
  have e0' : cs.take 6 = _ := e0
  rw [e0', e1, e2, e3, e4] at split
  rw [split]
  rfl
theorem int_cell' {n : Nat} {cs : List Value} {y : DataW H × List MemPlace} {t : TypeId} {k : IntKind} (ht : Tryz.prog.underlying t = some (.int k)) (h : DataW.trod enc Tryz.prog w base spare held n t cs = some y) : ∃ a, cs = [.int k a] ∧ k.min ≤ a ∧ a ≤ k.max := by
  obtain ⟨d, p⟩ := y
  obtain ⟨a, e, _, hw⟩ := DataW.trod_int ht h
  exact ⟨a, e, (Lit.wf_int_iff k a).1 hw⟩
theorem Tryz.uU8 : Tryz.prog.underlying 5 = some (.int .u8) := by kernel_rfl
theorem Tryz.cU8 : Tryz.prog.cellsOf 5 = 1 := by kernel_rfl
end
end Go.Proofs.YtiniobcknmaigaaGreat
