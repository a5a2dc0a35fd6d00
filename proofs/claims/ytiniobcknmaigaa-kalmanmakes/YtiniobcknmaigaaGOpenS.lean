/-
  Arguments that are structs of tracks, matrices, rows and numbers, opened.
-/
import Derived.Test.YtiniobcknmaigaaGOpenT
import Derived.DataShut
namespace Go.Proofs.Ytiniobcknmaigaa
open Go.ChangeShapes Go.WideShapes Go.ChangeAt Go.RowKit Qm

section
variable {H : Type} {enc : TypeId × Value → H} {w : World} {base : Nat} {spare : Nat → Bool} {held : Bool}
set_option maxRecDepth 40000 in
theorem struct_of {t : TypeId} {shape : List (TypeId × Nat)} (hsh : shapeOf Try.prog t = shape) (hne : shape ≠ []) {r : Reach} {b0 : Nat} {v : Value} {d : DataW H} {p : List MemPlace} (hv : Value.okWide Try.prog w r b0 t v) (h : DataW.Trod enc Try.prog w base spare held t v d p) :
    ∃ (cs : List Value) (fuel : Nat) (x : DataW H × List MemPlace), v = .agg cs.toArray ∧ DataW.trod enc Try.prog w base spare held fuel t cs = some x := by
  have hu : ∃ fs, Try.prog.underlying t = some (.struct fs) := by
    unfold shapeOf at hsh
    cases hu : Try.prog.underlying t with
    | none => rw [hu] at hsh; exact absurd hsh.symm hne
    | some u =>
      rw [hu] at hsh
      cases u with
      | struct fs => exact ⟨fs, rfl⟩
      | _ => simp at hsh; first | exact absurd hsh hne | exact absurd hsh.symm hne
  obtain ⟨fs, hu⟩ := hu
  obtain ⟨cs, rfl, hsz⟩ := okWide_struct hu hv
  obtain ⟨fuel, hf⟩ := h
  exact ⟨cs.toList, fuel, _, rfl, hf⟩
theorem Try.uN3 : Try.prog.underlying 42 = some (.array 3 41) := by kernel_rfl
theorem Try.cN3 : Try.prog.cellsOf 42 = 3 := by kernel_rfl
theorem Try.cQ1 : Try.prog.cellsOf 41 = 1 := by kernel_rfl
theorem Try.uQ1 : Try.prog.underlying 41 = some (.int .i64) := by kernel_rfl
set_option maxRecDepth 40000 in
theorem three_cells_open {n : Nat} {cs : List Value} {x : DataW H × List MemPlace} (h : DataW.trod enc Try.prog w base spare held n 42 cs = some x) : ∃ a b c : Int, cs = [.int .i64 a, .int .i64 b, .int .i64 c] := by
  obtain ⟨xs, m, _, _, hl, hxl, hg⟩ := DataW.trod_array Try.uN3 h
  rw [Try.cN3] at hl
  have cell : ∀ i, i < 3 → ∃ a, List.take 1 (List.drop (i * 1) cs) = [.int .i64 a] := by
    intro i hi
    have g := hg i hi
    rw [Try.cQ1, List.getElem?_eq_getElem (by omega)] at g
    exact int_cell Try.uQ1 g
  obtain ⟨a, ea⟩ := cell 0 (by omega)
  obtain ⟨b, eb⟩ := cell 1 (by omega)
  obtain ⟨c, ec⟩ := cell 2 (by omega)
  refine ⟨a, b, c, ?_⟩
  match cs, hl with
  | [x, y, z], _ =>
    simp at ea eb ec
    rw [ea, eb, ec]
theorem Try.shapeSt : shapeOf Try.prog 44 = [(26, 0), (24, 6), (24, 9), (24, 12), (42, 15)] := by kernel_rfl
theorem Try.cSt : Try.prog.cellsOf 44 = 18 := by kernel_rfl
set_option maxRecDepth 40000 in
theorem stays_open {r : Reach} {b0 : Nat} {v : Value} {d : DataW H} {p : List MemPlace} (hv : Value.okWide Try.prog w r b0 44 v) (h : DataW.Trod enc Try.prog w base spare held 44 v d p) :
    ∃ (ta ua tb ub rf cf rq cq rh ch z r g : Int) (v1 v2 v3 v4 v5 : Value) (xs ps fs qs hs : List Int), v = .agg #[.int .i64 ta, .int .i64 ua, v1, .int .i64 tb, .int .i64 ub, v2, .int .i64 rf, .int .i64 cf, v3, .int .i64 rq, .int .i64 cq, v4, .int .i64 rh, .int .i64 ch, v5, .int .i64 z, .int .i64 r, .int .i64 g] ∧ Sees w v1 xs ∧ Sees w v2 ps ∧ Sees w v3 fs ∧ Sees w v4 qs ∧ Sees w v5 hs := by
  obtain ⟨cs, fuel, x, rfl, hq⟩ := struct_of Try.shapeSt (by simp) hv h
  obtain ⟨hl, m, hf⟩ := fields_of Try.shapeSt (by simp) hq
  rw [Try.cSt] at hl
  obtain ⟨y0, h0⟩ := hf 0 _ _ rfl
  obtain ⟨y1, h1⟩ := hf 1 _ _ rfl
  obtain ⟨y2, h2⟩ := hf 2 _ _ rfl
  obtain ⟨y3, h3⟩ := hf 3 _ _ rfl
  obtain ⟨y4, h4⟩ := hf 4 _ _ rfl
  rw [Try.cT] at h0
  rw [Try.c24] at h1 h2 h3
  rw [Try.cN3] at h4
  obtain ⟨ta, ua, tb, ub, v1, v2, xs, ps, e0, s1, s2⟩ := track_cells_open h0
  obtain ⟨rf, cf, v3, fs, e1, s3⟩ := mat_cells_open h1
  obtain ⟨rq, cq, v4, qs, e2, s4⟩ := mat_cells_open h2
  obtain ⟨rh, ch, v5, hs, e3, s5⟩ := mat_cells_open h3
  obtain ⟨z, r, g, e4⟩ := three_cells_open h4
  refine ⟨ta, ua, tb, ub, rf, cf, rq, cq, rh, ch, z, r, g, v1, v2, v3, v4, v5, xs, ps, fs, qs, hs, ?_, s1, s2, s3, s4, s5⟩
  clear hf h0 h1 h2 h3 h4 hv h hq s1 s2 s3 s4 s5
  have split : cs = cs.take 6 ++ ((cs.drop 6).take 3 ++ ((cs.drop 9).take 3 ++ ((cs.drop 12).take 3 ++ (cs.drop 15).take 3))) := by
    match cs, hl with
    | [a0, a1, a2, a3, a4, a5, a6, a7, a8, a9, a10, a11, a12, a13, a14, a15, a16, a17], _ => rfl
  have e0' : cs.take 6 = _ := e0
  rw [e0', e1, e2, e3, e4] at split
  rw [split]
  rfl
theorem Try.shapeGt : shapeOf Try.prog 51 = [(26, 0), (24, 6), (41, 9), (41, 10)] := by kernel_rfl
theorem Try.cGt : Try.prog.cellsOf 51 = 11 := by kernel_rfl
set_option maxRecDepth 40000 in
theorem gates_open {r : Reach} {b0 : Nat} {v : Value} {d : DataW H} {p : List MemPlace} (hv : Value.okWide Try.prog w r b0 51 v) (h : DataW.Trod enc Try.prog w base spare held 51 v d p) :
    ∃ (ta ua tb ub rh ch r off : Int) (v1 v2 v3 : Value) (xs ps hs : List Int), v = .agg #[.int .i64 ta, .int .i64 ua, v1, .int .i64 tb, .int .i64 ub, v2, .int .i64 rh, .int .i64 ch, v3, .int .i64 r, .int .i64 off] ∧ Sees w v1 xs ∧ Sees w v2 ps ∧ Sees w v3 hs := by
  obtain ⟨cs, fuel, x, rfl, hq⟩ := struct_of Try.shapeGt (by simp) hv h
  obtain ⟨hl, m, hf⟩ := fields_of Try.shapeGt (by simp) hq
  rw [Try.cGt] at hl
  obtain ⟨y0, h0⟩ := hf 0 _ _ rfl
  obtain ⟨y1, h1⟩ := hf 1 _ _ rfl
  obtain ⟨y2, h2⟩ := hf 2 _ _ rfl
  obtain ⟨y3, h3⟩ := hf 3 _ _ rfl
  rw [Try.cT] at h0
  rw [Try.c24] at h1
  rw [Try.cQ1] at h2 h3
  obtain ⟨ta, ua, tb, ub, v1, v2, xs, ps, e0, s1, s2⟩ := track_cells_open h0
  obtain ⟨rh, ch, v3, hs, e1, s3⟩ := mat_cells_open h1
  obtain ⟨r, e2⟩ := int_cell Try.uQ1 h2
  obtain ⟨off, e3⟩ := int_cell Try.uQ1 h3
  refine ⟨ta, ua, tb, ub, rh, ch, r, off, v1, v2, v3, xs, ps, hs, ?_, s1, s2, s3⟩
  clear hf h0 h1 h2 h3 hv h hq s1 s2 s3
  have split : cs = cs.take 6 ++ ((cs.drop 6).take 3 ++ ((cs.drop 9).take 1 ++ (cs.drop 10).take 1)) := by
    match cs, hl with
    | [a0, a1, a2, a3, a4, a5, a6, a7, a8, a9, a10], _ => rfl
  have e0' : cs.take 6 = _ := e0
  rw [e0', e1, e2, e3] at split
  rw [split]
  rfl
theorem Try.shapeMk : shapeOf Try.prog 28 = [(22, 0), (22, 1), (26, 2), (26, 8)] := by kernel_rfl
theorem Try.cMk : Try.prog.cellsOf 28 = 14 := by kernel_rfl
set_option maxRecDepth 40000 in
theorem makes_open {r : Reach} {b0 : Nat} {v : Value} {d : DataW H} {p : List MemPlace} (hv : Value.okWide Try.prog w r b0 28 v) (h : DataW.Trod enc Try.prog w base spare held 28 v d p) :
    ∃ (ta ua tb ub tc uc td ud : Int) (v1 v2 v3 v4 v5 v6 : Value) (xs vs ks ls ms ns : List Int), v = .agg #[v1, v2, .int .i64 ta, .int .i64 ua, v3, .int .i64 tb, .int .i64 ub, v4, .int .i64 tc, .int .i64 uc, v5, .int .i64 td, .int .i64 ud, v6] ∧ Sees w v1 xs ∧ Sees w v2 vs ∧ Sees w v3 ks ∧ Sees w v4 ls ∧ Sees w v5 ms ∧ Sees w v6 ns := by
  obtain ⟨cs, fuel, x, rfl, hq⟩ := struct_of Try.shapeMk (by simp) hv h
  obtain ⟨hl, m, hf⟩ := fields_of Try.shapeMk (by simp) hq
  rw [Try.cMk] at hl
  obtain ⟨y0, h0⟩ := hf 0 _ _ rfl
  obtain ⟨y1, h1⟩ := hf 1 _ _ rfl
  obtain ⟨y2, h2⟩ := hf 2 _ _ rfl
  obtain ⟨y3, h3⟩ := hf 3 _ _ rfl
  rw [Try.c22] at h0 h1
  rw [Try.cT] at h2 h3
  obtain ⟨v1, xs, e0, s1⟩ := slice_sees h0
  obtain ⟨v2, vs, e1, s2⟩ := slice_sees h1
  obtain ⟨ta, ua, tb, ub, v3, v4, ks, ls, e2, s3, s4⟩ := track_cells_open h2
  obtain ⟨tc, uc, td, ud, v5, v6, ms, ns, e3, s5, s6⟩ := track_cells_open h3
  refine ⟨ta, ua, tb, ub, tc, uc, td, ud, v1, v2, v3, v4, v5, v6, xs, vs, ks, ls, ms, ns, ?_, s1, s2, s3, s4, s5, s6⟩
  clear hf h0 h1 h2 h3 hv h hq s1 s2 s3 s4 s5 s6
  have split : cs = cs.take 1 ++ ((cs.drop 1).take 1 ++ ((cs.drop 2).take 6 ++ (cs.drop 8).take 6)) := by
    match cs, hl with
    | [a0, a1, a2, a3, a4, a5, a6, a7, a8, a9, a10, a11, a12, a13], _ => rfl
  have e0' : cs.take 1 = _ := e0
  rw [e0', e1, e2, e3] at split
  rw [split]
  rfl
theorem int_cell' {n : Nat} {cs : List Value} {y : DataW H × List MemPlace} {t : TypeId} {k : IntKind} (ht : Try.prog.underlying t = some (.int k)) (h : DataW.trod enc Try.prog w base spare held n t cs = some y) : ∃ a, cs = [.int k a] ∧ k.min ≤ a ∧ a ≤ k.max := by
  obtain ⟨d, p⟩ := y
  obtain ⟨a, e, _, hw⟩ := DataW.trod_int ht h
  exact ⟨a, e, (Lit.wf_int_iff k a).1 hw⟩
theorem Try.shapeSh : shapeOf Try.prog 61 = [(59, 0), (59, 1), (5, 2), (5, 3)] := by kernel_rfl
theorem Try.cSh : Try.prog.cellsOf 61 = 4 := by kernel_rfl
theorem Try.uU16 : Try.prog.underlying 59 = some (.int .u16) := by kernel_rfl
theorem Try.cU16 : Try.prog.cellsOf 59 = 1 := by kernel_rfl
theorem Try.uU8 : Try.prog.underlying 5 = some (.int .u8) := by kernel_rfl
theorem Try.cU8 : Try.prog.cellsOf 5 = 1 := by kernel_rfl
set_option maxRecDepth 40000 in
theorem shrinks_open {r : Reach} {b0 : Nat} {v : Value} {d : DataW H} {p : List MemPlace} (hv : Value.okWide Try.prog w r b0 61 v) (h : DataW.Trod enc Try.prog w base spare held 61 v d p) :
    ∃ (x z y r : Int), v = .agg #[.int .u16 x, .int .u16 z, .int .u8 y, .int .u8 r] ∧ (0 ≤ x ∧ x ≤ 65535) ∧ (0 ≤ z ∧ z ≤ 65535) ∧ (0 ≤ y ∧ y ≤ 255) ∧ (0 ≤ r ∧ r ≤ 255) := by
  obtain ⟨cs, fuel, x, rfl, hq⟩ := struct_of Try.shapeSh (by simp) hv h
  obtain ⟨hl, m, hf⟩ := fields_of Try.shapeSh (by simp) hq
  rw [Try.cSh] at hl
  obtain ⟨y0, h0⟩ := hf 0 _ _ rfl
  obtain ⟨y1, h1⟩ := hf 1 _ _ rfl
  obtain ⟨y2, h2⟩ := hf 2 _ _ rfl
  obtain ⟨y3, h3⟩ := hf 3 _ _ rfl
  rw [Try.cU16] at h0 h1
  rw [Try.cU8] at h2 h3
  obtain ⟨a, e0, w0⟩ := int_cell' Try.uU16 h0
  obtain ⟨b, e1, w1⟩ := int_cell' Try.uU16 h1
  obtain ⟨c, e2, w2⟩ := int_cell' Try.uU8 h2
  obtain ⟨d, e3, w3⟩ := int_cell' Try.uU8 h3
  refine ⟨a, b, c, d, ?_, w0, w1, w2, w3⟩
  clear hf h0 h1 h2 h3 hv h hq w0 w1 w2 w3
  have split : cs = cs.take 1 ++ ((cs.drop 1).take 1 ++ ((cs.drop 2).take 1 ++ (cs.drop 3).take 1)) := by
    match cs, hl with
    | [a0, a1, a2, a3], _ => rfl
  have e0' : cs.take 1 = _ := e0
  rw [e0', e1, e2, e3] at split
  rw [split]
  rfl
end
end Go.Proofs.Ytiniobcknmaigaa
