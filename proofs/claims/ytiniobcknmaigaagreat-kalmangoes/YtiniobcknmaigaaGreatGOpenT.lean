/-
  Arguments that hold matrices and tracks, opened: what their cells are, and what the slices in them show.
-/
import Derived.Test.YtiniobcknmaigaaGreatGMatA
import Derived.Test.YtiniobcknmaigaaGreatG02
namespace Go.Proofs.YtiniobcknmaigaaGreat
open Go.ChangeShapes Go.WideShapes Go.ChangeAt Go.RowKit Qm

section
variable {H : Type} {enc : TypeId × Value → H} {w : World} {base : Nat} {spare : Nat → Bool} {held : Bool}
set_option maxRecDepth 40000 in
theorem fields_of {t : TypeId} {shape : List (TypeId × Nat)} {fuel : Nat} {cs : List Value} {x : DataW H × List MemPlace} (hsh : shapeOf Tryz.prog t = shape) (hne : shape ≠ []) (h : DataW.trod enc Tryz.prog w base spare held fuel t cs = some x) :
    cs.length = Tryz.prog.cellsOf t ∧ ∃ n, ∀ (i : Nat) (ty : TypeId) (off : Nat), shape[i]? = some (ty, off) → ∃ y, DataW.trod enc Tryz.prog w base spare held n ty (List.take (Tryz.prog.cellsOf ty) (List.drop off cs)) = some y := by
  unfold shapeOf at hsh
  cases hu : Tryz.prog.underlying t with
  | none => rw [hu] at hsh; exact absurd hsh.symm hne
  | some u =>
    rw [hu] at hsh
    cases u with
    | struct fs =>
      simp only at hsh
      obtain ⟨xs, n, _, _, hl, hxl, hg⟩ := DataW.trod_struct hu h
      refine ⟨hl, n, fun i ty off hi => ?_⟩
      rw [← hsh] at hi
      simp only [List.getElem?_map, Array.getElem?_toList] at hi
      cases e : fs[i]? with
      | none => rw [e] at hi; cases hi
      | some f =>
        rw [e] at hi
        simp at hi
        have q := hg i f e
        rw [hi.1, hi.2] at q
        have hlt : i < xs.length := by rw [hxl]; exact (Array.getElem?_eq_some_iff.1 e).1
        rw [List.getElem?_eq_getElem hlt] at q
        exact ⟨_, q⟩
    | _ => simp at hsh; first | exact absurd hsh hne | exact absurd hsh.symm hne
theorem int_cell {n : Nat} {cs : List Value} {y : DataW H × List MemPlace} {t : TypeId} (ht : Tryz.prog.underlying t = some (.int .i64)) (h : DataW.trod enc Tryz.prog w base spare held n t cs = some y) : ∃ a, cs = [.int .i64 a] := by
  obtain ⟨d, p⟩ := y
  obtain ⟨a, e, _, _⟩ := DataW.trod_int ht h
  exact ⟨a, e⟩
set_option maxRecDepth 40000 in
theorem mat_cells_open {n : Nat} {cs : List Value} {x : DataW H × List MemPlace} (h : DataW.trod enc Tryz.prog w base spare held n 24 cs = some x) : ∃ (ra ca : Int) (sl : Value) (xs : List Int), cs = [.int .i64 ra, .int .i64 ca, sl] ∧ Sees w sl xs := by
  obtain ⟨hl, m, hf⟩ := fields_of Tryz.shape24 (by simp) h
  rw [Tryz.c24] at hl
  obtain ⟨y0, h0⟩ := hf 0 _ _ rfl
  obtain ⟨y1, h1⟩ := hf 1 _ _ rfl
  obtain ⟨y2, h2⟩ := hf 2 _ _ rfl
  rw [Tryz.c3] at h0 h1
  rw [Tryz.c22] at h2
  obtain ⟨ra, e0⟩ := int_cell Tryz.u3 h0
  obtain ⟨ca, e1⟩ := int_cell Tryz.u3 h1
  obtain ⟨sl, zs, e2, hs⟩ := slice_sees h2
  refine ⟨ra, ca, sl, zs, ?_, hs⟩
  match cs, hl with
  | [x, y, z], _ =>
    simp at e0 e1 e2
    rw [e0, e1, e2]
theorem Tryz.shapeT : shapeOf Tryz.prog 26 = [(24, 0), (24, 3)] := by kernel_rfl
theorem Tryz.cT : Tryz.prog.cellsOf 26 = 6 := by kernel_rfl
set_option maxRecDepth 40000 in
theorem track_cells_open {n : Nat} {cs : List Value} {x : DataW H × List MemPlace} (h : DataW.trod enc Tryz.prog w base spare held n 26 cs = some x) :
    ∃ (r1 c1 r2 c2 : Int) (s1 s2 : Value) (xs ps : List Int), cs = [.int .i64 r1, .int .i64 c1, s1, .int .i64 r2, .int .i64 c2, s2] ∧ Sees w s1 xs ∧ Sees w s2 ps := by
  obtain ⟨hl, m, hf⟩ := fields_of Tryz.shapeT (by simp) h
  rw [Tryz.cT] at hl
  obtain ⟨y0, h0⟩ := hf 0 _ _ rfl
  obtain ⟨y1, h1⟩ := hf 1 _ _ rfl
  rw [Tryz.c24] at h0 h1
  obtain ⟨ra, ca, sl, xs, e0, s0⟩ := mat_cells_open h0
  obtain ⟨rb, cb, sm, ps, e1, s1⟩ := mat_cells_open h1
  refine ⟨ra, ca, rb, cb, sl, sm, xs, ps, ?_, s0, s1⟩
  match cs, hl with
  | [x, y, z, u, v, t], _ =>
    simp at e0 e1
    obtain ⟨rfl, rfl, rfl⟩ := e0
    obtain ⟨rfl, rfl, rfl⟩ := e1
    rfl
set_option maxRecDepth 40000 in
theorem track_open {r : Reach} {b0 : Nat} {v : Value} {d : DataW H} {p : List MemPlace} (hv : Value.okWide Tryz.prog w r b0 26 v) (h : DataW.Trod enc Tryz.prog w base spare held 26 v d p) :
    ∃ (r1 c1 r2 c2 : Int) (s1 s2 : Value) (xs ps : List Int), v = .agg #[.int .i64 r1, .int .i64 c1, s1, .int .i64 r2, .int .i64 c2, s2] ∧ Sees w s1 xs ∧ Sees w s2 ps := by
  have hu : ∃ fs, Tryz.prog.underlying 26 = some (.struct fs) := by
    have hsh := Tryz.shapeT
    unfold shapeOf at hsh
    cases hu : Tryz.prog.underlying 26 with
    | none => rw [hu] at hsh; cases hsh
    | some u =>
      rw [hu] at hsh
      cases u with
      | struct fs => exact ⟨fs, rfl⟩
      | _ => simp at hsh
  obtain ⟨fs, hu⟩ := hu
  obtain ⟨cs, rfl, hsz⟩ := okWide_struct hu hv
  obtain ⟨fuel, hf⟩ := h
  obtain ⟨r1, c1, r2, c2, s1, s2, xs, ps, e, h1, h2⟩ := track_cells_open hf
  refine ⟨r1, c1, r2, c2, s1, s2, xs, ps, ?_, h1, h2⟩
  have hc : (Value.agg cs).cells = cs := rfl
  rw [hc] at e
  rw [← e]
end
end Go.Proofs.YtiniobcknmaigaaGreat
