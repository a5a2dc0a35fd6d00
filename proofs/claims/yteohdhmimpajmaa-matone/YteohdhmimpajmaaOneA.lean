/-
  What MatOne is asked of, as it comes in by value: a matrix, two numbers and a slice of numbers.
-/
import Derived.Test.YteohdhmimpajmaaMatA
namespace Go.Proofs.Yteohdhmimpajmaa
open Go.ChangeShapes Go.WideShapes Go.ChangeAt Go.RowKit Qm

theorem Try.shape35 : shapeOf Try.prog 35 = [(24, 0), (33, 3), (3, 4), (22, 5)] := by kernel_rfl
theorem Try.c35 : Try.prog.cellsOf 35 = 6 := by kernel_rfl

theorem field_of {fs : Array Field} {l : List (TypeId × Nat)} (h : fs.toList.map (fun f => (f.type, f.offset)) = l) (i : Nat) (t : TypeId) (o : Nat) (hi : l[i]? = some (t, o)) : ∃ f, fs[i]? = some f ∧ f.type = t ∧ f.offset = o := by
  have := congrArg (·[i]?) h
  simp only [List.getElem?_map, Array.getElem?_toList, hi] at this
  cases e : fs[i]? with
  | none => rw [e] at this; cases this
  | some f => rw [e] at this; simp at this; exact ⟨f, rfl, this.1, this.2⟩

theorem struct_of {P : Program} {t : TypeId} {l : List (TypeId × Nat)} (h : shapeOf P t = l) (hl : l ≠ []) : ∃ fs, P.underlying t = some (.struct fs) ∧ fs.toList.map (fun f => (f.type, f.offset)) = l := by
  unfold shapeOf at h
  split at h
  · exact ⟨_, by assumption, h⟩
  · exact absurd h.symm hl

theorem mat_cs {H : Type} {enc : TypeId × Value → H} {w : World} {base : Nat} {spare : Nat → Bool} {held : Bool} {fuel : Nat} {cs : List Value} {x : DataW H × List MemPlace}
    (h : DataW.trod enc Try.prog w base spare held fuel 24 cs = some x) : ∃ (ra ca : Int) (sl : Value) (xs : List Int), cs = [.int .i64 ra, .int .i64 ca, sl] ∧ Sees w sl xs := by
  obtain ⟨fs, hu, hsh⟩ := struct_of Try.shape24 (by decide)
  obtain ⟨ys, n, _, _, hl, hxl, hg⟩ := DataW.trod_struct hu h
  have hlen : fs.size = 3 := by have := congrArg List.length hsh; simpa using this
  obtain ⟨g0, h0, t0, o0⟩ := field_of hsh 0 3 0 rfl
  obtain ⟨g1, h1, t1, o1⟩ := field_of hsh 1 3 1 rfl
  obtain ⟨g2, h2, t2, o2⟩ := field_of hsh 2 22 2 rfl
  have q0 := hg 0 g0 h0
  have q1 := hg 1 g1 h1
  have q2 := hg 2 g2 h2
  rw [t0, o0, Try.c3, List.getElem?_eq_getElem (by omega)] at q0
  rw [t1, o1, Try.c3, List.getElem?_eq_getElem (by omega)] at q1
  rw [t2, o2, Try.c22, List.getElem?_eq_getElem (by omega)] at q2
  obtain ⟨ra, e0, _, _⟩ := DataW.trod_int Try.u3 q0
  obtain ⟨ca, e1, _, _⟩ := DataW.trod_int Try.u3 q1
  obtain ⟨sl, zs, e2, hs⟩ := slice_sees q2
  rw [Try.c24] at hl
  refine ⟨ra, ca, sl, zs, ?_, hs⟩
  match cs, hl with
  | [x, y, z], _ =>
    simp at e0 e1 e2
    rw [e0, e1, e2]

theorem one_open {H : Type} {enc : TypeId × Value → H} {w : World} {r : Reach} {b0 base : Nat} {spare : Nat → Bool} {held : Bool} {v : Value} {d : DataW H} {p : List MemPlace}
    (hv : Value.okWide Try.prog w r b0 35 v) (h : DataW.Trod enc Try.prog w base spare held 35 v d p) :
    ∃ (ra ca k n : Int) (sl l : Value) (xs ls : List Int), v = .agg #[.int .i64 ra, .int .i64 ca, sl, .int .i64 k, .int .i64 n, l] ∧ Sees w sl xs ∧ Sees w l ls := by
  obtain ⟨fs, hu, hsh⟩ := struct_of Try.shape35 (by decide)
  obtain ⟨cs, rfl, hsz⟩ := okWide_struct hu hv
  obtain ⟨fuel, hf⟩ := h
  obtain ⟨ys, n, _, _, hl, hxl, hg⟩ := DataW.trod_struct hu hf
  have hlen : fs.size = 4 := by have := congrArg List.length hsh; simpa using this
  obtain ⟨g0, h0, t0, o0⟩ := field_of hsh 0 24 0 rfl
  obtain ⟨g1, h1, t1, o1⟩ := field_of hsh 1 33 3 rfl
  obtain ⟨g2, h2, t2, o2⟩ := field_of hsh 2 3 4 rfl
  obtain ⟨g3, h3, t3, o3⟩ := field_of hsh 3 22 5 rfl
  have q0 := hg 0 g0 h0
  have q1 := hg 1 g1 h1
  have q2 := hg 2 g2 h2
  have q3 := hg 3 g3 h3
  rw [t0, o0, Try.c24, List.getElem?_eq_getElem (by omega)] at q0
  rw [t1, o1, Try.c33, List.getElem?_eq_getElem (by omega)] at q1
  rw [t2, o2, Try.c3, List.getElem?_eq_getElem (by omega)] at q2
  rw [t3, o3, Try.c22, List.getElem?_eq_getElem (by omega)] at q3
  obtain ⟨ra, ca, sl, xs, e0, s0⟩ := mat_cs q0
  obtain ⟨k, e1, _, _⟩ := DataW.trod_int Try.u33 q1
  obtain ⟨m, e2, _, _⟩ := DataW.trod_int Try.u3 q2
  obtain ⟨l, ls, e3, s3⟩ := slice_sees q3
  refine ⟨ra, ca, k, m, sl, l, xs, ls, ?_, s0, s3⟩
  have hc : (Value.agg cs).cells = cs := rfl
  rw [hc] at e0 e1 e2 e3
  have hcs : cs.size = 6 := by rw [hsz]; exact Try.c35
  obtain ⟨c⟩ := cs
  simp only [List.size_toArray] at hcs
  match c, hcs with
  | [x1, x2, x3, x4, x5, x6], _ =>
    simp at e0 e1 e2 e3
    obtain ⟨rfl, rfl, rfl⟩ := e0
    rw [e1, e2, e3]
end Go.Proofs.Yteohdhmimpajmaa
