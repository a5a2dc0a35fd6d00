/-
  Stores that came in, opened.
-/
import Derived.Test.YtcfobifldlkfnaaDO
import Derived.Test.YtcfobifldlkfnaaNO
namespace Go.Proofs.Ytcfobifldlkfnaa.Gr
open Go.ChangeShapes Go.WideShapes Go.ChangeAt Go.RowKit Nm
set_option linter.unusedVariables false

/-- the fields' types and places, in their order -/
def shapeOf (P : Program) (t : TypeId) : List (TypeId × Nat) := match P.underlying t with | some (.struct fs) => fs.toList.map fun f => (f.type, f.offset) | _ => []
section
variable {H : Type} {enc : TypeId × Value → H} {w : World} {base : Nat} {spare : Nat → Bool} {held : Bool}
set_option maxRecDepth 40000 in
theorem fields_w {t : TypeId} {shape : List (TypeId × Nat)} {fuel : Nat} {cs : List Value} {x : DataW H × List MemPlace} (hsh : shapeOf Try.prog t = shape) (hne : shape ≠ []) (h : DataW.trod enc Try.prog w base spare held fuel t cs = some x) {R : Nat} (hR : ∀ m ∈ x.1.weights Try.prog t, m ≤ R) :
    cs.length = Try.prog.cellsOf t ∧ ∃ n, ∀ (i : Nat) (ty : TypeId) (off : Nat), shape[i]? = some (ty, off) → ∃ y, DataW.trod enc Try.prog w base spare held n ty (List.take (Try.prog.cellsOf ty) (List.drop off cs)) = some y ∧ ∀ m ∈ y.1.weights Try.prog ty, m ≤ R := by
  unfold shapeOf at hsh
  cases hu : Try.prog.underlying t with
  | none => rw [hu] at hsh; exact absurd hsh.symm hne
  | some u =>
    rw [hu] at hsh
    cases u with
    | struct fs =>
      simp only at hsh
      obtain ⟨xs, n, _, hx, hl, hxl, hg⟩ := DataW.trod_struct hu h
      refine ⟨hl, n, fun i ty off hi => ?_⟩
      rw [← hsh] at hi
      simp only [List.getElem?_map, Array.getElem?_toList] at hi
      cases e : fs[i]? with
      | none => rw [e] at hi; cases hi
      | some f =>
        rw [e] at hi
        simp at hi
        have q := hg i f e
        rw [hi.1, hi.2] at q
        have hlt : i < xs.length := by rw [hxl]; exact (Array.getElem?_eq_some_iff.1 e).1
        rw [List.getElem?_eq_getElem hlt] at q
        refine ⟨_, q, fun m hm => hR m ?_⟩
        rw [hx]
        simp only [DataW.weights, hu]
        refine mem_each _ _ i ty xs[i].1 m ?_ ?_ hm
        · rw [List.getElem?_map, Array.getElem?_toList, e]; simp [hi.1]
        · rw [List.getElem?_map, List.getElem?_eq_getElem hlt]; rfl
    | _ => simp at hsh; first | exact absurd hsh hne | exact absurd hsh.symm hne
theorem mem_all {H : Type} {P : Program} {t : TypeId} : ∀ (ds : List (DataW H)) (k : Nat) (i : Nat) (d : DataW H) (m : Nat), ds[i]? = some d → m ∈ d.weights P t → m ∈ DataW.weightsAll P t ds
  | [], _, _, _, _, h, _ => by simp at h
  | e :: ds, _, 0, d, m, h1, h2 => by
    simp at h1
    subst h1
    unfold DataW.weightsAll
    exact List.mem_append_left _ h2
  | e :: ds, _, i + 1, d, m, h1, h2 => by
    unfold DataW.weightsAll
    exact List.mem_append_right _ (mem_all ds 0 i d m (by simpa using h1) h2)
set_option maxRecDepth 40000 in
theorem elems_w {t e : TypeId} {k : Nat} {fuel : Nat} {cs : List Value} {x : DataW H × List MemPlace} (hu : Try.prog.underlying t = some (.array k e)) (h : DataW.trod enc Try.prog w base spare held fuel t cs = some x) {R : Nat} (hR : ∀ m ∈ x.1.weights Try.prog t, m ≤ R) :
    cs.length = Try.prog.cellsOf t ∧ ∃ n, ∀ i, i < k → ∃ y, DataW.trod enc Try.prog w base spare held n e (List.take (Try.prog.cellsOf e) (List.drop (i * Try.prog.cellsOf e) cs)) = some y ∧ ∀ m ∈ y.1.weights Try.prog e, m ≤ R := by
  obtain ⟨xs, n, _, hx, hl, hxl, hg⟩ := DataW.trod_array hu h
  refine ⟨hl, n, fun i hi => ?_⟩
  have q := hg i hi
  have hlt : i < xs.length := by rw [hxl]; exact hi
  rw [List.getElem?_eq_getElem hlt] at q
  refine ⟨_, q, fun m hm => hR m ?_⟩
  rw [hx]
  simp only [DataW.weights, hu]
  exact mem_all _ 0 i xs[i].1 m (by rw [List.getElem?_map, List.getElem?_eq_getElem hlt]; rfl) hm
theorem i64_cellR {n : Nat} {cs : List Value} {y : DataW H × List MemPlace} {t : TypeId} (ht : Try.prog.underlying t = some (.int .i64)) (h : DataW.trod enc Try.prog w base spare held n t cs = some y) : ∃ a, cs = [.int .i64 a] := by
  obtain ⟨d, p⟩ := y
  obtain ⟨a, e, _, hw⟩ := DataW.trod_int ht h
  exact ⟨a, e⟩
theorem u8_cell {n : Nat} {cs : List Value} {y : DataW H × List MemPlace} {t : TypeId} (ht : Try.prog.underlying t = some (.int .u8)) (h : DataW.trod enc Try.prog w base spare held n t cs = some y) : ∃ a, cs = [.int .u8 a] ∧ 0 ≤ a ∧ a ≤ 255 := by
  obtain ⟨d, p⟩ := y
  obtain ⟨a, e, _, hw⟩ := DataW.trod_int ht h
  refine ⟨a, e, ?_⟩
  simpa [Lit.wf, IntKind.min, IntKind.max, IntKind.bits, IntKind.signed] using hw
theorem shapeSl : shapeOf Try.prog 24 = [(22, 0), (2, 1)] := by kernel_rfl
theorem cSl : Try.prog.cellsOf 24 = 2 := by kernel_rfl
theorem cWs : Try.prog.cellsOf 22 = 1 := by kernel_rfl
theorem cI6 : Try.prog.cellsOf 2 = 1 := by kernel_rfl
theorem uA2 : Try.prog.underlying 25 = some (.array 2 24) := by kernel_rfl
theorem cA2 : Try.prog.cellsOf 25 = 4 := by kernel_rfl
theorem shapeNv : shapeOf Try.prog 27 = [(25, 0)] := by kernel_rfl
theorem cNv : Try.prog.cellsOf 27 = 4 := by kernel_rfl
set_option maxRecDepth 40000 in
theorem slot_open {fuel : Nat} {cs : List Value} {x : DataW H × List MemPlace} (h : DataW.trod enc Try.prog w base spare held fuel 24 cs = some x) {R : Nat} (hR : ∀ m ∈ x.1.weights Try.prog 24, m ≤ R) :
    ∃ v xs c, cs = [v, .int .i64 c] ∧ SeesI w v xs ∧ xs.length * 8 ≤ R := by
  obtain ⟨hl, m, hf⟩ := fields_w shapeSl (by simp) h hR
  rw [cSl] at hl
  obtain ⟨y0, h0, r0⟩ := hf 0 _ _ rfl
  obtain ⟨y1, h1, r1⟩ := hf 1 _ _ rfl
  rw [cWs] at h0
  rw [cI6] at h1
  obtain ⟨v, xs, e0, sv, hn, _⟩ := words_w h0 r0
  obtain ⟨c, e1⟩ := i64_cellR under2 h1
  refine ⟨v, xs, c, ?_, sv, hn⟩
  match cs, hl with
  | [a, b], _ => simp at e0 e1; rw [e0, e1]
set_option maxRecDepth 40000 in
theorem nv_open {r : Reach} {b0 : Nat} {v : Value} {d : DataW H} {p : List MemPlace} (hv : Value.okWide Try.prog w r b0 27 v) (h : DataW.Trod enc Try.prog w base spare held 27 v d p) {R : Nat} (hR : ∀ m ∈ d.weights Try.prog 27, m ≤ R) :
    ∃ s : Nv, SeesN w v s ∧ s.a.length * 8 ≤ R ∧ s.b.length * 8 ≤ R := by
  have hu : ∃ fs, Try.prog.underlying 27 = some (.struct fs) := undNv
  obtain ⟨fs, hu⟩ := hu
  obtain ⟨cs, rfl, hsz⟩ := okWide_struct hu hv
  obtain ⟨fuel, hf0⟩ := h
  have hf0' : DataW.trod enc Try.prog w base spare held fuel 27 cs.toList = some (d, p) := hf0
  obtain ⟨hl, m, hf⟩ := fields_w (x := (d, p)) shapeNv (by simp) hf0' hR
  rw [cNv] at hl
  obtain ⟨y0, h0, r0⟩ := hf 0 _ _ rfl
  rw [cA2] at h0
  obtain ⟨_, m2, hg⟩ := elems_w uA2 h0 r0
  obtain ⟨z0, g0, q0⟩ := hg 0 (by omega)
  obtain ⟨z1, g1, q1⟩ := hg 1 (by omega)
  rw [cSl] at g0 g1
  obtain ⟨va, xs, c, e0, s0, n0⟩ := slot_open g0 q0
  obtain ⟨vb', ys, d', e1, s1, n1⟩ := slot_open g1 q1
  refine ⟨⟨xs, c, ys, d'⟩, ⟨va, vb', ?_, s0, s1⟩, n0, n1⟩
  congr 1
  apply Array.toList_inj.1
  generalize cs.toList = l at e0 e1 hl ⊢
  match l, hl with
  | [x0, x1, x2, x3], _ =>
    simp at e0 e1
    rw [e0.1, e0.2, e1.1, e1.2]
theorem shapeTw : shapeOf Try.prog 45 = [(22, 0), (22, 1), (22, 2), (5, 3)] := by kernel_rfl
theorem cTw : Try.prog.cellsOf 45 = 4 := by kernel_rfl
theorem undTw : ∃ fs, Try.prog.underlying 45 = some (.struct fs) := by
  refine ⟨((Try.prog.underlying 45).getD .bool |> fun d => match d with | .struct fs => fs | _ => #[]), ?_⟩
  kernel_rfl
set_option maxRecDepth 40000 in
theorem twice_open {r : Reach} {b0 : Nat} {v : Value} {d : DataW H} {p : List MemPlace} (hv : Value.okWide Try.prog w r b0 45 v) (h : DataW.Trod enc Try.prog w base spare held 45 v d p) {R : Nat} (hR : ∀ m ∈ d.weights Try.prog 45, m ≤ R) :
    ∃ va vb' vc xs ys zs k, v = .agg #[va, vb', vc, .int .u8 k] ∧ SeesI w va xs ∧ SeesI w vb' ys ∧ SeesI w vc zs ∧ xs.length * 8 ≤ R ∧ ys.length * 8 ≤ R ∧ zs.length * 8 ≤ R ∧ 0 ≤ k ∧ k ≤ 255 := by
  obtain ⟨fs, hu⟩ := undTw
  obtain ⟨cs, rfl, hsz⟩ := okWide_struct hu hv
  obtain ⟨fuel, hf0⟩ := h
  have hf0' : DataW.trod enc Try.prog w base spare held fuel 45 cs.toList = some (d, p) := hf0
  obtain ⟨hl, m, hf⟩ := fields_w (x := (d, p)) shapeTw (by simp) hf0' hR
  rw [cTw] at hl
  obtain ⟨y0, h0, r0⟩ := hf 0 _ _ rfl
  obtain ⟨y1, h1, r1⟩ := hf 1 _ _ rfl
  obtain ⟨y2, h2, r2⟩ := hf 2 _ _ rfl
  obtain ⟨y3, h3, r3⟩ := hf 3 _ _ rfl
  rw [cWs] at h0 h1 h2
  rw [cells5] at h3
  obtain ⟨va, xs, e0, s0, n0, _⟩ := words_w h0 r0
  obtain ⟨vb', ys, e1, s1, n1, _⟩ := words_w h1 r1
  obtain ⟨vc, zs, e2, s2, n2, _⟩ := words_w h2 r2
  obtain ⟨k, e3, k0, k1⟩ := u8_cell under5 h3
  refine ⟨va, vb', vc, xs, ys, zs, k, ?_, s0, s1, s2, n0, n1, n2, k0, k1⟩
  congr 1
  apply Array.toList_inj.1
  generalize cs.toList = l at e0 e1 e2 e3 hl ⊢
  match l, hl with
  | [x0, x1, x2, x3], _ =>
    simp at e0 e1 e2 e3
    rw [e0, e1, e2, e3]
end
end Go.Proofs.Ytcfobifldlkfnaa.Gr
