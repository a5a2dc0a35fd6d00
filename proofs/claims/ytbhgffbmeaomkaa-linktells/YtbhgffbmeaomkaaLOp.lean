/-
  Ends and packets that came in, opened.
-/
import Derived.Test.YtbhgffbmeaomkaaDO
import Derived.Test.YtbhgffbmeaomkaaLW
namespace Go.Proofs.Ytbhgffbmeaomkaa.Gr
open Go.ChangeShapes Go.WideShapes Go.ChangeAt Go.RowKit Lm
set_option linter.unusedVariables false

/-- the fields' types and places, in their order -/
def shapeOf (P : Program) (t : TypeId) : List (TypeId × Nat) := match P.underlying t with | some (.struct fs) => fs.toList.map fun f => (f.type, f.offset) | _ => []
section
variable {H : Type} {enc : TypeId × Value → H} {w : World} {base : Nat} {spare : Nat → Bool} {held : Bool}
set_option maxRecDepth 40000 in
theorem fields_w {t : TypeId} {shape : List (TypeId × Nat)} {fuel : Nat} {cs : List Value} {x : DataW H × List MemPlace} (hsh : shapeOf Try.prog t = shape) (hne : shape ≠ []) (h : DataW.trod enc Try.prog w base spare held fuel t cs = some x) {R : Nat} (hR : ∀ m ∈ x.1.weights Try.prog t, m ≤ R) :
    cs.length = Try.prog.cellsOf t ∧ ∃ n, ∀ (i : Nat) (ty : TypeId) (off : Nat), shape[i]? = some (ty, off) → ∃ y, DataW.trod enc Try.prog w base spare held n ty (List.take (Try.prog.cellsOf ty) (List.drop off cs)) = some y ∧ ∀ m ∈ y.1.weights Try.prog ty, m ≤ R := by
  unfold shapeOf at hsh
  cases hu : Try.prog.underlying t with
  | none => rw [hu] at hsh; exact absurd hsh.symm hne
  | some u =>
    rw [hu] at hsh
    cases u with
    | struct fs =>
      simp only at hsh
      obtain ⟨xs, n, _, hx, hl, hxl, hg⟩ := DataW.trod_struct hu h
      refine ⟨hl, n, fun i ty off hi => ?_⟩
      rw [← hsh] at hi
      simp only [List.getElem?_map, Array.getElem?_toList] at hi
      cases e : fs[i]? with
      | none => rw [e] at hi; cases hi
      | some f =>
        rw [e] at hi
        simp at hi
        have q := hg i f e
        rw [hi.1, hi.2] at q
        have hlt : i < xs.length := by rw [hxl]; exact (Array.getElem?_eq_some_iff.1 e).1
        rw [List.getElem?_eq_getElem hlt] at q
        refine ⟨_, q, fun m hm => hR m ?_⟩
        rw [hx]
        simp only [DataW.weights, hu]
        refine mem_each _ _ i ty xs[i].1 m ?_ ?_ hm
        · rw [List.getElem?_map, Array.getElem?_toList, e]; simp [hi.1]
        · rw [List.getElem?_map, List.getElem?_eq_getElem hlt]; rfl
    | _ => simp at hsh; first | exact absurd hsh hne | exact absurd hsh.symm hne
theorem mem_all {H : Type} {P : Program} {t : TypeId} : ∀ (ds : List (DataW H)) (k : Nat) (i : Nat) (d : DataW H) (m : Nat), ds[i]? = some d → m ∈ d.weights P t → m ∈ DataW.weightsAll P t ds
  | [], _, _, _, _, h, _ => by simp at h
  | e :: ds, _, 0, d, m, h1, h2 => by
    simp at h1
    subst h1
    unfold DataW.weightsAll
    exact List.mem_append_left _ h2
  | e :: ds, _, i + 1, d, m, h1, h2 => by
    unfold DataW.weightsAll
    exact List.mem_append_right _ (mem_all ds 0 i d m (by simpa using h1) h2)
set_option maxRecDepth 40000 in
theorem elems_w {t e : TypeId} {k : Nat} {fuel : Nat} {cs : List Value} {x : DataW H × List MemPlace} (hu : Try.prog.underlying t = some (.array k e)) (h : DataW.trod enc Try.prog w base spare held fuel t cs = some x) {R : Nat} (hR : ∀ m ∈ x.1.weights Try.prog t, m ≤ R) :
    cs.length = Try.prog.cellsOf t ∧ ∃ n, ∀ i, i < k → ∃ y, DataW.trod enc Try.prog w base spare held n e (List.take (Try.prog.cellsOf e) (List.drop (i * Try.prog.cellsOf e) cs)) = some y ∧ ∀ m ∈ y.1.weights Try.prog e, m ≤ R := by
  obtain ⟨xs, n, _, hx, hl, hxl, hg⟩ := DataW.trod_array hu h
  refine ⟨hl, n, fun i hi => ?_⟩
  have q := hg i hi
  have hlt : i < xs.length := by rw [hxl]; exact hi
  rw [List.getElem?_eq_getElem hlt] at q
  refine ⟨_, q, fun m hm => hR m ?_⟩
  rw [hx]
  simp only [DataW.weights, hu]
  exact mem_all _ 0 i xs[i].1 m (by rw [List.getElem?_map, List.getElem?_eq_getElem hlt]; rfl) hm
theorem i64_cellR {n : Nat} {cs : List Value} {y : DataW H × List MemPlace} {t : TypeId} (ht : Try.prog.underlying t = some (.int .i64)) (h : DataW.trod enc Try.prog w base spare held n t cs = some y) : ∃ a, cs = [.int .i64 a] := by
  obtain ⟨d, p⟩ := y
  obtain ⟨a, e, _, hw⟩ := DataW.trod_int ht h
  exact ⟨a, e⟩
theorem cWs : Try.prog.cellsOf 22 = 1 := by kernel_rfl
theorem cI6 : Try.prog.cellsOf 2 = 1 := by kernel_rfl
theorem shapeLk : shapeOf Try.prog 24 = [(2, 0), (2, 1), (2, 2), (22, 3), (2, 4)] := by kernel_rfl
theorem cLk : Try.prog.cellsOf 24 = 5 := by kernel_rfl
theorem shapePk : shapeOf Try.prog 26 = [(2, 0), (2, 1), (2, 2), (22, 3), (2, 4)] := by kernel_rfl
theorem cPk : Try.prog.cellsOf 26 = 5 := by kernel_rfl
set_option maxRecDepth 40000 in
theorem five_w {t : TypeId} (hsh : shapeOf Try.prog t = [(2, 0), (2, 1), (2, 2), (22, 3), (2, 4)]) (hc : Try.prog.cellsOf t = 5) {fuel : Nat} {cs : List Value} {x : DataW H × List MemPlace} (h : DataW.trod enc Try.prog w base spare held fuel t cs = some x) {R : Nat} (hR : ∀ m ∈ x.1.weights Try.prog t, m ≤ R) :
    ∃ a b c v xs e, cs = [.int .i64 a, .int .i64 b, .int .i64 c, v, .int .i64 e] ∧ SeesI w v xs ∧ xs.length * 8 ≤ R := by
  obtain ⟨hl, m, hf⟩ := fields_w hsh (by simp) h hR
  rw [hc] at hl
  obtain ⟨y0, h0, r0⟩ := hf 0 _ _ rfl
  obtain ⟨y1, h1, r1⟩ := hf 1 _ _ rfl
  obtain ⟨y2, h2, r2⟩ := hf 2 _ _ rfl
  obtain ⟨y3, h3, r3⟩ := hf 3 _ _ rfl
  obtain ⟨y4, h4, r4⟩ := hf 4 _ _ rfl
  rw [cI6] at h0 h1 h2 h4
  rw [cWs] at h3
  obtain ⟨a, e0⟩ := i64_cellR under2 h0
  obtain ⟨b, e1⟩ := i64_cellR under2 h1
  obtain ⟨c, e2⟩ := i64_cellR under2 h2
  obtain ⟨v, xs, e3, sv, hn, _⟩ := words_w h3 r3
  obtain ⟨e, e4⟩ := i64_cellR under2 h4
  refine ⟨a, b, c, v, xs, e, ?_, sv, hn⟩
  match cs, hl with
  | [x0, x1, x2, x3, x4], _ =>
    simp at e0 e1 e2 e3 e4
    rw [e0, e1, e2, e3, e4]
set_option maxRecDepth 40000 in
theorem link_open {r : Reach} {b0 : Nat} {v : Value} {d : DataW H} {p : List MemPlace} (hv : Value.okWide Try.prog w r b0 24 v) (h : DataW.Trod enc Try.prog w base spare held 24 v d p) {R : Nat} (hR : ∀ m ∈ d.weights Try.prog 24, m ≤ R) :
    ∃ l : Lk, SeesL w v l ∧ l.sent.length * 8 ≤ R := by
  obtain ⟨fs, hu⟩ := undLk
  obtain ⟨cs, rfl, hsz⟩ := okWide_struct hu hv
  obtain ⟨fuel, hf0⟩ := h
  have hf0' : DataW.trod enc Try.prog w base spare held fuel 24 cs.toList = some (d, p) := hf0
  obtain ⟨a, b, c, v, xs, e, h1, h2, h3⟩ := five_w (x := (d, p)) shapeLk cLk hf0' hR
  refine ⟨⟨a, b, c, xs, e⟩, ⟨v, ?_, h2⟩, h3⟩
  congr 1
  apply Array.toList_inj.1
  exact h1
set_option maxRecDepth 40000 in
theorem pkt_open {r : Reach} {b0 : Nat} {v : Value} {d : DataW H} {p : List MemPlace} (hv : Value.okWide Try.prog w r b0 26 v) (h : DataW.Trod enc Try.prog w base spare held 26 v d p) {R : Nat} (hR : ∀ m ∈ d.weights Try.prog 26, m ≤ R) :
    ∃ l : Pk, SeesP w v l ∧ l.words.length * 8 ≤ R := by
  obtain ⟨fs, hu⟩ := undPk
  obtain ⟨cs, rfl, hsz⟩ := okWide_struct hu hv
  obtain ⟨fuel, hf0⟩ := h
  have hf0' : DataW.trod enc Try.prog w base spare held fuel 26 cs.toList = some (d, p) := hf0
  obtain ⟨a, b, c, v, xs, e, h1, h2, h3⟩ := five_w (x := (d, p)) shapePk cPk hf0' hR
  refine ⟨⟨a, b, c, xs, e⟩, ⟨v, ?_, h2⟩, h3⟩
  congr 1
  apply Array.toList_inj.1
  exact h1
end
end Go.Proofs.Ytbhgffbmeaomkaa.Gr
