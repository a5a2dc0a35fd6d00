/-
  What LinkTells takes, opened.
-/
import Derived.Test.YtbhgffbmeaomkaaLOp
namespace Go.Proofs.Ytbhgffbmeaomkaa.Gr
open Go.ChangeShapes Go.WideShapes Go.ChangeAt Go.RowKit Lm
set_option linter.unusedVariables false
section
variable {H : Type} {enc : TypeId × Value → H} {w : World} {base : Nat} {spare : Nat → Bool} {held : Bool}
theorem shapeTl : shapeOf Try.prog 28 = [(24, 0), (24, 5), (26, 10), (2, 15)] := by kernel_rfl
theorem cTl : Try.prog.cellsOf 28 = 16 := by kernel_rfl
theorem undTl : ∃ fs, Try.prog.underlying 28 = some (.struct fs) := by
  refine ⟨((Try.prog.underlying 28).getD .bool |> fun d => match d with | .struct fs => fs | _ => #[]), ?_⟩
  kernel_rfl
theorem list16 {α : Type} : ∀ (cs : List α), cs.length = 16 → ∃ x0 x1 x2 x3 x4 x5 x6 x7 x8 x9 x10 x11 x12 x13 x14 x15, cs = [x0, x1, x2, x3, x4, x5, x6, x7, x8, x9, x10, x11, x12, x13, x14, x15]
  | [x0, x1, x2, x3, x4, x5, x6, x7, x8, x9, x10, x11, x12, x13, x14, x15], _ => ⟨x0, x1, x2, x3, x4, x5, x6, x7, x8, x9, x10, x11, x12, x13, x14, x15, rfl⟩
set_option maxRecDepth 40000 in
theorem tells_open {r : Reach} {b0 : Nat} {v : Value} {d : DataW H} {p : List MemPlace} (hv : Value.okWide Try.prog w r b0 28 v) (h : DataW.Trod enc Try.prog w base spare held 28 v d p) {R : Nat} (hR : ∀ m ∈ d.weights Try.prog 28, m ≤ R) :
    ∃ (l m : Lk) (q : Pk) (x : Int), (∃ vl vm vp, v = .agg #[.int .i64 l.own, .int .i64 l.other, .int .i64 l.first, vl, .int .i64 l.next, .int .i64 m.own, .int .i64 m.other, .int .i64 m.first, vm, .int .i64 m.next, .int .i64 q.frm, .int .i64 q.to, .int .i64 q.place, vp, .int .i64 q.wait, .int .i64 x] ∧ SeesI w vl l.sent ∧ SeesI w vm m.sent ∧ SeesI w vp q.words) ∧ l.sent.length * 8 ≤ R ∧ m.sent.length * 8 ≤ R ∧ q.words.length * 8 ≤ R := by
  obtain ⟨fs, hu⟩ := undTl
  obtain ⟨cs, rfl, hsz⟩ := okWide_struct hu hv
  obtain ⟨fuel, hf0⟩ := h
  have hf0' : DataW.trod enc Try.prog w base spare held fuel 28 cs.toList = some (d, p) := hf0
  obtain ⟨hl, m, hf⟩ := fields_w (x := (d, p)) shapeTl (by simp) hf0' hR
  rw [cTl] at hl
  obtain ⟨y0, h0, r0⟩ := hf 0 _ _ rfl
  obtain ⟨y1, h1, r1⟩ := hf 1 _ _ rfl
  obtain ⟨y2, h2, r2⟩ := hf 2 _ _ rfl
  obtain ⟨y3, h3, r3⟩ := hf 3 _ _ rfl
  rw [cLk] at h0 h1
  rw [cPk] at h2
  rw [cI6] at h3
  obtain ⟨a0, b0, c0, v0, xs0, e0, h10, h20, h30⟩ := five_w shapeLk cLk h0 r0
  obtain ⟨a1, b1, c1, v1, xs1, e1, h11, h21, h31⟩ := five_w shapeLk cLk h1 r1
  obtain ⟨a2, b2, c2, v2, xs2, e2, h12, h22, h32⟩ := five_w shapePk cPk h2 r2
  obtain ⟨k, h13⟩ := i64_cellR under2 h3
  refine ⟨⟨a0, b0, c0, xs0, e0⟩, ⟨a1, b1, c1, xs1, e1⟩, ⟨a2, b2, c2, xs2, e2⟩, k, ⟨v0, v1, v2, ?_, h20, h21, h22⟩, h30, h31, h32⟩
  congr 1
  apply Array.toList_inj.1
  generalize cs.toList = l at h10 h11 h12 h13 hl ⊢
  clear h0 h1 h2 h3 r0 r1 r2 r3 hf hf0 hf0' hsz hv hR
  obtain ⟨x0, x1, x2, x3, x4, x5, x6, x7, x8, x9, x10, x11, x12, x13, x14, x15, rfl⟩ := list16 l hl
  simp at h10 h11 h12 h13
  obtain ⟨rfl, rfl, rfl, rfl, rfl⟩ := h10
  obtain ⟨rfl, rfl, rfl, rfl, rfl⟩ := h11
  obtain ⟨rfl, rfl, rfl, rfl, rfl⟩ := h12
  subst h13
  rfl
end
end Go.Proofs.Ytbhgffbmeaomkaa.Gr
