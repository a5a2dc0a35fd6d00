/-
  Ends: how the code's In stands, from step to step.
-/
import Derived.Test.YtbhgffbmeaomkaaLC
namespace Go.Proofs.Ytbhgffbmeaomkaa.Gr
open Go.RowKit Go.Sort Lm
set_option linter.unusedVariables false

theorem far1 {u : World} {B C k j : Nat} (h : B ≠ C) {x y : Value} (hx : u.cell? ⟨C, j, none⟩ = some x) : (u.setCell ⟨B, k, none⟩ y).cell? ⟨C, j, none⟩ = some x := (World.cell?_setCell_far u ⟨B, k, none⟩ ⟨C, j, none⟩ y h).trans hx
/-- the end's variable (at B), the packet's, the answer's; the words that are kept lie in memory of their own (from Z on) -/
structure InS (w : World) (B Z : Nat) (own other first next : Int) (vs : Value) (ss : List Int) (pcs : Array Value) (u : World) : Prop where
  b : Below B w u
  hB : u.heap[B]? = some (.cells #[.int .i64 own, .int .i64 other, .int .i64 first, vs, .int .i64 next] 24 (0, 0))
  hC : u.heap[B + 1]? = some (.cells pcs 26 (0, 0))
  hD : u.heap[B + 1 + 1]? = some (.cells #[.int .i64 0, .int .i64 0, .int .i64 0, .slice none 0 0, .int .i64 0] 24 (0, 0))
  s : SeesI u vs ss
  nw : New Z vs
  z : Z ≤ u.heap.size
  lt : B + 1 + 1 < Z
  bw : B = w.heap.size
section
variable {w u : World} {B Z : Nat} {own other first next : Int} {vs : Value} {ss : List Int} {pcs : Array Value}
theorem InS.below {u' : World} (h : InS w B Z own other first next vs ss pcs u) (hb : Below u.heap.size u u') : InS w B Z own other first next vs ss pcs u' :=
  ⟨h.b.trans (hb.mono (by have := h.z; have := h.lt; omega)), keep hb h.hB, keep hb h.hC, keep hb h.hD, h.s.below hb, h.nw, Nat.le_trans h.z hb.size, h.lt, h.bw⟩
theorem InS.drew (h : InS w B Z own other first next vs ss pcs u) : InS w B Z own other first next vs ss pcs u.drew := h.below (Below.refl _ _).drew
theorem InS.cB (h : InS w B Z own other first next vs ss pcs u) : u.cell? ⟨B, 0, none⟩ = some (.int .i64 own) ∧ u.cell? ⟨B, 1, none⟩ = some (.int .i64 other) ∧ u.cell? ⟨B, 2, none⟩ = some (.int .i64 first) ∧ u.cell? ⟨B, 3, none⟩ = some vs ∧ u.cell? ⟨B, 4, none⟩ = some (.int .i64 next) := five_cells h.hB
theorem InS.fB (h : InS w B Z own other first next vs ss pcs u) (k : Nat) : u.frozen? ⟨B, k, none⟩ = false := not_frozen5 h.hB k
theorem InS.fD (h : InS w B Z own other first next vs ss pcs u) (k : Nat) : u.frozen? ⟨B + 1 + 1, k, none⟩ = false := not_frozen5 h.hD k
theorem InS.cD (h : InS w B Z own other first next vs ss pcs u) : u.cell? ⟨B + 1 + 1, 0, none⟩ = some (.int .i64 0) ∧ u.cell? ⟨B + 1 + 1, 1, none⟩ = some (.int .i64 0) ∧ u.cell? ⟨B + 1 + 1, 2, none⟩ = some (.int .i64 0) ∧ u.cell? ⟨B + 1 + 1, 3, none⟩ = some (.slice none 0 0) ∧ u.cell? ⟨B + 1 + 1, 4, none⟩ = some (.int .i64 0) := five_cells h.hD
theorem InS.put {w' : World} {own' other' first' next' : Int} {vs' : Value} {ss' : List Int} (h : InS w B Z own other first next vs ss pcs u) (hg : u.grownBy w' (some B))
    (hB' : w'.heap[B]? = some (.cells #[.int .i64 own', .int .i64 other', .int .i64 first', vs', .int .i64 next'] 24 (0, 0))) (hs : SeesI u vs' ss') (hn : New Z vs') : InS w B Z own' other' first' next' vs' ss' pcs w' := by
  have h1 := h.lt
  have h2 := h.z
  exact ⟨h.b.grown hg (by omega) (fun k e => by cases e; exact Nat.le_refl _), hB', (hg.block (B + 1) (by omega) (by simp)).trans h.hC, (hg.block (B + 1 + 1) (by omega) (by simp; omega)).trans h.hD, hs.grown hn hg (fun k e => by cases e; omega), hn, Nat.le_trans h.z hg.size, h.lt, h.bw⟩
theorem InS.set1 (h : InS w B Z own other first next vs ss pcs u) (x : Int) : InS w B Z own x first next vs ss pcs (u.setCell ⟨B, 1, none⟩ (.int .i64 x)) := h.put (gb_setC5 _ _ _ _) (set_five1 h.hB _) h.s h.nw
theorem InS.set2 (h : InS w B Z own other first next vs ss pcs u) (x : Int) : InS w B Z own other x next vs ss pcs (u.setCell ⟨B, 2, none⟩ (.int .i64 x)) := h.put (gb_setC5 _ _ _ _) (set_five2 h.hB _) h.s h.nw
theorem InS.set4 (h : InS w B Z own other first next vs ss pcs u) (x : Int) : InS w B Z own other first x vs ss pcs (u.setCell ⟨B, 4, none⟩ (.int .i64 x)) := h.put (gb_setC5 _ _ _ _) (set_five4 h.hB _) h.s h.nw
theorem InS.set3 (h : InS w B Z own other first next vs ss pcs u) (v' : Value) (ss' : List Int) (hs : SeesI u v' ss') (hn : New Z v') : InS w B Z own other first next v' ss' pcs (u.setCell ⟨B, 3, none⟩ v') := h.put (gb_setC5 _ _ _ _) (set_five3 h.hB _) hs hn
/-- the answer is laid down -/
theorem InS.done (h : InS w B Z own other first next vs ss pcs u) (y0 y1 y2 y3 y4 : Value) :
    (World.heap (((((u.setCell ⟨B + 1 + 1, 0, none⟩ y0).setCell ⟨B + 1 + 1, 1, none⟩ y1).setCell ⟨B + 1 + 1, 2, none⟩ y2).setCell ⟨B + 1 + 1, 3, none⟩ y3).setCell ⟨B + 1 + 1, 4, none⟩ y4))[B + 1 + 1]? = some (.cells #[y0, y1, y2, y3, y4] 24 (0, 0)) ∧
    (∀ v xs, SeesI u v xs → New Z v → SeesI (((((u.setCell ⟨B + 1 + 1, 0, none⟩ y0).setCell ⟨B + 1 + 1, 1, none⟩ y1).setCell ⟨B + 1 + 1, 2, none⟩ y2).setCell ⟨B + 1 + 1, 3, none⟩ y3).setCell ⟨B + 1 + 1, 4, none⟩ y4) v xs) ∧
    Below B w (((((u.setCell ⟨B + 1 + 1, 0, none⟩ y0).setCell ⟨B + 1 + 1, 1, none⟩ y1).setCell ⟨B + 1 + 1, 2, none⟩ y2).setCell ⟨B + 1 + 1, 3, none⟩ y3).setCell ⟨B + 1 + 1, 4, none⟩ y4) := by
  have h1 := h.lt
  have h2 := h.z
  exact ⟨set_all5 h.hD _ _ _ _ _, fun v xs hs hn => hs.grown hn (gb_all5 u (B + 1 + 1) _ _ _ _ _) (fun k e => by cases e; omega), h.b.grown (gb_all5 u (B + 1 + 1) _ _ _ _ _) (by omega) (fun k e => by cases e; omega)⟩
end
end Go.Proofs.Ytbhgffbmeaomkaa.Gr
