/-
  Ends: a region that calls and lays what is answered into a new variable: how it stands, whichever of its operations have been done.
-/
import Derived.Test.YtbhgffbmeaomkaaRGO
import Derived.Test.YtbhgffbmeaomkaaDKo
namespace Go.Proofs.Ytbhgffbmeaomkaa.Gr
open Go.RowKit Go.Sort Lm
set_option linter.unusedVariables false

theorem sees_nil' {w w' : World} {v : Value} (h : SeesI w v []) : SeesI w' v [] := by
  obtain ⟨ao, cap, rfl, hc, _⟩ := h
  exact ⟨ao, cap, rfl, hc, fun k u hu => by simp at hu⟩
theorem sees_lt {w : World} {v : Value} {xs : List Int} (h : SeesI w v xs) : xs = [] ∨ ∀ k, v.ownBlock = some k → k < w.heap.size := by
  by_cases hx : xs = []
  · exact .inl hx
  · refine .inr fun k hk => ?_
    obtain ⟨ao, cap, rfl⟩ := h.slice
    obtain ⟨ad, rfl, hl, _⟩ := h.at 0 (List.length_pos_iff.2 hx)
    have : ad.block = k := by simpa [Value.ownBlock] using hk
    omega
theorem oL_al {a : Act} {w : World} {K : Act → World → Prop} {Q : Exit → Act → World → Prop} {o : Oper} (hop : o.op = Op.alloc 24) (hk : K (a.put o.dst (.pointer (some ⟨w.heap.size, 0, none⟩))) (w.alloc (.cells #[.int .i64 0, .int .i64 0, .int .i64 0, .slice none 0 0, .int .i64 0] 24))) : o.wp Try.prog a w K Q := by
  unfold Oper.wp
  simp [execOp, hop, go_sem]
  exact hk
/-- a slice's words, kept apart from the variable D -/
def Apt (v : Value) (xs : List Int) (D : Nat) : Prop := xs = [] ∨ ∀ k, v.ownBlock = some k → k ≠ D
theorem Apt.st {u : World} {v : Value} {xs : List Int} {D : Nat} (h : SeesI u v xs) (ha : Apt v xs D) (y0 y1 y2 y3 y4 : Value) : SeesI (((((u.setCell ⟨D, 0, none⟩ y0).setCell ⟨D, 1, none⟩ y1).setCell ⟨D, 2, none⟩ y2).setCell ⟨D, 3, none⟩ y3).setCell ⟨D, 4, none⟩ y4) v xs := by
  rcases ha with rfl | hn
  · exact sees_nil' h
  · have hg := gb_all5 u D y0 y1 y2 y3 y4
    obtain ⟨ao, cap, rfl, hc, hk⟩ := h
    refine ⟨ao, cap, rfl, hc, fun k x hx => ?_⟩
    obtain ⟨ad, ha, hl, hcell⟩ := hk k x hx
    refine ⟨ad, ha, Nat.lt_of_lt_of_le hl hg.size, ?_⟩
    rw [← hcell]
    have hB : ad.block ≠ D := hn _ (by rw [ha]; rfl)
    have hblk := hg.block ad.block hl (fun e => hB (by injection e))
    unfold World.cell?
    rw [add_block, hblk]
/-- what a call answered (x3, behind l3), words with it; the new variable (Dn, behind la) and what is laid in it (behind ls) -/
structure IoS (w0 : World) (ss ws : List Int) (res : Array Value) (v1 v2 : Value) (Dn : Nat) (l3 la ls : Bool) (w : World) : Prop where
  b : Below w0.heap.size w0 w
  s1 : l3 = true → SeesI w v1 ss ∧ New w0.heap.size v1
  s2 : l3 = true → SeesI w v2 ws ∧ New w0.heap.size v2
  d : la = true → w0.heap.size ≤ Dn ∧ Dn < w.heap.size
  z : la = true → ls = false → w.heap[Dn]? = some (.cells #[.int .i64 0, .int .i64 0, .int .i64 0, .slice none 0 0, .int .i64 0] 24 (0, 0))
  r : ls = true → w.heap[Dn]? = some (.cells res 24 (0, 0))
  a : l3 = true → la = true → Apt v1 ss Dn ∧ Apt v2 ws Dn
theorem IoS.below {w0 w w' : World} {ss ws : List Int} {res : Array Value} {v1 v2 : Value} {Dn : Nat} {l3 la ls : Bool} (h : IoS w0 ss ws res v1 v2 Dn l3 la ls w) (hb : Below w.heap.size w w') : IoS w0 ss ws res v1 v2 Dn l3 la ls w' :=
  ⟨bt h.b hb, fun e => ⟨(h.s1 e).1.below hb, (h.s1 e).2⟩, fun e => ⟨(h.s2 e).1.below hb, (h.s2 e).2⟩, fun e => ⟨(h.d e).1, Nat.lt_of_lt_of_le (h.d e).2 hb.size⟩, fun e1 e2 => keep hb (h.z e1 e2), fun e => keep hb (h.r e), h.a⟩
theorem IoS.start (w0 : World) (ss ws : List Int) (res : Array Value) (v1 v2 : Value) : IoS w0 ss ws res v1 v2 0 false false false w0.drew :=
  ⟨(Below.refl _ w0).drew, fun e => (by cases e), fun e => (by cases e), fun e => (by cases e), fun e => (by cases e), fun e => (by cases e), fun e => (by cases e)⟩
/-- behind the call -/
theorem IoS.called {w0 w w' : World} {ss ws : List Int} {res res' : Array Value} {v1 v2 v1' v2' : Value} {Dn : Nat} {la : Bool} (h : IoS w0 ss ws res v1 v2 Dn false la false w) (hb : Below w.heap.size w w') (h1 : SeesI w' v1' ss) (n1 : New w.heap.size v1') (h2 : SeesI w' v2' ws) (n2 : New w.heap.size v2') :
    IoS w0 ss ws res' v1' v2' Dn true la false w' :=
  have k := h.below hb
  ⟨k.b, fun _ => ⟨h1, n1.mono h.b.size⟩, fun _ => ⟨h2, n2.mono h.b.size⟩, k.d, k.z, fun e => (by cases e), fun _ e => ⟨.inr fun j hj ej => (by have := n1 j hj; have := (h.d e).2; omega), .inr fun j hj ej => (by have := n2 j hj; have := (h.d e).2; omega)⟩⟩
/-- behind the variable's making -/
theorem IoS.made {w0 w : World} {ss ws : List Int} {res : Array Value} {v1 v2 : Value} {Dn : Nat} {l3 : Bool} (h : IoS w0 ss ws res v1 v2 Dn l3 false false w) :
    IoS w0 ss ws res v1 v2 w.heap.size l3 true false (w.alloc (.cells #[.int .i64 0, .int .i64 0, .int .i64 0, .slice none 0 0, .int .i64 0] 24)) :=
  have k := h.below (box_below w (.cells #[.int .i64 0, .int .i64 0, .int .i64 0, .slice none 0 0, .int .i64 0] 24))
  ⟨k.b, k.s1, k.s2, fun _ => ⟨h.b.size, lt_of_block (heap_new w _)⟩, fun _ _ => heap_new w _, fun e => (by cases e), fun e _ => ⟨(sees_lt (h.s1 e).1).imp id fun f j hj ej => (by have := f j hj; omega), (sees_lt (h.s2 e).1).imp id fun f j hj ej => (by have := f j hj; omega)⟩⟩
/-- behind the store -/
theorem IoS.stored {w0 w : World} {ss ws : List Int} {res : Array Value} {v1 v2 : Value} {Dn : Nat} (h : IoS w0 ss ws res v1 v2 Dn true true false w) (y0 y1 y2 y3 y4 : Value) :
    IoS w0 ss ws #[y0, y1, y2, y3, y4] v1 v2 Dn true true true (((((w.setCell ⟨Dn, 0, none⟩ y0).setCell ⟨Dn, 1, none⟩ y1).setCell ⟨Dn, 2, none⟩ y2).setCell ⟨Dn, 3, none⟩ y3).setCell ⟨Dn, 4, none⟩ y4) :=
  have d := h.d rfl
  have g := gb_all5 w Dn y0 y1 y2 y3 y4
  ⟨h.b.grown g h.b.size (fun k e => by cases e; exact d.1), fun _ => ⟨Apt.st (h.s1 rfl).1 (h.a rfl rfl).1 y0 y1 y2 y3 y4, (h.s1 rfl).2⟩, fun _ => ⟨Apt.st (h.s2 rfl).1 (h.a rfl rfl).2 y0 y1 y2 y3 y4, (h.s2 rfl).2⟩, fun _ => ⟨d.1, Nat.lt_of_lt_of_le d.2 g.size⟩, fun _ e => (by cases e), fun _ => set_all5 (h.z rfl rfl) y0 y1 y2 y3 y4, h.a⟩
end Go.Proofs.Ytbhgffbmeaomkaa.Gr
