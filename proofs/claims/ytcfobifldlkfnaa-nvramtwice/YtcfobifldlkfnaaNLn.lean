/-
  How long slots are behind a record; what the statements' heads have in common.
-/
import Derived.Test.YtcfobifldlkfnaaNSh
import Derived.Test.YtcfobifldlkfnaaNOp
namespace Go.Proofs.Ytcfobifldlkfnaa.Gr
open Go.RowKit Go.Sort Qm Nm
set_option linter.unusedVariables false
namespace Nm
theorem put_len {s : Nv} {t : Bool} {l : List Int} {k : Int} (h1 : s.a.length ≤ 1000) (h2 : s.b.length ≤ 1000) (h3 : l.length ≤ 1000) : (putS s t l k).a.length ≤ 1000 ∧ (putS s t l k).b.length ≤ 1000 := by
  unfold putS
  cases t
  · exact ⟨h3, h2⟩
  · exact ⟨h1, h3⟩
theorem torn_len {s : Nv} {ws : List Int} {D : Int} (h1 : s.a.length ≤ 1000) (h2 : s.b.length ≤ 1000) (h3 : ws.length ≤ 999) : (tornS s ws D).a.length ≤ 1000 ∧ (tornS s ws D).b.length ≤ 1000 := by
  have hr : (recS s ws).length ≤ 1000 := by show ws.length + 1 ≤ 1000; omega
  have ho : (oldS s).length ≤ 1000 := by unfold oldS; split <;> assumption
  unfold tornS
  split
  · exact ⟨h1, h2⟩
  · split
    · exact ⟨h1, h2⟩
    · split
      · exact put_len h1 h2 ho
      · split
        · exact put_len h1 h2 (by rw [List.length_take]; omega)
        · exact put_len h1 h2 hr
theorem write_len {s : Nv} {ws : List Int} (h1 : s.a.length ≤ 1000) (h2 : s.b.length ≤ 1000) (h3 : ws.length ≤ 999) : (writeS s ws).a.length ≤ 1000 ∧ (writeS s ws).b.length ≤ 1000 := by
  have := torn_len (D := 3 + (ws.length : Int)) h1 h2 h3
  rw [torn_write s ws _ (Int.le_refl _)] at this
  exact this
theorem few_yes {s : Nv} {ws : List Int} (h : fewN s ws = true) : s.a.length ≤ 900 ∧ s.b.length ≤ 900 ∧ ws.length ≤ 900 := by
  unfold fewN at h
  have := of_decide_eq_true h
  omega
end Nm
/-- a boxed store, with all that is told of it over what comes behind -/
structure Bx (w W : World) (B : Nat) (va vb' : Value) (s : Nv) : Prop where
  at' : w.heap.size = B
  below : Below B w W
  cells : ∀ u, Below W.heap.size W u → u.heap[B]? = some (.cells #[va, .int .i64 s.c, vb', .int .i64 s.d] 27 (0, 0))
  sees : ∀ u, Below W.heap.size W u → SeesN u (.agg #[va, .int .i64 s.c, vb', .int .i64 s.d]) s
theorem bx_mk (w : World) (va vb' : Value) (s : Nv) (sa : SeesI w va s.a) (sb : SeesI w vb' s.b) : Bx w (w.alloc (.cells #[va, .int .i64 s.c, vb', .int .i64 s.d] 27)) w.heap.size va vb' s :=
  ⟨rfl, box_below w _, fun u h => keep h (heap_new w _), fun u h => ⟨_, _, rfl, (sa.below (box_below w _)).below h, (sb.below (box_below w _)).below h⟩⟩
theorem Bx.fin {w W u : World} {B : Nat} {va vb' : Value} {s : Nv} (h : Bx w W B va vb' s) (hb : Below W.heap.size W u) : Below B w u := h.below.trans (hb.mono (by have := h.below.size; have := h.at'; omega))
end Go.Proofs.Ytcfobifldlkfnaa.Gr
