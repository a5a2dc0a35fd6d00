/-
  A region that draws its order and neither makes nor writes a variable: each operation leaves a value of which something is known, whatever the order.
-/
import Derived.Test.YteohdhmimpajmaaMShown
namespace Go.Proofs.Yteohdhmimpajmaa
open Go.RowKit Go.Sort Qm

theorem wp_region_vals {P : Program} {id : Nat} {ops : Array Oper} {Q : Exit → Act → World → Prop} {w0 : World} (hm : P.follows .mixedOrders = true) (hlt : ∀ i, i < ops.size → ∀ k ∈ pres ops i, k < i)
    (dst : Nat → Nat) (inj : ∀ i, i < ops.size → ∀ j, j < ops.size → dst i = dst j → i = j) (fr : (Nat → Value) → Act) (T : Nat → Value → World → Prop)
    (hmono : ∀ i v w w', T i v w → Below w.heap.size w w' → T i v w')
    (vs0 : Nat → Value)
    (hstep : ∀ i, i < ops.size → ∀ vs w, Below w0.heap.size w0 w → (∀ k ∈ pres ops i, T k (vs (dst k)) w) →
      wpOp P ops Q i (fun a' w' => ∃ v, a' = fr (fun k => if k = dst i then v else vs k) ∧ T i v w' ∧ Below w.heap.size w w') (fr vs) w)
    (hend : ∀ vs w, Below w0.heap.size w0 w → (∀ i, i < ops.size → T i (vs (dst i)) w) → Q .normal (fr vs) w) : (Code.region id ops true).wp P Q (fr vs0) w0 := by
  refine wp_region_L hm hlt (fun L a w => ∃ vs, a = fr vs ∧ Below w0.heap.size w0 w ∧ ∀ i, i < ops.size → L i = true → T i (vs (dst i)) w) ?_ ?_ ?_
  · exact ⟨vs0, rfl, (Below.refl _ _).drew, fun i _ h => by cases h⟩
  · rintro L a w i hi ⟨vs, rfl, hb, hT⟩ hc hL hp
    refine wpOp_mono ?_ (hstep i hi vs w hb fun k hk => hT k (Nat.lt_trans (hlt i hi k hk) hi) (hp k hk))
    rintro a' w' ⟨v, rfl, hv, hb'⟩
    refine ⟨_, rfl, bt hb hb', fun j hj hjL => ?_⟩
    by_cases e : j = i
    · subst e; simp only [if_true]; exact hv
    · have hd : dst j ≠ dst i := fun h => e (inj j hj i hi h)
      simp only [if_neg hd]
      simp only [if_neg e] at hjL
      exact hmono j _ w w' (hT j hj hjL) hb'
  · rintro L a w ⟨vs, rfl, hb, hT⟩ hall
    exact hend vs w hb fun i hi => hT i hi (hall i hi)

/-- a guarded operation that is wanted -/
theorem wpOp_guard {P : Program} {ops : Array Oper} {Q : Exit → Act → World → Prop} {i : Nat} {K : Act → World → Prop} {a : Act} {w : World} (o : Oper) (h : ops[i]? = some o) (j : Nat) (b : Bool) (hg : o.guard = some (j, b)) (d : Nat) (hd : (ops[j]?).bind (·.dst) = some d)
    (hv : a.tmps[d]? = some (.bool b)) (hw : o.wp P a w K Q) : wpOp P ops Q i K a w := by
  unfold wpOp
  rw [h]
  have : Region.wanted o (yielded ops a.tmps) = true := by
    simp only [Region.wanted, hg]
    simp [yielded, hd, hv]
  simp only [this, if_true]
  exact .inl hw
section
variable {a : Act} {w : World} {K : Act → World → Prop} {Q : Exit → Act → World → Prop} {o : Oper}
theorem op_pick_t {c x : Nat} {y : Operand} {v : Value} (hop : o.op = Op.pick (Operand.tmp c) (Operand.tmp x) y) (hc : a.tmps[c]?.getD undef = .bool true) (hx : a.tmps[x]?.getD undef = v) (hk : K (a.put o.dst v) w) : o.wp Try.prog a w K Q := by
  unfold Oper.wp
  simp [execOp, hop, go_sem, hc, hx]
  exact hk
theorem op_pick_f {c x : Nat} {y : Operand} {v : Value} (hop : o.op = Op.pick (Operand.tmp c) y (Operand.tmp x)) (hc : a.tmps[c]?.getD undef = .bool false) (hx : a.tmps[x]?.getD undef = v) (hk : K (a.put o.dst v) w) : o.wp Try.prog a w K Q := by
  unfold Oper.wp
  simp [execOp, hop, go_sem, hc, hx]
  exact hk
theorem op_not {x : Nat} {b : Bool} (hop : o.op = Op.unOp UnOp.not 4 (Operand.tmp x)) (hx : a.tmps[x]?.getD undef = .bool b) (hk : K (a.put o.dst (.bool (!b))) w) : o.wp Try.prog a w K Q := by
  unfold Oper.wp
  simp [execOp, hop, go_sem, hx]
  exact hk
theorem op_eql4 {x y : Nat} {b : Bool} (hop : o.op = Op.binOp BinOp.eql 4 (Operand.tmp x) (Operand.tmp y) 4) (hx : a.tmps[x]?.getD undef = .bool b) (hy : a.tmps[y]?.getD undef = .bool b) (hk : K (a.put o.dst (.bool true)) w) : o.wp Try.prog a w K Q := by
  unfold Oper.wp
  simp [execOp, hop, go_sem, hx, hy]
  exact hk
theorem op_eql3 {x y : Nat} {n : Int} (hop : o.op = Op.binOp BinOp.eql 3 (Operand.tmp x) (Operand.tmp y) 3) (hx : a.tmps[x]?.getD undef = .int .i64 n) (hy : a.tmps[y]?.getD undef = .int .i64 n) (hk : K (a.put o.dst (.bool true)) w) : o.wp Try.prog a w K Q := by
  unfold Oper.wp
  simp [execOp, hop, go_sem, hx, hy]
  exact hk
theorem op_eql27 {x : Nat} {n : Int} (hop : o.op = Op.binOp BinOp.eql 27 (Operand.tmp x) (Operand.const (.int .i64 n)) 27) (hx : a.tmps[x]?.getD undef = .int .i64 n) (hk : K (a.put o.dst (.bool true)) w) : o.wp Try.prog a w K Q := by
  unfold Oper.wp
  simp [execOp, hop, go_sem, hx]
  exact hk
theorem op_neq27 {x : Nat} {n : Int} (hop : o.op = Op.binOp BinOp.neq 27 (Operand.tmp x) (Operand.const (.int .i64 n)) 27) (hx : a.tmps[x]?.getD undef = .int .i64 n) (hk : K (a.put o.dst (.bool false)) w) : o.wp Try.prog a w K Q := by
  unfold Oper.wp
  simp [execOp, hop, go_sem, hx]
  exact hk
end
end Go.Proofs.Yteohdhmimpajmaa
