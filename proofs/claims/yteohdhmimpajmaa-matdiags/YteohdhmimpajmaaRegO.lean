/-
  A region that draws its order, by what holds whichever of its operations have been done: one operation among them may write into memory, all the others leave values of which something is known. The operations of 'n = append(n, ..)'.
-/
import Derived.Test.YteohdhmimpajmaaMShown
import Derived.Test.YteohdhmimpajmaaFactD
import Derived.Maps.AppendAt
namespace Go.Proofs.Yteohdhmimpajmaa
open Go.RowKit Go.Sort Qm

/-- one operation (s) writes, the others make values of which something is known (T), and memory at most; what is written (U) is known by the slot e; a slot that none has written yet is as it was -/
theorem wp_region_one {P : Program} {id : Nat} {ops : Array Oper} {Q : Exit → Act → World → Prop} {w0 : World} {B : Nat} (hB : B ≤ w0.heap.size) (hm : P.follows .mixedOrders = true) (hlt : ∀ i, i < ops.size → ∀ k ∈ pres ops i, k < i)
    (dst : Nat → Nat) (inj : ∀ i, i < ops.size → ∀ j, j < ops.size → dst i = dst j → i = j) (fr : (Nat → Value) → Act) (T : Nat → Value → World → Prop)
    (hmono : ∀ i v w w', T i v w → Below w.heap.size w w' → T i v w') (vs0 : Nat → Value) (s e : Nat) (U : Value → World → Prop) (hU : ∀ v w w', U v w → Below w.heap.size w w' → U v w')
    (hs : s < ops.size) (he : ∀ i, i < ops.size → dst i = e → i = s ∨ i ∈ pres ops s)
    (hstep : ∀ i, i < ops.size → i ≠ s → ∀ vs w, Below B w0 w → (∀ k ∈ pres ops i, k ≠ s → T k (vs (dst k)) w) → (s ∈ pres ops i → U (vs e) w) → (∀ k, (∀ j, j < ops.size → dst j = k → i ∈ pres ops j) → vs k = vs0 k) →
      wpOp P ops Q i (fun a' w' => ∃ v, a' = fr (fun k => if k = dst i then v else vs k) ∧ T i v w' ∧ Below w.heap.size w w') (fr vs) w)
    (hput : ∀ vs w, Below w0.heap.size w0 w → (∀ k ∈ pres ops s, T k (vs (dst k)) w) →
      wpOp P ops Q s (fun a' w' => ∃ v, a' = fr (fun k => if k = dst s then v else vs k) ∧ U (if e = dst s then v else vs e) w' ∧ Below B w0 w' ∧ ∀ j v, j ≠ s → ¬ s ∈ pres ops j → T j v w → T j v w') (fr vs) w)
    (hend : ∀ vs w, Below B w0 w → (∀ i, i < ops.size → i ≠ s → T i (vs (dst i)) w) → U (vs e) w → Q .normal (fr vs) w) : (Code.region id ops true).wp P Q (fr vs0) w0 := by
  refine wp_region_L hm hlt (fun L a w => ∃ vs, a = fr vs ∧ Below B w0 w ∧ (L s = false → Below w0.heap.size w0 w) ∧ (∀ i, i < ops.size → i ≠ s → L i = true → T i (vs (dst i)) w) ∧ (L s = true → U (vs e) w) ∧ ∀ k, (∀ j, j < ops.size → dst j = k → L j = false) → vs k = vs0 k) ?_ ?_ ?_
  · exact ⟨vs0, rfl, (Below.refl _ _).drew, fun _ => (Below.refl _ _).drew, fun i _ _ h => (by cases h), fun h => (by cases h), fun _ _ => rfl⟩
  · rintro L a w i hi ⟨vs, rfl, hb, hb0, hT, hu, hv⟩ hc hL hp
    have hv' : ∀ v k, (∀ j, j < ops.size → dst j = k → (if j = i then true else L j) = false) → (if k = dst i then v else vs k) = vs0 k := by
      intro v k hk
      have hki : k ≠ dst i := fun h => by have := hk i hi h.symm; simp at this
      rw [if_neg hki]
      exact hv k fun j hj hjk => by
        have h := hk j hj hjk
        by_cases e : j = i
        · subst e; simp at h
        · simpa [e] using h
    by_cases his : i = s
    · subst his
      refine wpOp_mono ?_ (hput vs w (hb0 hL) fun k hk => hT k (Nat.lt_trans (hlt i hi k hk) hi) (fun e => by have := hlt i hi k hk; omega) (hp k hk))
      rintro a' w' ⟨v, rfl, hv1, hb', hk⟩
      refine ⟨_, rfl, hb', fun h => by simp at h, fun j hj hji hjL => ?_, fun _ => hv1, hv' v⟩
      have hd : dst j ≠ dst i := fun h => hji (inj j hj i hi h)
      simp only [if_neg hd]
      simp only [if_neg hji] at hjL
      refine hk j _ hji (fun h => ?_) (hT j hj hji hjL)
      have := hc j hj hjL i h
      rw [hL] at this; cases this
    · refine wpOp_mono ?_ (hstep i hi his vs w hb (fun k hk hks => hT k (Nat.lt_trans (hlt i hi k hk) hi) hks (hp k hk)) (fun hsm => hu (hp s hsm)) (fun k hk => hv k fun j hj hjk => ?_))
      · rintro a' w' ⟨v, rfl, hv1, hb'⟩
        refine ⟨_, rfl, hb.trans (hb'.mono (Nat.le_trans hB hb.size)), fun h => ?_, fun j hj hjs hjL => ?_, fun hLs => ?_, hv' v⟩
        · have hsi : s ≠ i := fun h => his h.symm
          simp only [if_neg hsi] at h
          exact bt (hb0 h) hb'
        · by_cases e : j = i
          · subst e; simp only [if_true]; exact hv1
          · have hd : dst j ≠ dst i := fun h => e (inj j hj i hi h)
            simp only [if_neg hd]
            simp only [if_neg e] at hjL
            exact hmono j _ w w' (hT j hj hjs hjL) hb'
        · have hsi : s ≠ i := fun h => his h.symm
          simp only [if_neg hsi] at hLs
          have hei : e ≠ dst i := fun h => by
            rcases he i hi h.symm with h1 | h1
            · exact his h1
            · have := hc s hs hLs i h1
              rw [hL] at this; cases this
          simp only [if_neg hei]
          exact hU _ w w' (hu hLs) hb'
      · have h1 := hk j hj hjk
        cases hLj : L j with
        | false => rfl
        | true => have := hc j hj hLj i h1; rw [hL] at this; cases this
  · rintro L a w ⟨vs, rfl, hb, _, hT, hu, _⟩ hal
    exact hend vs w hb (fun i hi hs' => hT i hi hs' (hal i hi)) (hu (hal s hs))

theorem own_keep {w w' : World} {base n : Nat} {v : Value} {xs : List Value} (h : w.ownsRow base 33 1 v n xs) (hb : Below w.heap.size w w') : w'.ownsRow base 33 1 v n xs := by
  refine h.kept (gb_below none hb) ?_
  cases hv : v.ownBlock with
  | none => exact .inl rfl
  | some m => exact .inr (fun e => by cases e)

section
variable {a : Act} {w : World} {K : Act → World → Prop} {Q : Exit → Act → World → Prop} {o : Oper}
theorem op_index {s t b k : Nat} (hk : k < 3) (hop : o.op = Op.indexAddr 49 (Operand.tmp s) (Operand.tmp t)) (hs : a.tmps[s]?.getD undef = .pointer (some ⟨b, 0, none⟩)) (ht : a.tmps[t]?.getD undef = .int .i64 k)
    (hK : K (a.put o.dst (.pointer (some ⟨b, k, none⟩))) w) : o.wp Try.prog a w K Q := by
  have i1 : (k : Int) < 3 := by omega
  have i2 : (0 : Int) ≤ (k : Int) := by omega
  unfold Oper.wp
  simp [execOp, hop, go_sem, hs, ht, i1]
  exact hK
theorem op_load8 {s b k : Nat} {x : Int} (hop : o.op = Op.load 48 (Operand.tmp s)) (hs : a.tmps[s]?.getD undef = .pointer (some ⟨b, k, none⟩)) (hc : w.cell? ⟨b, k, none⟩ = some (.int .i8 x))
    (hK : K (a.put o.dst (.int .i8 x)) w) : o.wp Try.prog a w K Q := by
  unfold Oper.wp
  simp [execOp, hop, go_sem, hs, hc]
  exact hK
theorem op_conv8 {s : Nat} {x : Int} (hx : IntKind.i64.wrap x = x) (hop : o.op = Op.convert 48 3 (Operand.tmp s)) (hs : a.tmps[s]?.getD undef = .int .i8 x)
    (hK : K (a.put o.dst (.int .i64 x)) w) : o.wp Try.prog a w K Q := by
  unfold Oper.wp
  simp [execOp, hop, go_sem, hs, hx]
  exact hK
theorem op_mul3 {s t : Nat} {x y z : Int} (hz : x * y = z) (hx : IntKind.i64.wrap z = z) (hop : o.op = Op.binOp BinOp.mul 3 (Operand.tmp s) (Operand.tmp t) 3) (hs : a.tmps[s]?.getD undef = .int .i64 x) (ht : a.tmps[t]?.getD undef = .int .i64 y)
    (hK : K (a.put o.dst (.int .i64 z)) w) : o.wp Try.prog a w K Q := by
  unfold Oper.wp
  simp [execOp, hop, go_sem, hs, ht, hz, hx]
  exact hK
theorem op_mul33 {s : Nat} {x z : Int} (hz : x * 16777216 = z) (hx : IntKind.i64.wrap z = z) (hop : o.op = Op.binOp BinOp.mul 33 (Operand.tmp s) (Operand.const (Value.int IntKind.i64 16777216)) 33) (hs : a.tmps[s]?.getD undef = .int .i64 x)
    (hK : K (a.put o.dst (.int .i64 z)) w) : o.wp Try.prog a w K Q := by
  unfold Oper.wp
  simp [execOp, hop, go_sem, hs, hz, hx]
  exact hK
theorem op_build1 {s : Nat} {q : Int} (hop : o.op = Op.buildSlice 22 1 #[(0, Operand.tmp s)]) (hs : a.tmps[s]?.getD undef = .int .i64 q)
    (hK : K (a.put o.dst (.slice (some ⟨w.heap.size, 0, none⟩) 1 1)) (w.alloc (.cells #[.int .i64 q] 33))) : o.wp Try.prog a w K Q := by
  unfold Oper.wp
  simp [execOp, hop, go_sem, hs]
  exact hK
theorem op_append1 {s x base n X : Nat} {v : Value} {q : Int} {xs : List Value} {i : TypeInfo} (hi : Try.prog.info? 33 = some i) (hz : i.zero = some (.int .i64 0)) (hz1 : i.size = 1) (hz2 : i.bytes = 8)
    (hop : o.op = Op.call { callee := Callee.builtin Builtin.append, args := #[Operand.tmp s, Operand.tmp x], argTypes := #[22, 22] }) (hs : a.tmps[s]?.getD undef = v) (hx : a.tmps[x]?.getD undef = .slice (some ⟨X, 0, none⟩) 1 1)
    (hown : w.ownsRow base 33 1 v n xs) (hc : w.heap[X]? = some (.cells #[.int .i64 q] 33 (0, 0))) (hn : n ≤ 100) (hb : base ≤ w.heap.size)
    (hK : ∀ v' w', w'.ownsRow base 33 1 v' (n + 1) (xs ++ [.int .i64 q]) → w.grownBy w' v.ownBlock → (v'.ownBlock = v.ownBlock ∨ v'.ownBlock = some w.heap.size) → K (a.put o.dst v') w') : o.wp Try.prog a w K Q := by
  have hs' : a.eval (Operand.tmp s) = v := by simp [go_sem, hs]
  have hx' : a.eval (Operand.tmp x) = .slice (some ⟨X, 0, none⟩) 1 1 := by simp [go_sem, hx]
  obtain ⟨v', w', hr, h2, h3, _, h5⟩ := run_append_own_at (P := Try.prog) w base 22 o.type 33 i (.int .i64 0) 1 8 Try.under22 hi hz hz1 hz2 rfl (by decide) v n xs hown ⟨X, 0, none⟩ 1 1 [.int .i64 q] rfl (by
    intro j u hj
    match j, hj with
    | 0, hj => simp at hj; subst hj; simp [World.cell?, hc, Addr.add]) c2_one (by unfold maxLen; omega) (by omega) hb
  unfold Oper.wp execOp
  simp only [hop, resolve, invoke, builtin, Sem.run_bind, Sem.run_pure, Result.andThen_ok, List.map_toArray, List.map_cons, List.map_nil, hs', hx', hr]
  exact hK v' w' h2 h3 h5
end
end Go.Proofs.Yteohdhmimpajmaa
