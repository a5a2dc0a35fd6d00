/- Parts of the proof. -/
import Derived.Test.YtoefekkdjcflmaaGreatDoorM08
namespace Go.Proofs.YtoefekkdjcflmaaGreatDoor
open Go.RowKit Go.Sort Qm
theorem wpOp_want {P : Program} {ops : Array Oper} {Q : Exit → Act → World → Prop} {i : Nat} {K : Act → World → Prop} {a : Act} {w : World} (o : Oper) (h : ops[i]? = some o) (j : Nat) (b : Bool) (hg : o.guard = some (j, b)) (d : Nat) (hd : (ops[j]?).bind (·.dst) = some d)
    (hv : a.tmps[d]? = some (.bool b)) (hw : o.wp P a w K Q) : wpOp P ops Q i K a w := by
  unfold wpOp
  rw [h]
  have : Region.wanted o (yielded ops a.tmps) = true := by
    simp only [Region.wanted, hg]
    simp [yielded, hd, hv]
  simp only [this, if_true]
  exact .inl hw
theorem wpOp_skip {P : Program} {ops : Array Oper} {Q : Exit → Act → World → Prop} {i : Nat} {K : Act → World → Prop} {a : Act} {w : World} (o : Oper) (h : ops[i]? = some o) (j : Nat) (b : Bool) (hg : o.guard = some (j, b)) (d : Nat) (hd : (ops[j]?).bind (·.dst) = some d)
    (hv : a.tmps[d]? = some (.bool (!b))) (hk : K (a.put o.dst undef) w) : wpOp P ops Q i K a w := by
  unfold wpOp
  rw [h]
  have : Region.wanted o (yielded ops a.tmps) = false := by
    simp only [Region.wanted, hg]
    cases b <;> simp [yielded, hd, hv]
  simp only [this, if_false, Bool.false_eq_true]
  exact hk
theorem put_mat {w : World} {b : Nat} {x y z x' y' z' : Value} {t : TypeId} (h : w.heap[b]? = some (.cells #[x, y, z] t (0, 0))) :
    (((w.setCell ⟨b, 0, none⟩ x').setCell ⟨b, 1, none⟩ y').setCell ⟨b, 2, none⟩ z').heap[b]? = some (.cells #[x', y', z'] t (0, 0)) := by
  have h1 := heap_setCell_same w b 0 #[x, y, z] t x' h
  have h2 := heap_setCell_same _ b 1 _ t y' h1
  exact heap_setCell_same _ b 2 _ t z' h2
theorem Sees.set' {w : World} {v : Value} {xs : List Int} (h : Sees w v xs) {a : Addr} (ha : ∀ k, v.ownBlock = some k → k ≠ a.block) (u : Value) : Sees (w.setCell a u) v xs := by
  obtain ⟨ao, cap, hv, hc⟩ := h
  refine ⟨ao, cap, hv, fun k hk => ?_⟩
  obtain ⟨ad, rfl, hl, hcell⟩ := hc k hk
  subst hv
  have h1 : ad.block ≠ a.block := ha ad.block rfl
  refine ⟨ad, rfl, by simpa [World.setCell] using hl, ?_⟩
  rw [World.cell?_of_block (w := w) (Below.heap_setCell _ _ _ _ (by rw [add_block]; exact h1))]; exact hcell
theorem Sees.lt {w : World} {v : Value} {xs : List Int} (h : Sees w v xs) (h0 : 0 < xs.length) : ∀ k, v.ownBlock = some k → k < w.heap.size := by
  obtain ⟨ao, cap, rfl, hc⟩ := h
  obtain ⟨ad, rfl, hl, _⟩ := hc 0 h0
  intro k hk
  cases hk
  exact hl
section
variable {a : Act} {w : World} {K : Act → World → Prop} {Q : Exit → Act → World → Prop} {o : Oper}
theorem op_alloc24 (hop : o.op = Op.alloc 29) (hk : K (a.put o.dst (.pointer (some ⟨w.heap.size, 0, none⟩))) (w.alloc (.cells #[.int .i64 0, .int .i64 0, .slice none 0 0] 29))) : o.wp Tryz.prog a w K Q := by
  unfold Oper.wp
  simp [execOp, hop, go_sem]
  exact hk
theorem op_store24 {p f b : Nat} {r c : Int} {ao : Option Addr} {n cap : Nat} {x y z : Value} (hd : o.dst = none) (hop : o.op = Op.store 29 (Operand.tmp p) (Operand.tmp f)) (hp : a.tmps[p]?.getD undef = .pointer (some ⟨b, 0, none⟩))
    (hf : a.tmps[f]?.getD undef = .agg #[.int .i64 r, .int .i64 c, .slice ao n cap]) (hb : w.heap[b]? = some (.cells #[x, y, z] 29 (0, 0)))
    (hk : K a (((w.setCell ⟨b, 0, none⟩ (.int .i64 r)).setCell ⟨b, 1, none⟩ (.int .i64 c)).setCell ⟨b, 2, none⟩ (.slice ao n cap))) : o.wp Tryz.prog a w K Q := by
  obtain ⟨c0, c1, c2, f0, f1, f2⟩ := mat_cells hb
  unfold Oper.wp
  simp [execOp, hop, go_sem, hp, hf, c0, c1, c2, f0, f1, f2, hd]
  exact hk
theorem op_move {s : Nat} {v : Value} (hop : o.op = Op.move (Operand.tmp s)) (hs : a.tmps[s]?.getD undef = v) (hk : K (a.put o.dst v) w) : o.wp Tryz.prog a w K Q := by
  unfold Oper.wp
  simp [execOp, hop, go_sem, hs]
  exact hk
theorem op_assign {s : Nat} {v : Value} (hop : o.op = Op.assign (Operand.tmp s)) (hs : a.tmps[s]?.getD undef = v) (hk : K (a.put o.dst v) w) : o.wp Tryz.prog a w K Q := by
  unfold Oper.wp
  simp [execOp, hop, go_sem, hs]
  exact hk
theorem op_extract {s i : Nat} {vs : Array Value} {v : Value} (hop : o.op = Op.extract (Operand.tmp s) i) (hs : a.tmps[s]?.getD undef = .tuple vs) (hv : vs[i]? = some v) (hk : K (a.put o.dst v) w) : o.wp Tryz.prog a w K Q := by
  unfold Oper.wp
  simp [execOp, hop, go_sem, hs, hv]
  exact hk
theorem op_call1 {f s : Nat} {v : Value} {ts : Array TypeId} {R : Ending → World → Prop} (hF : ∀ (args : Array Value) (a : World), Sem.run Tryz.prog (callFunc f args) a = Result.ok (Next.enter f args) a) (hop : o.op = Op.call { callee := Callee.value (Operand.func f), args := #[Operand.tmp s], argTypes := ts }) (hs : a.tmps[s]?.getD undef = v)
    (hc : Calls Tryz.prog f #[v] w R) (hk : ∀ e w', R e w' → ∃ x, e = .returned x ∧ K (a.put o.dst x) w') : o.wp Tryz.prog a w K Q := by
  unfold Oper.wp
  simp [execOp, hop, go_sem, hs, hF]
  refine hc.mono ?_
  intro e w' h
  obtain ⟨x, rfl, hx⟩ := hk e w' h
  exact hx
theorem op_call2 {f s t : Nat} {v u : Value} {ts : Array TypeId} {R : Ending → World → Prop} (hF : ∀ (args : Array Value) (a : World), Sem.run Tryz.prog (callFunc f args) a = Result.ok (Next.enter f args) a) (hop : o.op = Op.call { callee := Callee.value (Operand.func f), args := #[Operand.tmp s, Operand.tmp t], argTypes := ts }) (hs : a.tmps[s]?.getD undef = v) (ht : a.tmps[t]?.getD undef = u)
    (hc : Calls Tryz.prog f #[v, u] w R) (hk : ∀ e w', R e w' → ∃ x, e = .returned x ∧ K (a.put o.dst x) w') : o.wp Tryz.prog a w K Q := by
  unfold Oper.wp
  simp [execOp, hop, go_sem, hs, ht, hF]
  refine hc.mono ?_
  intro e w' h
  obtain ⟨x, rfl, hx⟩ := hk e w' h
  exact hx
theorem op_loadM {s b f : Nat} {R c : Int} {ao : Option Addr} {n cap : Nat} (hop : o.op = Op.load 29 (Operand.tmp s)) (he : a.tmps[s]?.getD undef = .pointer (some ⟨b, f, none⟩)) (c0 : w.cell? ⟨b, f, none⟩ = some (.int .i64 R)) (c1 : w.cell? ⟨b, f + 1, none⟩ = some (.int .i64 c)) (c2 : w.cell? ⟨b, f + 2, none⟩ = some (.slice ao n cap))
    (hk : K (a.put o.dst (.agg #[.int .i64 R, .int .i64 c, .slice ao n cap])) w) : o.wp Tryz.prog a w K Q := by
  unfold Oper.wp
  simp [execOp, hop, go_sem, he, c0, c1, c2]
  exact hk
theorem op_const {v : Value} (hop : o.op = Op.assign (Operand.const v)) (hk : K (a.put o.dst v) w) : o.wp Tryz.prog a w K Q := by
  unfold Oper.wp
  simp [execOp, hop, go_sem]
  exact hk
theorem op_buildT {s t : Nat} {R C R' C' : Int} {ao bo : Option Addr} {n cap m bcap : Nat} (hop : o.op = Op.build 31 #[(0, Operand.tmp s), (1, Operand.tmp t)]) (hs : a.tmps[s]?.getD undef = .agg #[.int .i64 R, .int .i64 C, .slice ao n cap]) (ht : a.tmps[t]?.getD undef = .agg #[.int .i64 R', .int .i64 C', .slice bo m bcap])
    (hk : K (a.put o.dst (.agg #[.int .i64 R, .int .i64 C, .slice ao n cap, .int .i64 R', .int .i64 C', .slice bo m bcap])) w) : o.wp Tryz.prog a w K Q := by
  unfold Oper.wp
  simp [execOp, hop, go_sem, hs, ht]
  exact hk
theorem op_storeT {p f b : Nat} {R C R' C' : Int} {ao bo : Option Addr} {n cap m bcap : Nat} {x0 x1 x2 x3 x4 x5 : Value} (hd : o.dst = none) (hop : o.op = Op.store 31 (Operand.tmp p) (Operand.tmp f)) (hp : a.tmps[p]?.getD undef = .pointer (some ⟨b, 0, none⟩))
    (hf : a.tmps[f]?.getD undef = .agg #[.int .i64 R, .int .i64 C, .slice ao n cap, .int .i64 R', .int .i64 C', .slice bo m bcap]) (hb : w.heap[b]? = some (.cells #[x0, x1, x2, x3, x4, x5] 31 (0, 0)))
    (hk : K a ((((((w.setCell ⟨b, 0, none⟩ (.int .i64 R)).setCell ⟨b, 1, none⟩ (.int .i64 C)).setCell ⟨b, 2, none⟩ (.slice ao n cap)).setCell ⟨b, 3, none⟩ (.int .i64 R')).setCell ⟨b, 4, none⟩ (.int .i64 C')).setCell ⟨b, 5, none⟩ (.slice bo m bcap))) : o.wp Tryz.prog a w K Q := by
  have c : w.cell? ⟨b, 0, none⟩ = some x0 ∧ w.cell? ⟨b, 1, none⟩ = some x1 ∧ w.cell? ⟨b, 2, none⟩ = some x2 ∧ w.cell? ⟨b, 3, none⟩ = some x3 ∧ w.cell? ⟨b, 4, none⟩ = some x4 ∧ w.cell? ⟨b, 5, none⟩ = some x5 := by simp [World.cell?, hb]
  have f' : w.frozen? ⟨b, 0, none⟩ = false ∧ w.frozen? ⟨b, 1, none⟩ = false ∧ w.frozen? ⟨b, 2, none⟩ = false ∧ w.frozen? ⟨b, 3, none⟩ = false ∧ w.frozen? ⟨b, 4, none⟩ = false ∧ w.frozen? ⟨b, 5, none⟩ = false := by simp [World.frozen?, hb]
  obtain ⟨c0, c1, c2, c3, c4, c5⟩ := c
  obtain ⟨f0, f1, f2, f3, f4, f5⟩ := f'
  unfold Oper.wp
  simp [execOp, hop, go_sem, hp, hf, c0, c1, c2, c3, c4, c5, f0, f1, f2, f3, f4, f5, hd]
  exact hk
theorem op_fieldT {s b f : Nat} {i : Nat} (hi : i < 2) (hop : o.op = Op.fieldAddr 31 (Operand.tmp s) i) (he : a.tmps[s]?.getD undef = .pointer (some ⟨b, f, none⟩)) (hk : K (a.put o.dst (.pointer (some ⟨b, f + 3 * i, none⟩))) w) : o.wp Tryz.prog a w K Q := by
  unfold Oper.wp
  rcases (by omega : i = 0 ∨ i = 1) with rfl | rfl
  · simp [execOp, hop, go_sem, he]
    exact hk
  · simp [execOp, hop, go_sem, he]
    exact hk
end
theorem put_six {w : World} {b : Nat} {x0 x1 x2 x3 x4 x5 y0 y1 y2 y3 y4 y5 : Value} {t : TypeId} (h : w.heap[b]? = some (.cells #[x0, x1, x2, x3, x4, x5] t (0, 0))) :
    ((((((w.setCell ⟨b, 0, none⟩ y0).setCell ⟨b, 1, none⟩ y1).setCell ⟨b, 2, none⟩ y2).setCell ⟨b, 3, none⟩ y3).setCell ⟨b, 4, none⟩ y4).setCell ⟨b, 5, none⟩ y5).heap[b]? = some (.cells #[y0, y1, y2, y3, y4, y5] t (0, 0)) := by
  have h1 := heap_setCell_same w b 0 _ t y0 h
  have h2 := heap_setCell_same _ b 1 _ t y1 h1
  have h3 := heap_setCell_same _ b 2 _ t y2 h2
  have h4 := heap_setCell_same _ b 3 _ t y3 h3
  have h5 := heap_setCell_same _ b 4 _ t y4 h4
  have h6 := heap_setCell_same _ b 5 _ t y5 h5
  rw [h6]; rfl
theorem below_six {B D : Nat} {w a : World} (h : Below B w a) (hD : B ≤ D) (y0 y1 y2 y3 y4 y5 : Value) : Below B w ((((((a.setCell ⟨D, 0, none⟩ y0).setCell ⟨D, 1, none⟩ y1).setCell ⟨D, 2, none⟩ y2).setCell ⟨D, 3, none⟩ y3).setCell ⟨D, 4, none⟩ y4).setCell ⟨D, 5, none⟩ y5) :=
  (((((h.setCell hD y0).setCell hD y1).setCell hD y2).setCell hD y3).setCell hD y4).setCell hD y5
theorem Sees.six {w : World} {v : Value} {xs : List Int} (h : Sees w v xs) {D : Nat} (hn : ∀ k, v.ownBlock = some k → k ≠ D) (y0 y1 y2 y3 y4 y5 : Value) : Sees ((((((w.setCell ⟨D, 0, none⟩ y0).setCell ⟨D, 1, none⟩ y1).setCell ⟨D, 2, none⟩ y2).setCell ⟨D, 3, none⟩ y3).setCell ⟨D, 4, none⟩ y4).setCell ⟨D, 5, none⟩ y5) v xs :=
  (((((h.set' (a := ⟨D, 0, none⟩) hn y0).set' (a := ⟨D, 1, none⟩) hn y1).set' (a := ⟨D, 2, none⟩) hn y2).set' (a := ⟨D, 3, none⟩) hn y3).set' (a := ⟨D, 4, none⟩) hn y4).set' (a := ⟨D, 5, none⟩) hn y5
structure Mod (M : Nat → Prop) (w w' : World) : Prop where
  os : w'.os = w.os
  tape : w'.tape = w.tape
  output : w'.output = w.output
  size : w.heap.size ≤ w'.heap.size
  block : ∀ k, k < w.heap.size → ¬ M k → w'.heap[k]? = w.heap[k]?
theorem Mod.refl (M : Nat → Prop) (w : World) : Mod M w w := ⟨rfl, rfl, rfl, Nat.le_refl _, fun _ _ _ => rfl⟩
theorem Mod.mono {M M' : Nat → Prop} {w w' : World} (h : Mod M w w') (hM : ∀ k, k < w.heap.size → M k → M' k) : Mod M' w w' := ⟨h.os, h.tape, h.output, h.size, fun k hk hn => h.block k hk fun hm => hn (hM k hk hm)⟩
theorem Mod.trans {M : Nat → Prop} {a b c : World} (h : Mod M a b) (k : Mod M b c) : Mod M a c :=
  ⟨k.os.trans h.os, k.tape.trans h.tape, k.output.trans h.output, Nat.le_trans h.size k.size, fun i hi hn => (k.block i (Nat.lt_of_lt_of_le hi h.size) hn).trans (h.block i hi hn)⟩
theorem Mod.of {M : Nat → Prop} {w w' : World} (h : Below w.heap.size w w') : Mod M w w' := ⟨h.os, h.tape, h.output, h.size, fun k hk _ => h.block k hk⟩
theorem Mod.ofGb {N : Nat} {w w' : World} (h : w.grownBy w' (some N)) : Mod (fun k => k = N) w w' := ⟨h.os, h.tape, h.output, h.size, fun k hk hn => h.block k hk fun e => hn (by injection e)⟩
theorem Mod.gb {N : Nat} {w w' : World} (h : Mod (fun k => k = N) w w') : w.grownBy w' (some N) := ⟨h.os, h.tape, h.output, h.size, fun k hk hn => h.block k hk fun e => hn (by rw [e])⟩
theorem Mod.below {M : Nat → Prop} {B : Nat} {w w' : World} (h : Mod M w w') (hB : B ≤ w.heap.size) (hM : ∀ k, M k → B ≤ k) : Below B w w' :=
  ⟨h.os, h.tape, h.output, h.size, fun k hk => h.block k (Nat.lt_of_lt_of_le hk hB) fun hm => by have := hM k hm; omega⟩
theorem wp_region_own {P : Program} {id : Nat} {ops : Array Oper} {Q : Exit → Act → World → Prop} {w0 : World} (hm : P.follows .mixedOrders = true) (hlt : ∀ i, i < ops.size → ∀ k ∈ pres ops i, k < i)
    (dst : Nat → Nat) (inj : ∀ i, i < ops.size → ∀ j, j < ops.size → dst i = dst j → i = j) (fr : (Nat → Value) → Act) (vs0 : Nat → Value) (aux : Nat → Nat) (haux : ∀ i, i < ops.size → aux i = i ∨ aux i ∈ pres ops i)
    (Mo : Nat → Prop) (hMo : ∀ k, Mo k → k < w0.heap.size) (wr : Nat → Nat → Prop) (hwr : ∀ i k, wr i k → Mo k) (hwr1 : ∀ i j k, wr i k → wr j k → i = j)
    (kill : Nat → Nat → Prop) (hk1 : ∀ s j, kill s j → s < ops.size ∧ j ∈ pres ops s) (hk2 : ∀ s j, kill s j → ∀ i, i < ops.size → j ∈ pres ops i → i = s)
    (T : Nat → Value → Value → (Nat → Prop) → World → Prop)
    (hstab : ∀ i v u S w w', i < ops.size → T i v u S w → Mod Mo w0 w → Mod Mo w0 w' → w.heap.size ≤ w'.heap.size → (∀ k, S k → w'.heap[k]? = w.heap[k]?) → T i v u S w')
    (hstep : ∀ i, i < ops.size → ∀ vs w (S : Nat → Nat → Prop), Mod Mo w0 w → (∀ k ∈ pres ops i, T k (vs (dst k)) (vs (dst (aux k))) (S k) w) → (∀ k ∈ pres ops i, ∀ b, S k b → b < w.heap.size ∧ ¬ wr i b) →
      (∀ k, Mo k → (∀ j, wr j k → j < ops.size ∧ (j = i ∨ i ∈ pres ops j)) → w.heap[k]? = w0.heap[k]?) → (∀ j, kill i j → ∀ k ∈ pres ops i, k ≠ j → ∀ b, S j b → ¬ S k b) → (∀ k, (∀ j, j < ops.size → dst j = k → i ∈ pres ops j ∨ j = i) → vs k = vs0 k) →
      wpOp P ops Q i (fun a' w' => ∃ v S', a' = fr (fun k => if k = dst i then v else vs k) ∧ T i v (if aux i = i then v else vs (dst (aux i))) S' w' ∧
        (∀ b, S' b → (∃ k ∈ pres ops i, S k b) ∨ (w.heap.size ≤ b ∧ b < w'.heap.size) ∨ wr i b) ∧ ((∃ s, kill s i) → ∀ b, S' b → w.heap.size ≤ b ∨ wr i b) ∧ Mod (fun b => wr i b ∨ ∃ j, kill i j ∧ S j b) w w') (fr vs) w)
    (hend : ∀ vs w (S : Nat → Nat → Prop), Mod Mo w0 w → (∀ i, i < ops.size → (∀ s, ¬ kill s i) → T i (vs (dst i)) (vs (dst (aux i))) (S i) w) → Q .normal (fr vs) w) : (Code.region id ops true).wp P Q (fr vs0) w0 := by
  refine wp_region_L hm hlt (fun L a w => ∃ vs, ∃ S : Nat → Nat → Prop, a = fr vs ∧ Mod Mo w0 w ∧ (∀ i, i < ops.size → L i = true → (∀ s, kill s i → L s = false) → T i (vs (dst i)) (vs (dst (aux i))) (S i) w) ∧
    (∀ i, i < ops.size → L i = true → ∀ b, S i b → b < w.heap.size) ∧ (∀ i, i < ops.size → L i = true → ∀ b, S i b → b < w0.heap.size → ∃ j, L j = true ∧ wr j b) ∧
    (∀ k, Mo k → (∀ i, wr i k → L i = false) → w.heap[k]? = w0.heap[k]?) ∧
    (∀ j, j < ops.size → L j = true → (∃ s, kill s j) → (∀ s, kill s j → L s = false) → ∀ i, i < ops.size → L i = true → i ≠ j → ∀ b, S j b → ¬ S i b) ∧
    (∀ k, (∀ j, j < ops.size → dst j = k → L j = false) → vs k = vs0 k)) ?_ ?_ ?_
  · exact ⟨vs0, fun _ _ => False, rfl, Mod.of (Below.refl _ _).drew, fun i _ h => (by cases h), fun i _ h => (by cases h), fun i _ h => (by cases h), fun _ _ _ => rfl, fun i _ h => (by cases h), fun _ _ => rfl⟩
  · rintro L a w i hi ⟨vs, S, rfl, hb, hT, hlt', hold, hmo, hdis, hv⟩ hc hL hp
    have hin : ∀ k ∈ pres ops i, k < ops.size := fun k hk => Nat.lt_trans (hlt i hi k hk) hi
    have hlive : ∀ k ∈ pres ops i, ∀ s, kill s k → L s = false := fun k hk s hs => by rw [← hk2 s k hs i hi hk]; exact hL
    have hnw : ∀ j, j < ops.size → L j = true → ∀ b, S j b → ¬ wr i b := fun j hj hLj b hb1 hb2 => by
      obtain ⟨j', h1, h2⟩ := hold j hj hLj b hb1 (hMo b (hwr i b hb2))
      rw [hwr1 j' i b h2 hb2, hL] at h1; cases h1
    refine wpOp_mono ?_ (hstep i hi vs w S hb (fun k hk => hT k (hin k hk) (hp k hk) (hlive k hk)) (fun k hk b hSb => ⟨hlt' k (hin k hk) (hp k hk) b hSb, hnw k (hin k hk) (hp k hk) b hSb⟩) (fun k hk hw => hmo k hk fun j hj => by
        rcases (hw j hj).2 with h1 | h1
        · rw [h1]; exact hL
        · cases hLj : L j with
          | false => rfl
          | true => have := hc j (hw j hj).1 hLj i h1; rw [hL] at this; cases this)
      (fun j hj k hk hkj => hdis j (hin j (hk1 i j hj).2) (hp j (hk1 i j hj).2) ⟨i, hj⟩ (hlive j (hk1 i j hj).2) k (hin k hk) (hp k hk) hkj) (fun k hk => hv k fun j hj hjk => ?_))
    · rintro a' w' ⟨v, S', rfl, hTv, hS, hSk, hmod⟩
      have hb' : Mod Mo w0 w' := by
        refine ⟨hmod.os.trans hb.os, hmod.tape.trans hb.tape, hmod.output.trans hb.output, Nat.le_trans hb.size hmod.size, fun k hk hno => ?_⟩
        rw [hmod.block k (Nat.lt_of_lt_of_le hk hb.size) ?_, hb.block k hk hno]
        rintro (h | ⟨j, hj, hSj⟩)
        · exact hno (hwr i k h)
        · obtain ⟨j', _, h2⟩ := hold j (hin j (hk1 i j hj).2) (hp j (hk1 i j hj).2) k hSj hk
          exact hno (hwr j' k h2)
      have hkeep : ∀ j, j < ops.size → L j = true → (∀ s, kill s j → L s = false) → ¬ kill i j → ∀ b, S j b → w'.heap[b]? = w.heap[b]? := by
        intro j hj hLj hlj hnk b hSb
        refine hmod.block b (hlt' j hj hLj b hSb) ?_
        rintro (h | ⟨j', hj', hSj'⟩)
        · exact hnw j hj hLj b hSb h
        · have hp' := (hk1 i j' hj').2
          have hne : j ≠ j' := fun e => hnk (e ▸ hj')
          exact hdis j' (hin j' hp') (hp j' hp') ⟨i, hj'⟩ (hlive j' hp') j hj hLj hne b hSj' hSb
      have hsz0 : w0.heap.size ≤ w.heap.size := hb.size
      refine ⟨fun k => if k = dst i then v else vs k, fun j => if j = i then S' else S j, rfl, hb', ?_, ?_, ?_, ?_, ?_, ?_⟩
      · intro j hj hLj hlj
        by_cases e : j = i
        · subst e
          simp only [if_true]
          by_cases ea : aux j = j
          · rw [if_pos ea] at hTv
            rw [ea, if_pos rfl]; exact hTv
          · rw [if_neg ea] at hTv
            have hne : dst (aux j) ≠ dst j := fun h => by
              rcases haux j hj with h1 | h1
              · exact ea h1
              · exact ea (inj _ (hin _ h1) j hj h)
            rw [if_neg hne]; exact hTv
        · simp only [if_neg e] at hLj ⊢
          have hd : dst j ≠ dst i := fun h => e (inj j hj i hi h)
          have hai : aux j ≠ i := fun h => by
            rcases haux j hj with h1 | h1
            · exact e (h1.symm.trans h)
            · have := hc j hj hLj _ h1; rw [h, hL] at this; cases this
          have haj : aux j < ops.size := by
            rcases haux j hj with h1 | h1
            · rw [h1]; exact hj
            · exact Nat.lt_trans (hlt j hj _ h1) hj
          have hda : dst (aux j) ≠ dst i := fun h => hai (inj _ haj i hi h)
          rw [if_neg hd, if_neg hda]
          have hlj' : ∀ s, kill s j → L s = false := fun s hs => by
            have := hlj s hs
            by_cases es : s = i
            · simp [es] at this
            · simpa [es] using this
          have hnk : ¬ kill i j := fun h => by have := hlj i h; simp at this
          exact hstab j _ _ _ w w' hj (hT j hj hLj hlj') hb hb' hmod.size (hkeep j hj hLj hlj' hnk)
      · intro j hj hLj b hSb
        by_cases e : j = i
        · subst e
          simp only [if_true] at hSb
          rcases hS b hSb with ⟨k, hk, h⟩ | h | h
          · exact Nat.lt_of_lt_of_le (hlt' k (hin k hk) (hp k hk) b h) hmod.size
          · exact h.2
          · exact Nat.lt_of_lt_of_le (hMo b (hwr _ b h)) (Nat.le_trans hsz0 hmod.size)
        · simp only [if_neg e] at hLj hSb
          exact Nat.lt_of_lt_of_le (hlt' j hj hLj b hSb) hmod.size
      · intro j hj hLj b hSb h0
        have up : (∃ j, L j = true ∧ wr j b) → ∃ j, (if j = i then true else L j) = true ∧ wr j b := fun ⟨j, h1, h2⟩ => ⟨j, by by_cases e : j = i <;> simp [e, h1], h2⟩
        by_cases e : j = i
        · subst e
          simp only [if_true] at hSb
          rcases hS b hSb with ⟨k, hk, h⟩ | h | h
          · exact up (hold k (hin k hk) (hp k hk) b h h0)
          · omega
          · exact ⟨j, by simp, h⟩
        · simp only [if_neg e] at hLj hSb
          exact up (hold j hj hLj b hSb h0)
      · intro k hk hno
        have hni : ¬ wr i k := fun h => by have := hno i h; simp at this
        rw [hmod.block k (Nat.lt_of_lt_of_le (hMo k hk) hsz0) ?_]
        · refine hmo k hk fun j hj => ?_
          have := hno j hj
          by_cases e : j = i
          · simp [e] at this
          · simpa [e] using this
        · rintro (h | ⟨j, hj, hSj⟩)
          · exact hni h
          · obtain ⟨j', h1, h2⟩ := hold j (hin j (hk1 i j hj).2) (hp j (hk1 i j hj).2) k hSj (hMo k hk)
            have := hno j' h2
            by_cases e : j' = i
            · simp [e] at this
            · simp [e, h1] at this
      · intro j hj hLj hks hlj i2 hi2 hL2 hne b hSj hS2
        by_cases e : j = i
        · subst e
          simp only [if_true] at hSj
          simp only [if_neg hne] at hL2 hS2
          rcases hSk hks b hSj with h1 | h1
          · have h2 := hlt' i2 hi2 hL2 b hS2
            omega
          · exact hnw i2 hi2 hL2 b hS2 h1
        · simp only [if_neg e] at hLj hSj
          have hlj' : ∀ s, kill s j → L s = false := fun s hs => by
            have := hlj s hs
            by_cases es : s = i
            · simp [es] at this
            · simpa [es] using this
          have hnk : ¬ kill i j := fun h => by have := hlj i h; simp at this
          by_cases e2 : i2 = i
          · subst e2
            simp only [if_true] at hS2
            rcases hS b hS2 with ⟨k, hk, h⟩ | h | h
            · have hkj : k ≠ j := fun ek => by
                subst ek
                obtain ⟨s, hs⟩ := hks
                exact hnk (hk2 s k hs i2 hi2 hk ▸ hs)
              exact hdis j hj hLj hks hlj' k (hin k hk) (hp k hk) hkj b hSj h
            · have := hlt' j hj hLj b hSj; omega
            · exact hnw j hj hLj b hSj h
          · simp only [if_neg e2] at hL2 hS2
            exact hdis j hj hLj hks hlj' i2 hi2 hL2 hne b hSj hS2
      · intro k hk
        have hki : k ≠ dst i := fun h => by have := hk i hi h.symm; simp at this
        simp only [if_neg hki]
        exact hv k fun j hj hjk => by
          have h := hk j hj hjk
          by_cases e : j = i
          · subst e; simp at h
          · simpa [e] using h
    · rcases hk j hj hjk with h1 | h1
      · cases hLj : L j with
        | false => rfl
        | true => have := hc j hj hLj i h1; rw [hL] at this; cases this
      · rw [h1]; exact hL
  · rintro L a w ⟨vs, S, rfl, hb, hT, _⟩ hall
    exact hend vs w S hb fun i hi hk => hT i hi (hall i hi) fun s hs => absurd hs (hk s)
theorem wp_region_sh {P : Program} {id : Nat} {ops : Array Oper} {Q : Exit → Act → World → Prop} {w0 : World} (hm : P.follows .mixedOrders = true) (hlt : ∀ i, i < ops.size → ∀ k ∈ pres ops i, k < i)
    (dst : Nat → Nat) (inj : ∀ i, i < ops.size → ∀ j, j < ops.size → dst i = dst j → i = j) (fr : (Nat → Value) → Act) (vs0 : Nat → Value) (aux : Nat → Nat) (haux : ∀ i, i < ops.size → aux i = i ∨ aux i ∈ pres ops i)
    (sh : Nat → Prop) (hsh : ∀ k, sh k → k < w0.heap.size) (I : (Nat → Bool) → World → Prop) (hI0 : I (fun _ => false) w0.drew)
    (kill : Nat → Nat → Prop) (hk1 : ∀ s j, kill s j → s < ops.size ∧ j ∈ pres ops s) (hk2 : ∀ s s' j, kill s j → kill s' j → s = s')
    (T : Nat → Value → Value → (Nat → Prop) → World → Prop)
    (hstab : ∀ i v u S w w', i < ops.size → T i v u S w → Mod sh w0 w → Mod sh w0 w' → w.heap.size ≤ w'.heap.size → (∀ k, S k → w'.heap[k]? = w.heap[k]?) → T i v u S w')
    (hstep : ∀ i, i < ops.size → ∀ L vs w (S : Nat → Nat → Prop), Mod sh w0 w → I L w → L i = false → (∀ k ∈ pres ops i, L k = true) → (∀ j, j < ops.size → i ∈ pres ops j → L j = false) →
      (∀ k ∈ pres ops i, (∀ s, kill s k → s = i) → T k (vs (dst k)) (vs (dst (aux k))) (S k) w) → (∀ k ∈ pres ops i, ∀ b, S k b → b < w.heap.size ∧ w0.heap.size ≤ b) →
      (∀ j, kill i j → ∀ k ∈ pres ops i, k ≠ j → ∀ b, S j b → ¬ S k b) → (∀ k, (∀ j, j < ops.size → dst j = k → i ∈ pres ops j ∨ j = i) → vs k = vs0 k) →
      wpOp P ops Q i (fun a' w' => ∃ v S', a' = fr (fun k => if k = dst i then v else vs k) ∧ T i v (if aux i = i then v else vs (dst (aux i))) S' w' ∧
        (∀ b, S' b → (∃ k ∈ pres ops i, (∀ s, kill s k → s = i) ∧ S k b) ∨ (w.heap.size ≤ b ∧ b < w'.heap.size)) ∧ ((∃ s, kill s i) → ∀ b, S' b → w.heap.size ≤ b) ∧ Mod (fun b => sh b ∨ ∃ j, kill i j ∧ S j b) w w' ∧ I (fun j => if j = i then true else L j) w') (fr vs) w)
    (hend : ∀ vs w (S : Nat → Nat → Prop) L, (∀ i, i < ops.size → L i = true) → I L w → Mod sh w0 w → (∀ i, i < ops.size → ∀ b, S i b → b < w.heap.size ∧ w0.heap.size ≤ b) → (∀ i, i < ops.size → (∀ s, ¬ kill s i) → T i (vs (dst i)) (vs (dst (aux i))) (S i) w) → Q .normal (fr vs) w) : (Code.region id ops true).wp P Q (fr vs0) w0 := by
  refine wp_region_L hm hlt (fun L a w => ∃ vs, ∃ S : Nat → Nat → Prop, a = fr vs ∧ Mod sh w0 w ∧ I L w ∧ (∀ i, i < ops.size → L i = true → (∀ s, kill s i → L s = false) → T i (vs (dst i)) (vs (dst (aux i))) (S i) w) ∧
    (∀ i, i < ops.size → L i = true → ∀ b, S i b → b < w.heap.size ∧ w0.heap.size ≤ b) ∧
    (∀ j, j < ops.size → L j = true → (∃ s, kill s j) → (∀ s, kill s j → L s = false) → ∀ i, i < ops.size → L i = true → i ≠ j → ∀ b, S j b → ¬ S i b) ∧
    (∀ k, (∀ j, j < ops.size → dst j = k → L j = false) → vs k = vs0 k)) ?_ ?_ ?_
  · exact ⟨vs0, fun _ _ => False, rfl, Mod.of (Below.refl _ _).drew, hI0, fun i _ h => (by cases h), fun i _ h => (by cases h), fun i _ h => (by cases h), fun _ _ => rfl⟩
  · rintro L a w i hi ⟨vs, S, rfl, hb, hI, hT, hlt', hdis, hv⟩ hc hL hp
    have hin : ∀ k ∈ pres ops i, k < ops.size := fun k hk => Nat.lt_trans (hlt i hi k hk) hi
    have hlive : ∀ k, (∀ s, kill s k → s = i) → ∀ s, kill s k → L s = false := fun k hk s hs => by rw [hk s hs]; exact hL
    have huni : ∀ j, kill i j → ∀ s, kill s j → s = i := fun j hj s hs => hk2 s i j hs hj
    have hns : ∀ j, j < ops.size → L j = true → ∀ b, S j b → ¬ sh b := fun j hj hLj b hb1 hb2 => by
      have h1 := (hlt' j hj hLj b hb1).2
      have h2 := hsh b hb2
      omega
    have hsucc : ∀ j, j < ops.size → i ∈ pres ops j → L j = false := fun j hj h1 => by
      cases hLj : L j with
      | false => rfl
      | true => have := hc j hj hLj i h1; rw [hL] at this; cases this
    refine wpOp_mono ?_ (hstep i hi L vs w S hb hI hL hp hsucc (fun k hk hks => hT k (hin k hk) (hp k hk) (hlive k hks)) (fun k hk b hSb => hlt' k (hin k hk) (hp k hk) b hSb)
      (fun j hj k hk hkj => hdis j (hin j (hk1 i j hj).2) (hp j (hk1 i j hj).2) ⟨i, hj⟩ (hlive j (huni j hj)) k (hin k hk) (hp k hk) hkj) (fun k hk => hv k fun j hj hjk => ?_))
    · rintro a' w' ⟨v, S', rfl, hTv, hS, hSk, hmod, hI'⟩
      have hb' : Mod sh w0 w' := by
        refine ⟨hmod.os.trans hb.os, hmod.tape.trans hb.tape, hmod.output.trans hb.output, Nat.le_trans hb.size hmod.size, fun k hk hno => ?_⟩
        rw [hmod.block k (Nat.lt_of_lt_of_le hk hb.size) ?_, hb.block k hk hno]
        rintro (h | ⟨j, hj, hSj⟩)
        · exact hno h
        · have := (hlt' j (hin j (hk1 i j hj).2) (hp j (hk1 i j hj).2) k hSj).2
          omega
      have hkeep : ∀ j, j < ops.size → L j = true → (∀ s, kill s j → L s = false) → ¬ kill i j → ∀ b, S j b → w'.heap[b]? = w.heap[b]? := by
        intro j hj hLj hlj hnk b hSb
        refine hmod.block b (hlt' j hj hLj b hSb).1 ?_
        rintro (h | ⟨j', hj', hSj'⟩)
        · exact hns j hj hLj b hSb h
        · have hp' := (hk1 i j' hj').2
          have hne : j ≠ j' := fun e => hnk (e ▸ hj')
          exact hdis j' (hin j' hp') (hp j' hp') ⟨i, hj'⟩ (hlive j' (huni j' hj')) j hj hLj hne b hSj' hSb
      have hsz0 : w0.heap.size ≤ w.heap.size := hb.size
      refine ⟨fun k => if k = dst i then v else vs k, fun j => if j = i then S' else S j, rfl, hb', hI', ?_, ?_, ?_, ?_⟩
      · intro j hj hLj hlj
        by_cases e : j = i
        · subst e
          simp only [if_true]
          by_cases ea : aux j = j
          · rw [if_pos ea] at hTv
            rw [ea, if_pos rfl]; exact hTv
          · rw [if_neg ea] at hTv
            have hne : dst (aux j) ≠ dst j := fun h => by
              rcases haux j hj with h1 | h1
              · exact ea h1
              · exact ea (inj _ (hin _ h1) j hj h)
            rw [if_neg hne]; exact hTv
        · simp only [if_neg e] at hLj ⊢
          have hd : dst j ≠ dst i := fun h => e (inj j hj i hi h)
          have hai : aux j ≠ i := fun h => by
            rcases haux j hj with h1 | h1
            · exact e (h1.symm.trans h)
            · have := hc j hj hLj _ h1; rw [h, hL] at this; cases this
          have haj : aux j < ops.size := by
            rcases haux j hj with h1 | h1
            · rw [h1]; exact hj
            · exact Nat.lt_trans (hlt j hj _ h1) hj
          have hda : dst (aux j) ≠ dst i := fun h => hai (inj _ haj i hi h)
          rw [if_neg hd, if_neg hda]
          have hlj' : ∀ s, kill s j → L s = false := fun s hs => by
            have := hlj s hs
            by_cases es : s = i
            · simp [es] at this
            · simpa [es] using this
          have hnk : ¬ kill i j := fun h => by have := hlj i h; simp at this
          exact hstab j _ _ _ w w' hj (hT j hj hLj hlj') hb hb' hmod.size (hkeep j hj hLj hlj' hnk)
      · intro j hj hLj b hSb
        by_cases e : j = i
        · subst e
          simp only [if_true] at hSb
          rcases hS b hSb with ⟨k, hk, _, h⟩ | h
          · have h3 := hlt' k (hin k hk) (hp k hk) b h
            exact ⟨Nat.lt_of_lt_of_le h3.1 hmod.size, h3.2⟩
          · exact ⟨h.2, Nat.le_trans hsz0 h.1⟩
        · simp only [if_neg e] at hLj hSb
          have h3 := hlt' j hj hLj b hSb
          exact ⟨Nat.lt_of_lt_of_le h3.1 hmod.size, h3.2⟩
      · intro j hj hLj hks hlj i2 hi2 hL2 hne b hSj hS2
        by_cases e : j = i
        · subst e
          simp only [if_true] at hSj
          simp only [if_neg hne] at hL2 hS2
          have h1 := hSk hks b hSj
          have h2 := (hlt' i2 hi2 hL2 b hS2).1
          omega
        · simp only [if_neg e] at hLj hSj
          have hlj' : ∀ s, kill s j → L s = false := fun s hs => by
            have := hlj s hs
            by_cases es : s = i
            · simp [es] at this
            · simpa [es] using this
          have hnk : ¬ kill i j := fun h => by have := hlj i h; simp at this
          by_cases e2 : i2 = i
          · subst e2
            simp only [if_true] at hS2
            rcases hS b hS2 with ⟨k, hk, hks', h⟩ | h
            · have hkj : k ≠ j := fun ek => by
                subst ek
                obtain ⟨s, hs⟩ := hks
                exact hnk (hks' s hs ▸ hs)
              exact hdis j hj hLj hks hlj' k (hin k hk) (hp k hk) hkj b hSj h
            · have := (hlt' j hj hLj b hSj).1; omega
          · simp only [if_neg e2] at hL2 hS2
            exact hdis j hj hLj hks hlj' i2 hi2 hL2 hne b hSj hS2
      · intro k hk
        have hki : k ≠ dst i := fun h => by have := hk i hi h.symm; simp at this
        simp only [if_neg hki]
        exact hv k fun j hj hjk => by
          have h := hk j hj hjk
          by_cases e : j = i
          · subst e; simp at h
          · simpa [e] using h
    · rcases hk j hj hjk with h1 | h1
      · exact hsucc j hj h1
      · rw [h1]; exact hL
  · rintro L a w ⟨vs, S, rfl, hb, hI, hT, hz, _⟩ hall
    exact hend vs w S L hall hI hb (fun i hi => hz i hi (hall i hi)) fun i hi hk => hT i hi (hall i hi) fun s hs => absurd hs (hk s)
end Go.Proofs.YtoefekkdjcflmaaGreatDoor

