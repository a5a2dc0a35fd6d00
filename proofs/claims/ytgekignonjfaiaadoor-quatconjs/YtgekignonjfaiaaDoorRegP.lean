/-
  A region that draws its order, by what holds whichever of its operations have been done: one operation among them may write into memory, all the others leave values of which something is known.
-/
import Derived.Test.YtgekignonjfaiaaDoorQW
import Derived.Orders
namespace Go.Proofs.YtgekignonjfaiaaDoor
open Go.RowKit Go.Sort Qm

theorem wpAny_inv {P : Program} {md : Region.Mode} {ops : Array Oper} {Q : Exit → Act → World → Prop} (S : Array Bool → Act → World → Prop) (cnt : Array Bool → Nat)
    (hstep : ∀ listed a w i, S listed a w → i ∈ Region.ready md ops listed → cnt (listed.setIfInBounds i true) < cnt listed ∧ wpOp P ops Q i (S (listed.setIfInBounds i true)) a w)
    (hend : ∀ listed a w, S listed a w → Region.ready md ops listed = [] → Q .normal a w) :
    ∀ (fuel : Nat) (listed : Array Bool) (a : Act) (w : World), S listed a w → cnt listed ≤ fuel → wpAny P md ops Q fuel listed a w := by
  intro fuel
  induction fuel with
  | zero =>
    intro listed a w hs hc
    have hr : Region.ready md ops listed = [] := by
      apply List.eq_nil_iff_forall_not_mem.2
      intro i hi
      have := (hstep listed a w i hs hi).1
      omega
    exact ⟨hr, hend _ _ _ hs hr⟩
  | succ fuel ih =>
    intro listed a w hs hc
    refine ⟨fun hr => hend _ _ _ hs hr, fun i hi => ?_⟩
    obtain ⟨h1, h2⟩ := hstep listed a w i hs hi
    exact wpOp_mono (fun a' w' h => ih _ _ _ h (by omega)) h2

theorem wpOp_of {P : Program} {ops : Array Oper} {Q : Exit → Act → World → Prop} {i : Nat} {K : Act → World → Prop} {a : Act} {w : World} (o : Oper) (h : ops[i]? = some o) (hg : o.guard = none) (hw : o.wp P a w K Q) : wpOp P ops Q i K a w := by
  unfold wpOp
  rw [h]
  simp only [Region.wanted, hg, if_true]
  exact .inl hw

/-- what must have been done ahead of operation i -/
def pres (ops : Array Oper) (i : Nat) : List Nat := ((ops[i]?).map fun o => (o.after.toList.filter (Region.binds .any)).map (·.on)).getD []

theorem mem_ready {ops : Array Oper} {l : Array Bool} {i : Nat} : i ∈ Region.ready .any ops l ↔ i < ops.size ∧ l.getD i true = false ∧ ∀ k ∈ pres ops i, l.getD k false = true := by
  simp only [Region.ready, List.mem_filter, List.mem_range, Bool.and_eq_true, Bool.not_eq_true', pres]
  constructor
  · rintro ⟨h1, h2, h3⟩
    refine ⟨h1, h2, ?_⟩
    rw [Array.getElem?_eq_getElem h1] at h3 ⊢
    simp only [Option.map_some, Option.getD_some, Array.all_eq_true, Bool.or_eq_true, Bool.not_eq_true'] at h3
    intro k hk
    simp only [Option.map_some, Option.getD_some, List.mem_map, List.mem_filter] at hk
    obtain ⟨e, ⟨he, hb⟩, rfl⟩ := hk
    obtain ⟨j, hj, hje⟩ := Array.mem_iff_getElem.1 (Array.mem_toList_iff.1 he)
    rcases h3 j hj with h | h
    · rw [hje, hb] at h; cases h
    · rw [hje] at h; exact h
  · rintro ⟨h1, h2, h3⟩
    refine ⟨h1, h2, ?_⟩
    rw [Array.getElem?_eq_getElem h1] at h3 ⊢
    simp only [Option.map_some, Option.getD_some, Array.all_eq_true, Bool.or_eq_true, Bool.not_eq_true']
    intro j hj
    cases hb : Region.binds .any (ops[i].after[j]) with
    | false => exact .inl rfl
    | true =>
      refine .inr (h3 _ ?_)
      simp only [Option.map_some, Option.getD_some, List.mem_map, List.mem_filter]
      exact ⟨_, ⟨Array.mem_toList_iff.2 (Array.getElem_mem hj), hb⟩, rfl⟩

def cntF (l : Array Bool) : Nat := (l.toList.map fun b => bif b then 0 else 1).sum
theorem cntL_set : ∀ (l : List Bool) (i : Nat), l[i]? = some false → ((l.set i true).map fun b => bif b then 0 else 1).sum < (l.map fun b => bif b then 0 else 1).sum
  | [], i, h => by simp at h
  | b :: l, 0, h => by simp at h; subst h; simp
  | b :: l, i + 1, h => by
    have := cntL_set l i (by simpa using h)
    simp only [List.set_cons_succ, List.map_cons, List.sum_cons]; omega
theorem cntF_set (l : Array Bool) (i : Nat) (h : l[i]? = some false) : cntF (l.setIfInBounds i true) < cntF l := by
  unfold cntF
  rw [Array.toList_setIfInBounds]
  exact cntL_set l.toList i (by simpa using h)

theorem wp_region_L {P : Program} {id : Nat} {ops : Array Oper} {Q : Exit → Act → World → Prop} {a : Act} {w : World} (hm : P.follows .mixedOrders = true) (hlt : ∀ i, i < ops.size → ∀ k ∈ pres ops i, k < i)
    (S : (Nat → Bool) → Act → World → Prop) (h0 : S (fun _ => false) a w.drew)
    (hstep : ∀ (L : Nat → Bool) a w i, i < ops.size → S L a w → (∀ j, j < ops.size → L j = true → ∀ k ∈ pres ops j, L k = true) → L i = false → (∀ k ∈ pres ops i, L k = true) → wpOp P ops Q i (S (fun j => if j = i then true else L j)) a w)
    (hend : ∀ (L : Nat → Bool) a w, S L a w → (∀ j, j < ops.size → L j = true) → Q .normal a w) : (Code.region id ops true).wp P Q a w := by
  refine wp_region_any hm (wpAny_inv (fun l a w => l.size = ops.size ∧ (∀ j, j < ops.size → l.getD j false = true → ∀ k ∈ pres ops j, l.getD k false = true) ∧ S (fun j => l.getD j false) a w) cntF ?_ ?_ _ _ _ _ ?_ ?_)
  · rintro l a w i ⟨hs, hc, hS⟩ hi
    obtain ⟨h1, h2, h3⟩ := mem_ready.1 hi
    have hil : i < l.size := by omega
    have h2' : l.getD i false = false := by
      rw [Array.getD_eq_getD_getElem?, Array.getElem?_eq_getElem hil] at h2 ⊢; exact h2
    have hg : l[i]? = some false := by rw [Array.getElem?_eq_getElem hil]; rw [Array.getD_eq_getD_getElem?, Array.getElem?_eq_getElem hil] at h2; simpa using h2
    have hset : ∀ j, (l.setIfInBounds i true).getD j false = if j = i then true else l.getD j false := by
      intro j
      rw [Array.getD_eq_getD_getElem?, Array.getElem?_setIfInBounds, Array.getD_eq_getD_getElem?]
      by_cases h : i = j
      · subst h; rw [if_pos rfl, if_pos rfl, if_pos hil]; rfl
      · rw [if_neg h, if_neg (fun e => h e.symm)]
    refine ⟨cntF_set l i hg, wpOp_mono ?_ (hstep _ a w i h1 hS hc h2' h3)⟩
    intro a' w' h
    refine ⟨by rw [Array.size_setIfInBounds]; exact hs, ?_, ?_⟩
    · intro j hj hjt k hk
      rw [hset] at hjt ⊢
      by_cases e : k = i
      · rw [if_pos e]
      · rw [if_neg e]
        by_cases e2 : j = i
        · subst e2; exact h3 k hk
        · rw [if_neg e2] at hjt; exact hc j hj hjt k hk
    · have e : (fun j => (l.setIfInBounds i true).getD j false) = fun j => if j = i then true else l.getD j false := funext hset
      rw [e]; exact h
  · rintro l a w ⟨hs, hc, hS⟩ hr
    refine hend _ a w hS ?_
    have : ∀ m j, j < m → j < ops.size → l.getD j false = true := by
      intro m
      induction m with
      | zero => intro j hj; omega
      | succ m ih =>
        intro j hj hjs
        cases e : l.getD j false with
        | true => rfl
        | false =>
          have hjl : j < l.size := by omega
          have : j ∈ Region.ready .any ops l := mem_ready.2 ⟨hjs, by rw [Array.getD_eq_getD_getElem?, Array.getElem?_eq_getElem hjl] at e ⊢; exact e, fun k hk => ih k (by have := hlt j hjs k hk; omega) (by have := hlt j hjs k hk; omega)⟩
          rw [hr] at this; cases this
    exact fun j hj => this (j + 1) j (by omega) hj
  · refine ⟨by simp, ?_, ?_⟩
    · intro j hj hjt
      exfalso
      rw [Array.getD_eq_getD_getElem?] at hjt
      simp [hj] at hjt
    · have e : (fun j => (Array.replicate ops.size false).getD j false) = fun _ => false := by
        funext j
        rw [Array.getD_eq_getD_getElem?]
        by_cases h : j < ops.size <;> simp [h]
      rw [e]; exact h0
  · unfold cntF
    have : ∀ n : Nat, ((List.replicate n false).map fun b => bif b then 0 else 1).sum = n := by
      intro n
      induction n with
      | zero => rfl
      | succ n ih => rw [List.replicate_succ, List.map_cons, List.sum_cons, ih]; simp; omega
    rw [Array.toList_replicate, this]
    exact Nat.le_refl _

/-- one operation (s) writes, the others make values of which something is known (T), and memory at most; what is written (U) is known by the slot e -/
theorem wp_region_put {P : Program} {id : Nat} {ops : Array Oper} {Q : Exit → Act → World → Prop} {w0 : World} {B : Nat} (hB : B ≤ w0.heap.size) (hm : P.follows .mixedOrders = true) (hlt : ∀ i, i < ops.size → ∀ k ∈ pres ops i, k < i)
    (dst : Nat → Nat) (inj : ∀ i, i < ops.size → ∀ j, j < ops.size → dst i = dst j → i = j) (fr : (Nat → Value) → Act) (T : Nat → Value → World → Prop)
    (hmono : ∀ i v w w', T i v w → Below w.heap.size w w' → T i v w') (vs0 : Nat → Value) (s e : Nat) (U : Value → World → Prop) (hU : ∀ v w w', U v w → Below w.heap.size w w' → U v w')
    (hs : s < ops.size) (he : ∀ i, i < ops.size → dst i = e → i = s ∨ i ∈ pres ops s)
    (hstep : ∀ i, i < ops.size → i ≠ s → ∀ vs w, Below B w0 w → (∀ k ∈ pres ops i, k ≠ s → T k (vs (dst k)) w) → (s ∈ pres ops i → U (vs e) w) →
      wpOp P ops Q i (fun a' w' => ∃ v, a' = fr (fun k => if k = dst i then v else vs k) ∧ T i v w' ∧ Below w.heap.size w w') (fr vs) w)
    (hput : ∀ vs w, Below B w0 w → (∀ k ∈ pres ops s, T k (vs (dst k)) w) →
      wpOp P ops Q s (fun a' w' => ∃ v, a' = fr (fun k => if k = dst s then v else vs k) ∧ U (if e = dst s then v else vs e) w' ∧ Below B w0 w' ∧ ∀ j v, j ≠ s → T j v w → T j v w') (fr vs) w)
    (hend : ∀ vs w, Below B w0 w → (∀ i, i < ops.size → i ≠ s → T i (vs (dst i)) w) → U (vs e) w → Q .normal (fr vs) w) : (Code.region id ops true).wp P Q (fr vs0) w0 := by
  refine wp_region_L hm hlt (fun L a w => ∃ vs, a = fr vs ∧ Below B w0 w ∧ (∀ i, i < ops.size → i ≠ s → L i = true → T i (vs (dst i)) w) ∧ (L s = true → U (vs e) w)) ?_ ?_ ?_
  · exact ⟨vs0, rfl, (Below.refl _ _).drew, fun i _ _ h => (by cases h), fun h => (by cases h)⟩
  · rintro L a w i hi ⟨vs, rfl, hb, hT, hu⟩ hc hL hp
    by_cases his : i = s
    · subst his
      refine wpOp_mono ?_ (hput vs w hb fun k hk => hT k (Nat.lt_trans (hlt i hi k hk) hi) (fun e => by have := hlt i hi k hk; omega) (hp k hk))
      rintro a' w' ⟨v, rfl, hv, hb', hk⟩
      refine ⟨_, rfl, hb', fun j hj hji hjL => ?_, fun _ => hv⟩
      have hd : dst j ≠ dst i := fun h => hji (inj j hj i hi h)
      simp only [if_neg hd]
      simp only [if_neg hji] at hjL
      exact hk j _ hji (hT j hj hji hjL)
    · refine wpOp_mono ?_ (hstep i hi his vs w hb (fun k hk hks => hT k (Nat.lt_trans (hlt i hi k hk) hi) hks (hp k hk)) (fun hsm => hu (hp s hsm)))
      rintro a' w' ⟨v, rfl, hv, hb'⟩
      refine ⟨_, rfl, hb.trans (hb'.mono (Nat.le_trans hB hb.size)), fun j hj hjs hjL => ?_, fun hLs => ?_⟩
      · by_cases e : j = i
        · subst e; simp only [if_true]; exact hv
        · have hd : dst j ≠ dst i := fun h => e (inj j hj i hi h)
          simp only [if_neg hd]
          simp only [if_neg e] at hjL
          exact hmono j _ w w' (hT j hj hjs hjL) hb'
      · have hsi : s ≠ i := fun h => his h.symm
        simp only [if_neg hsi] at hLs
        have hei : e ≠ dst i := fun h => by
          rcases he i hi h.symm with h1 | h1
          · exact his h1
          · have := hc s hs hLs i h1
            rw [hL] at this; cases this
        simp only [if_neg hei]
        exact hU _ w w' (hu hLs) hb'
  · rintro L a w ⟨vs, rfl, hb, hT, hu⟩ hall
    exact hend vs w hb (fun i hi hs' => hT i hi hs' (hall i hi)) (hu (hall s hs))

section
variable {a : Act} {w : World} {K : Act → World → Prop} {Q : Exit → Act → World → Prop} {o : Oper}
theorem op_move {s : Nat} {v : Value} (hop : o.op = Op.move (Operand.tmp s)) (hs : a.tmps[s]?.getD undef = v) (hk : K (a.put o.dst v) w) : o.wp Tryd.prog a w K Q := by
  unfold Oper.wp
  simp [execOp, hop, go_sem, hs]
  exact hk
theorem op_assign {s : Nat} {v : Value} (hop : o.op = Op.assign (Operand.tmp s)) (hs : a.tmps[s]?.getD undef = v) (hk : K (a.put o.dst v) w) : o.wp Tryd.prog a w K Q := by
  unfold Oper.wp
  simp [execOp, hop, go_sem, hs]
  exact hk
theorem op_extract {s i : Nat} {vs : Array Value} {v : Value} (hop : o.op = Op.extract (Operand.tmp s) i) (hs : a.tmps[s]?.getD undef = .tuple vs) (hv : vs[i]? = some v) (hk : K (a.put o.dst v) w) : o.wp Tryd.prog a w K Q := by
  unfold Oper.wp
  simp [execOp, hop, go_sem, hs, hv]
  exact hk
theorem op_call1 {f s : Nat} {v : Value} {ts : Array TypeId} {R : Ending → World → Prop} (hF : ∀ (args : Array Value) (a : World), Sem.run Tryd.prog (callFunc f args) a = Result.ok (Next.enter f args) a) (hop : o.op = Op.call { callee := Callee.value (Operand.func f), args := #[Operand.tmp s], argTypes := ts }) (hs : a.tmps[s]?.getD undef = v)
    (hc : Calls Tryd.prog f #[v] w R) (hk : ∀ e w', R e w' → ∃ x, e = .returned x ∧ K (a.put o.dst x) w') : o.wp Tryd.prog a w K Q := by
  unfold Oper.wp
  simp [execOp, hop, go_sem, hs, hF]
  refine hc.mono ?_
  intro e w' h
  obtain ⟨x, rfl, hx⟩ := hk e w' h
  exact hx
theorem op_call2 {f s t : Nat} {v u : Value} {ts : Array TypeId} {R : Ending → World → Prop} (hF : ∀ (args : Array Value) (a : World), Sem.run Tryd.prog (callFunc f args) a = Result.ok (Next.enter f args) a) (hop : o.op = Op.call { callee := Callee.value (Operand.func f), args := #[Operand.tmp s, Operand.tmp t], argTypes := ts }) (hs : a.tmps[s]?.getD undef = v) (ht : a.tmps[t]?.getD undef = u)
    (hc : Calls Tryd.prog f #[v, u] w R) (hk : ∀ e w', R e w' → ∃ x, e = .returned x ∧ K (a.put o.dst x) w') : o.wp Tryd.prog a w K Q := by
  unfold Oper.wp
  simp [execOp, hop, go_sem, hs, ht, hF]
  refine hc.mono ?_
  intro e w' h
  obtain ⟨x, rfl, hx⟩ := hk e w' h
  exact hx
theorem op_load4 {s : Nat} {b : Nat} {p q r t : Value} (hop : o.op = Op.load 24 (Operand.tmp s)) (he : a.tmps[s]?.getD undef = .pointer (some ⟨b, 0, none⟩)) (hb : w.heap[b]? = some (.cells #[p, q, r, t] 24 (0, 0)))
    (hp : ∃ x y z u, p = .int .i64 x ∧ q = .int .i64 y ∧ r = .int .i64 z ∧ t = .int .i64 u) (hk : K (a.put o.dst (.agg #[p, q, r, t])) w) : o.wp Tryd.prog a w K Q := by
  obtain ⟨x, y, z, u, rfl, rfl, rfl, rfl⟩ := hp
  obtain ⟨c0, c1, c2, c3, _⟩ := four_cells hb
  unfold Oper.wp
  simp [execOp, hop, go_sem, he, c0, c1, c2, c3]
  exact hk
theorem op_alloc4 (hop : o.op = Op.alloc 24) (hk : K (a.put o.dst (.pointer (some ⟨w.heap.size, 0, none⟩))) (w.alloc (.cells #[.int .i64 0, .int .i64 0, .int .i64 0, .int .i64 0] 24))) : o.wp Tryd.prog a w K Q := by
  unfold Oper.wp
  simp [execOp, hop, go_sem]
  exact hk
theorem op_store4 {p f b : Nat} {r0 r1 r2 r3 : Int} {x y z u : Value} (hd : o.dst = none) (hop : o.op = Op.store 24 (Operand.tmp p) (Operand.tmp f)) (hp : a.tmps[p]?.getD undef = .pointer (some ⟨b, 0, none⟩))
    (hf : a.tmps[f]?.getD undef = .agg #[.int .i64 r0, .int .i64 r1, .int .i64 r2, .int .i64 r3]) (hb : w.heap[b]? = some (.cells #[x, y, z, u] 24 (0, 0)))
    (hk : K a ((((w.setCell ⟨b, 0, none⟩ (.int .i64 r0)).setCell ⟨b, 1, none⟩ (.int .i64 r1)).setCell ⟨b, 2, none⟩ (.int .i64 r2)).setCell ⟨b, 3, none⟩ (.int .i64 r3))) : o.wp Tryd.prog a w K Q := by
  obtain ⟨c0, c1, c2, c3, f0, f1, f2, f3⟩ := four_cells hb
  unfold Oper.wp
  simp [execOp, hop, go_sem, hp, hf, c0, c1, c2, c3, f0, f1, f2, f3, hd]
  exact hk
end
theorem put_four {w : World} {b : Nat} {x y z u x' y' z' u' : Value} {t : TypeId} (h : w.heap[b]? = some (.cells #[x, y, z, u] t (0, 0))) :
    ((((w.setCell ⟨b, 0, none⟩ x').setCell ⟨b, 1, none⟩ y').setCell ⟨b, 2, none⟩ z').setCell ⟨b, 3, none⟩ u').heap[b]? = some (.cells #[x', y', z', u'] t (0, 0)) := by
  have h1 := heap_setCell_same w b 0 _ t x' h
  have h2 := heap_setCell_same _ b 1 _ t y' h1
  have h3 := heap_setCell_same _ b 2 _ t z' h2
  have h4 := heap_setCell_same _ b 3 _ t u' h3
  rw [h4]; rfl
end Go.Proofs.YtgekignonjfaiaaDoor
