/- Parts of the proof. -/
import Derived.Orders
import Derived.Test.YtoefekkdjcflmaaGreatDoorM07
namespace Go.Proofs.YtoefekkdjcflmaaGreatDoor
open Go.RowKit Go.Sort Qm
theorem wpAny_inv {P : Program} {md : Region.Mode} {ops : Array Oper} {Q : Exit → Act → World → Prop} (S : Array Bool → Act → World → Prop) (cnt : Array Bool → Nat)
    (hstep : ∀ listed a w i, S listed a w → i ∈ Region.ready md ops listed → cnt (listed.setIfInBounds i true) < cnt listed ∧ wpOp P ops Q i (S (listed.setIfInBounds i true)) a w)
    (hend : ∀ listed a w, S listed a w → Region.ready md ops listed = [] → Q .normal a w) :
    ∀ (fuel : Nat) (listed : Array Bool) (a : Act) (w : World), S listed a w → cnt listed ≤ fuel → wpAny P md ops Q fuel listed a w := by
  intro fuel
  induction fuel with
  | zero =>
    intro listed a w hs hc
    have hr : Region.ready md ops listed = [] := by
      apply List.eq_nil_iff_forall_not_mem.2
      intro i hi
      have := (hstep listed a w i hs hi).1
      omega
    exact ⟨hr, hend _ _ _ hs hr⟩
  | succ fuel ih =>
    intro listed a w hs hc
    refine ⟨fun hr => hend _ _ _ hs hr, fun i hi => ?_⟩
    obtain ⟨h1, h2⟩ := hstep listed a w i hs hi
    exact wpOp_mono (fun a' w' h => ih _ _ _ h (by omega)) h2
theorem wpOp_of {P : Program} {ops : Array Oper} {Q : Exit → Act → World → Prop} {i : Nat} {K : Act → World → Prop} {a : Act} {w : World} (o : Oper) (h : ops[i]? = some o) (hg : o.guard = none) (hw : o.wp P a w K Q) : wpOp P ops Q i K a w := by
  unfold wpOp
  rw [h]
  simp only [Region.wanted, hg, if_true]
  exact .inl hw
def atOps (pos : String) (sA sB dA fA dB fB qA qB : Nat) : Array Oper :=
  #[{ dst := some dA, op := Op.load 29 (Operand.tmp sA), type := 29, pos := pos, after := #[], guard := none },
    { dst := some fA, op := Op.call { callee := Callee.value (Operand.func 160), args := #[Operand.tmp dA], argTypes := #[29] }, type := 187, pos := pos, after := #[{ on := 0, ground := Ground.data }], guard := none },
    { dst := some dB, op := Op.load 29 (Operand.tmp sB), type := 29, pos := pos, after := #[], guard := none },
    { dst := some fB, op := Op.call { callee := Callee.value (Operand.func 160), args := #[Operand.tmp dB], argTypes := #[29] }, type := 187, pos := pos, after := #[{ on := 2, ground := Ground.data }, { on := 1, ground := Ground.chain }], guard := none },
    { dst := some qA, op := Op.alloc 187, type := 0, pos := pos, after := #[], guard := none },
    { dst := some qB, op := Op.alloc 187, type := 0, pos := pos, after := #[], guard := none },
    { dst := none, op := Op.store 187 (Operand.tmp qA) (Operand.tmp fA), type := 0, pos := pos,
      after := #[{ on := 4, ground := Ground.data }, { on := 1, ground := Ground.data }, { on := 3, ground := Ground.chain }, { on := 0, ground := Ground.phase }, { on := 1, ground := Ground.phase }, { on := 2, ground := Ground.textOnly Departure.lateStores },
        { on := 3, ground := Ground.textOnly Departure.lateStoresUnsure }, { on := 4, ground := Ground.phase }, { on := 5, ground := Ground.phase }], guard := none },
    { dst := none, op := Op.store 187 (Operand.tmp qB) (Operand.tmp fB), type := 0, pos := pos,
      after := #[{ on := 5, ground := Ground.data }, { on := 3, ground := Ground.data }, { on := 6, ground := Ground.chain }, { on := 0, ground := Ground.phase }, { on := 1, ground := Ground.phase }, { on := 2, ground := Ground.phase },
        { on := 3, ground := Ground.phase }, { on := 4, ground := Ground.phase }, { on := 5, ground := Ground.phase }, { on := 6, ground := Ground.phase }], guard := none }]
def atPre (b0 b1 b2 b3 b4 b5 b6 b7 : Bool) : Nat → Bool
  | 0 => !b0
  | 1 => !b1 && b0
  | 2 => !b2
  | 3 => !b3 && b2 && b1
  | 4 => !b4
  | 5 => !b5
  | 6 => !b6 && b0 && b1 && b2 && b3 && b4 && b5
  | 7 => !b7 && b0 && b1 && b2 && b3 && b4 && b5 && b6
  | _ => false
def atCnt (l : Array Bool) : Nat := (l.toList.map fun b => bif b then 0 else 1).sum
theorem at_ready (pos : String) (sA sB dA fA dB fB qA qB : Nat) (b0 b1 b2 b3 b4 b5 b6 b7 : Bool) (h1 : b3 = true → b2 = true) (i : Nat)
    (hi : i ∈ Region.ready .any (atOps pos sA sB dA fA dB fB qA qB) #[b0, b1, b2, b3, b4, b5, b6, b7]) : atPre b0 b1 b2 b3 b4 b5 b6 b7 i = true := by
  simp only [Region.ready, atOps, List.mem_filter, List.mem_range, Bool.and_eq_true] at hi
  obtain ⟨hi8, hl, ha⟩ := hi
  have hi8 : i < 8 := hi8
  rcases (by omega : i = 0 ∨ i = 1 ∨ i = 2 ∨ i = 3 ∨ i = 4 ∨ i = 5 ∨ i = 6 ∨ i = 7) with rfl | rfl | rfl | rfl | rfl | rfl | rfl | rfl
  all_goals simp [Region.binds] at hl ha
  all_goals simp [atPre, hl, ha]
  all_goals simp_all
theorem at_done (pos : String) (sA sB dA fA dB fB qA qB : Nat) (b0 b1 b2 b3 b4 b5 b6 b7 : Bool)
    (h : Region.ready .any (atOps pos sA sB dA fA dB fB qA qB) #[b0, b1, b2, b3, b4, b5, b6, b7] = []) : b0 = true ∧ b1 = true ∧ b2 = true ∧ b3 = true ∧ b4 = true ∧ b5 = true ∧ b6 = true ∧ b7 = true := by
  have m : ∀ i, ¬ i ∈ Region.ready .any (atOps pos sA sB dA fA dB fB qA qB) #[b0, b1, b2, b3, b4, b5, b6, b7] := fun i hi => by rw [h] at hi; cases hi
  simp only [Region.ready, atOps, List.mem_filter, List.mem_range, Bool.and_eq_true] at m
  have m0 := m 0
  have m1 := m 1
  have m2 := m 2
  have m3 := m 3
  have m4 := m 4
  have m5 := m 5
  have m6 := m 6
  have m7 := m 7
  clear m h
  simp [Region.binds] at m0 m1 m2 m3 m4 m5 m6 m7
  simp_all
section
variable {a : Act} {w : World} {K : Act → World → Prop} {Q : Exit → Act → World → Prop} {o : Oper}
theorem op_load {s : Nat} {b : Nat} {R c : Int} {ao : Option Addr} {n cap : Nat} (hop : o.op = Op.load 29 (Operand.tmp s)) (he : a.tmps[s]?.getD undef = .pointer (some ⟨b, 0, none⟩)) (hb : w.heap[b]? = some (.cells #[.int .i64 R, .int .i64 c, .slice ao n cap] 29 (0, 0)))
    (hk : K (a.put o.dst (.agg #[.int .i64 R, .int .i64 c, .slice ao n cap])) w) : o.wp Tryz.prog a w K Q := by
  obtain ⟨c0, c1, c2, _⟩ := mat_cells hb
  unfold Oper.wp
  simp [execOp, hop, go_sem, he, c0, c1, c2]
  exact hk
theorem op_numbers {s : Nat} {R c : Int} {ao : Option Addr} {n cap : Nat} (hop : o.op = Op.call { callee := Callee.value (Operand.func 160), args := #[Operand.tmp s], argTypes := #[29] }) (he : a.tmps[s]?.getD undef = .agg #[.int .i64 R, .int .i64 c, .slice ao n cap])
    (hk : K (a.put o.dst (.func (.func 182) #[] #[.pointer (some ⟨w.heap.size, 0, none⟩)])) (w.alloc (.cells #[.int .i64 R, .int .i64 c, .slice ao n cap] 29))) : o.wp Tryz.prog a w K Q := by
  unfold Oper.wp
  simp [execOp, hop, go_sem, he]
  refine (numbers_any R c ao n cap w).mono ?_
  rintro e w' ⟨rfl, rfl⟩
  exact hk
theorem op_alloc (hop : o.op = Op.alloc 187) (hk : K (a.put o.dst (.pointer (some ⟨w.heap.size, 0, none⟩))) (w.alloc (.cells #[.nilFunc] 187))) : o.wp Tryz.prog a w K Q := by
  unfold Oper.wp
  simp [execOp, hop, go_sem]
  exact hk
theorem op_store {p f b : Nat} {fn : Fn} {fi ca : Array Value} {x : Value} (hd : o.dst = none) (hop : o.op = Op.store 187 (Operand.tmp p) (Operand.tmp f)) (hp : a.tmps[p]?.getD undef = .pointer (some ⟨b, 0, none⟩)) (hf : a.tmps[f]?.getD undef = .func fn fi ca) (hb : w.heap[b]? = some (.cells #[x] 187 (0, 0)))
    (hk : K a (w.setCell ⟨b, 0, none⟩ (.func fn fi ca))) : o.wp Tryz.prog a w K Q := by
  have c1 := cell_of_one hb
  have c2 := free_of_one hb
  unfold Oper.wp
  simp [execOp, hop, go_sem, hp, hf, c1, c2, hd]
  exact hk
end
abbrev atFn (k : Nat) : Value := .func (.func 182) #[] #[.pointer (some ⟨k, 0, none⟩)]
def AtInv (fr : Value → Value → Value → Value → Value → Value → Act) (w0 : World) (A B : Value) (oA oB : Obj) (l : Array Bool) (a : Act) (w : World) : Prop :=
  ∃ b0 b1 b2 b3 b4 b5 b6 b7 : Bool, l = #[b0, b1, b2, b3, b4, b5, b6, b7] ∧ (b3 = true → b2 = true) ∧ (b6 = true → b1 = true ∧ b3 = true ∧ b4 = true ∧ b5 = true) ∧ (b7 = true → b1 = true ∧ b3 = true ∧ b4 = true ∧ b5 = true) ∧
  ∃ (xA yA xB yB pA pB : Value) (kA kB nA nB : Nat), a = fr xA yA xB yB pA pB ∧ Below w0.heap.size w0 w ∧ (b0 = true → xA = A) ∧ (b2 = true → xB = B) ∧
    (b1 = true → yA = atFn kA ∧ w.heap[kA]? = some oA) ∧ (b3 = true → yB = atFn kB ∧ w.heap[kB]? = some oB) ∧
    (b4 = true → pA = .pointer (some ⟨nA, 0, none⟩) ∧ w.heap[nA]? = some (.cells #[bif b6 then atFn kA else .nilFunc] 187 (0, 0))) ∧
    (b5 = true → pB = .pointer (some ⟨nB, 0, none⟩) ∧ w.heap[nB]? = some (.cells #[bif b7 then atFn kB else .nilFunc] 187 (0, 0))) ∧ (b4 = true → b5 = true → nA ≠ nB) ∧
    (b4 = true → w0.heap.size ≤ nA) ∧ (b5 = true → w0.heap.size ≤ nB)
set_option maxRecDepth 20000 in
theorem two_ats {id : Nat} {pos : String} {sA sB dA fA dB fB qA qB : Nat} {Q : Exit → Act → World → Prop} {w0 : World} (fr : Value → Value → Value → Value → Value → Value → Act)
    {Ra ca Rb cb : Int} {ao bo : Option Addr} {n cap m cap' : Nat} {BA BB : Nat}
    (hA : w0.heap[BA]? = some (.cells #[.int .i64 Ra, .int .i64 ca, .slice ao n cap] 29 (0, 0))) (hB : w0.heap[BB]? = some (.cells #[.int .i64 Rb, .int .i64 cb, .slice bo m cap'] 29 (0, 0)))
    (p1 : ∀ a b c d e f x, (fr a b c d e f).put (some dA) x = fr x b c d e f) (p2 : ∀ a b c d e f x, (fr a b c d e f).put (some fA) x = fr a x c d e f) (p3 : ∀ a b c d e f x, (fr a b c d e f).put (some dB) x = fr a b x d e f)
    (p4 : ∀ a b c d e f x, (fr a b c d e f).put (some fB) x = fr a b c x e f) (p5 : ∀ a b c d e f x, (fr a b c d e f).put (some qA) x = fr a b c d x f) (p6 : ∀ a b c d e f x, (fr a b c d e f).put (some qB) x = fr a b c d e x)
    (e1 : ∀ a b c d e f, (fr a b c d e f).tmps[sA]?.getD undef = .pointer (some ⟨BA, 0, none⟩)) (e2 : ∀ a b c d e f, (fr a b c d e f).tmps[sB]?.getD undef = .pointer (some ⟨BB, 0, none⟩))
    (e3 : ∀ a b c d e f, (fr a b c d e f).tmps[dA]?.getD undef = a) (e4 : ∀ a b c d e f, (fr a b c d e f).tmps[fA]?.getD undef = b) (e5 : ∀ a b c d e f, (fr a b c d e f).tmps[dB]?.getD undef = c)
    (e6 : ∀ a b c d e f, (fr a b c d e f).tmps[fB]?.getD undef = d) (e7 : ∀ a b c d e f, (fr a b c d e f).tmps[qA]?.getD undef = e) (e8 : ∀ a b c d e f, (fr a b c d e f).tmps[qB]?.getD undef = f)
    {a : Act} (x1 x2 x3 x4 x5 x6 : Value) (h0 : a = fr x1 x2 x3 x4 x5 x6) (hm : Tryz.prog.follows .mixedOrders = true)
    (hQ : ∀ (kA kB nA nB : Nat) (w : World), Below w0.heap.size w0 w → w.heap[kA]? = some (.cells #[.int .i64 Ra, .int .i64 ca, .slice ao n cap] 29 (0, 0)) → w.heap[kB]? = some (.cells #[.int .i64 Rb, .int .i64 cb, .slice bo m cap'] 29 (0, 0)) →
      w.heap[nA]? = some (.cells #[atFn kA] 187 (0, 0)) → w.heap[nB]? = some (.cells #[atFn kB] 187 (0, 0)) →
      Q .normal (fr (.agg #[.int .i64 Ra, .int .i64 ca, .slice ao n cap]) (atFn kA) (.agg #[.int .i64 Rb, .int .i64 cb, .slice bo m cap']) (atFn kB) (.pointer (some ⟨nA, 0, none⟩)) (.pointer (some ⟨nB, 0, none⟩))) w) :
    (Code.region id (atOps pos sA sB dA fA dB fB qA qB) true).wp Tryz.prog Q a w0 := by
  refine wp_region_any hm (wpAny_inv (AtInv fr w0 (.agg #[.int .i64 Ra, .int .i64 ca, .slice ao n cap]) (.agg #[.int .i64 Rb, .int .i64 cb, .slice bo m cap']) (.cells #[.int .i64 Ra, .int .i64 ca, .slice ao n cap] 29 (0, 0)) (.cells #[.int .i64 Rb, .int .i64 cb, .slice bo m cap'] 29 (0, 0)))
    atCnt ?_ ?_ _ _ _ _ ?_ ?_)
  · rintro l a w i ⟨b0, b1, b2, b3, b4, b5, b6, b7, rfl, g1, g2, g3, xA, yA, xB, yB, pA, pB, kA, kB, nA, nB, rfl, hb, k0, k2, k1, k3, k4, k5, k6, k7, k8⟩ hi
    have hp := at_ready pos sA sB dA fA dB fB qA qB b0 b1 b2 b3 b4 b5 b6 b7 g1 i hi
    have hi8 : i < 8 := by
      simp only [Region.ready, atOps, List.mem_filter, List.mem_range] at hi
      exact hi.1
    clear hi
    have hlt : ∀ {k : Nat} {o : Obj}, w.heap[k]? = some o → k < w.heap.size := fun h => lt_of_block h
    rcases (by omega : i = 0 ∨ i = 1 ∨ i = 2 ∨ i = 3 ∨ i = 4 ∨ i = 5 ∨ i = 6 ∨ i = 7) with rfl | rfl | rfl | rfl | rfl | rfl | rfl | rfl
    all_goals simp [atPre] at hp
    · subst hp
      refine ⟨by simp [atCnt], wpOp_of _ rfl rfl (op_load rfl (e1 _ _ _ _ _ _) (keep hb hA) ?_)⟩
      show AtInv _ _ _ _ _ _ #[true, b1, b2, b3, b4, b5, b6, b7] ((fr xA yA xB yB pA pB).put (some dA) _) w
      rw [p1]
      exact ⟨_, _, _, _, _, _, _, _, rfl, g1, g2, g3, _, _, _, _, _, _, kA, kB, nA, nB, rfl, hb, fun _ => rfl, k2, k1, k3, k4, k5, k6, k7, k8⟩
    · obtain ⟨rfl, rfl⟩ := hp
      have h6 : b6 = false := by cases h : b6 with | false => rfl | true => exact absurd (g2 h).1 (by simp)
      subst h6
      refine ⟨by simp [atCnt], wpOp_of _ rfl rfl (op_numbers rfl (by rw [e3]; exact k0 rfl) ?_)⟩
      show AtInv _ _ _ _ _ _ #[true, true, b2, b3, b4, b5, false, b7] ((fr xA yA xB yB pA pB).put (some fA) _) _
      rw [p2]
      exact ⟨_, _, _, _, _, _, _, _, rfl, g1, fun h => absurd h (by simp), fun h => absurd (g3 h).1 (by simp), _, _, _, _, _, _, w.heap.size, kB, nA, nB, rfl, bt hb (box_below _ _), k0, k2, fun _ => ⟨rfl, heap_new w _⟩, fun h => ⟨(k3 h).1, heap_old (k3 h).2 _⟩, fun h => ⟨(k4 h).1, heap_old (k4 h).2 _⟩, fun h => ⟨(k5 h).1, heap_old (k5 h).2 _⟩, k6, k7, k8⟩
    · subst hp
      refine ⟨by simp [atCnt], wpOp_of _ rfl rfl (op_load rfl (e2 _ _ _ _ _ _) (keep hb hB) ?_)⟩
      show AtInv _ _ _ _ _ _ #[b0, b1, true, b3, b4, b5, b6, b7] ((fr xA yA xB yB pA pB).put (some dB) _) w
      rw [p3]
      exact ⟨_, _, _, _, _, _, _, _, rfl, fun _ => rfl, g2, g3, _, _, _, _, _, _, kA, kB, nA, nB, rfl, hb, k0, fun _ => rfl, k1, k3, k4, k5, k6, k7, k8⟩
    · obtain ⟨⟨rfl, rfl⟩, rfl⟩ := hp
      have h7 : b7 = false := by cases h : b7 with | false => rfl | true => exact absurd (g3 h).2.1 (by simp)
      subst h7
      refine ⟨by simp [atCnt], wpOp_of _ rfl rfl (op_numbers rfl (by rw [e5]; exact k2 rfl) ?_)⟩
      show AtInv _ _ _ _ _ _ #[b0, true, true, true, b4, b5, b6, false] ((fr xA yA xB yB pA pB).put (some fB) _) _
      rw [p4]
      exact ⟨_, _, _, _, _, _, _, _, rfl, fun _ => rfl, fun h => absurd (g2 h).2.1 (by simp), fun h => absurd h (by simp), _, _, _, _, _, _, kA, w.heap.size, nA, nB, rfl, bt hb (box_below _ _), k0, k2, fun h => ⟨(k1 h).1, heap_old (k1 h).2 _⟩, fun _ => ⟨rfl, heap_new w _⟩, fun h => ⟨(k4 h).1, heap_old (k4 h).2 _⟩, fun h => ⟨(k5 h).1, heap_old (k5 h).2 _⟩, k6, k7, k8⟩
    · subst hp
      have h6 : b6 = false := by cases h : b6 with | false => rfl | true => exact absurd (g2 h).2.2.1 (by simp)
      subst h6
      refine ⟨by simp [atCnt], wpOp_of _ rfl rfl (op_alloc rfl ?_)⟩
      show AtInv _ _ _ _ _ _ #[b0, b1, b2, b3, true, b5, false, b7] ((fr xA yA xB yB pA pB).put (some qA) _) _
      rw [p5]
      exact ⟨_, _, _, _, _, _, _, _, rfl, g1, fun h => absurd h (by simp), fun h => absurd (g3 h).2.2.1 (by simp), _, _, _, _, _, _, kA, kB, w.heap.size, nB, rfl, bt hb (box_below _ _), k0, k2, fun h => ⟨(k1 h).1, heap_old (k1 h).2 _⟩, fun h => ⟨(k3 h).1, heap_old (k3 h).2 _⟩, fun _ => ⟨rfl, heap_new w _⟩, fun h => ⟨(k5 h).1, heap_old (k5 h).2 _⟩, fun _ h => by have := hlt (k5 h).2; omega, fun _ => hb.size, k8⟩
    · subst hp
      have h7 : b7 = false := by cases h : b7 with | false => rfl | true => exact absurd (g3 h).2.2.2 (by simp)
      subst h7
      refine ⟨by simp [atCnt], wpOp_of _ rfl rfl (op_alloc rfl ?_)⟩
      show AtInv _ _ _ _ _ _ #[b0, b1, b2, b3, b4, true, b6, false] ((fr xA yA xB yB pA pB).put (some qB) _) _
      rw [p6]
      exact ⟨_, _, _, _, _, _, _, _, rfl, g1, fun h => absurd (g2 h).2.2.2 (by simp), fun h => absurd h (by simp), _, _, _, _, _, _, kA, kB, nA, w.heap.size, rfl, bt hb (box_below _ _), k0, k2, fun h => ⟨(k1 h).1, heap_old (k1 h).2 _⟩, fun h => ⟨(k3 h).1, heap_old (k3 h).2 _⟩, fun h => ⟨(k4 h).1, heap_old (k4 h).2 _⟩, fun _ => ⟨rfl, heap_new w _⟩, fun h _ => by have := hlt (k4 h).2; omega, k7, fun _ => hb.size⟩
    · obtain ⟨⟨⟨⟨⟨⟨rfl, rfl⟩, rfl⟩, rfl⟩, rfl⟩, rfl⟩, rfl⟩ := hp
      obtain ⟨rfl, j1⟩ := k1 rfl
      obtain ⟨rfl, j3⟩ := k3 rfl
      obtain ⟨rfl, j4⟩ := k4 rfl
      obtain ⟨rfl, j5⟩ := k5 rfl
      refine ⟨by simp [atCnt], wpOp_of _ rfl rfl (op_store rfl rfl (e7 _ _ _ _ _ _) (e4 _ _ _ _ _ _) j4 ?_)⟩
      have ne : ∀ {k : Nat} {c : Array Value}, w.heap[k]? = some (.cells c 29 (0, 0)) → k ≠ nA := fun h e => by subst e; rw [j4] at h; simp at h
      have st : ∀ {k : Nat} {o : Obj}, k ≠ nA → w.heap[k]? = some o → (w.setCell ⟨nA, 0, none⟩ (atFn kA)).heap[k]? = some o := fun h1 h2 => (Below.heap_setCell _ _ _ _ h1).trans h2
      exact ⟨_, _, _, _, _, _, _, _, rfl, g1, fun _ => ⟨rfl, rfl, rfl, rfl⟩, g3, _, _, _, _, _, _, kA, kB, nA, nB, rfl, hb.setCell (p := ⟨nA, 0, none⟩) (k7 rfl) _, k0, k2, fun _ => ⟨rfl, st (ne j1) j1⟩, fun _ => ⟨rfl, st (ne j3) j3⟩, fun _ => ⟨rfl, one_setCell j4⟩, fun _ => ⟨rfl, st (k6 rfl rfl).symm j5⟩, k6, k7, k8⟩
    · obtain ⟨⟨⟨⟨⟨⟨⟨rfl, rfl⟩, rfl⟩, rfl⟩, rfl⟩, rfl⟩, rfl⟩, rfl⟩ := hp
      obtain ⟨rfl, j1⟩ := k1 rfl
      obtain ⟨rfl, j3⟩ := k3 rfl
      obtain ⟨rfl, j4⟩ := k4 rfl
      obtain ⟨rfl, j5⟩ := k5 rfl
      refine ⟨by simp [atCnt], wpOp_of _ rfl rfl (op_store rfl rfl (e8 _ _ _ _ _ _) (e6 _ _ _ _ _ _) j5 ?_)⟩
      have ne : ∀ {k : Nat} {c : Array Value}, w.heap[k]? = some (.cells c 29 (0, 0)) → k ≠ nB := fun h e => by subst e; rw [j5] at h; simp at h
      have st : ∀ {k : Nat} {o : Obj}, k ≠ nB → w.heap[k]? = some o → (w.setCell ⟨nB, 0, none⟩ (atFn kB)).heap[k]? = some o := fun h1 h2 => (Below.heap_setCell _ _ _ _ h1).trans h2
      exact ⟨_, _, _, _, _, _, _, _, rfl, g1, g2, fun _ => ⟨rfl, rfl, rfl, rfl⟩, _, _, _, _, _, _, kA, kB, nA, nB, rfl, hb.setCell (p := ⟨nB, 0, none⟩) (k8 rfl) _, k0, k2, fun _ => ⟨rfl, st (ne j1) j1⟩, fun _ => ⟨rfl, st (ne j3) j3⟩, fun _ => ⟨rfl, st (k6 rfl rfl) j4⟩, fun _ => ⟨rfl, one_setCell j5⟩, k6, k7, k8⟩
  · rintro l a w ⟨b0, b1, b2, b3, b4, b5, b6, b7, rfl, g1, g2, g3, xA, yA, xB, yB, pA, pB, kA, kB, nA, nB, rfl, hb, k0, k2, k1, k3, k4, k5, k6, k7, k8⟩ hr
    obtain ⟨rfl, rfl, rfl, rfl, rfl, rfl, rfl, rfl⟩ := at_done pos sA sB dA fA dB fB qA qB b0 b1 b2 b3 b4 b5 b6 b7 hr
    obtain ⟨rfl, j1⟩ := k1 rfl
    obtain ⟨rfl, j3⟩ := k3 rfl
    obtain ⟨rfl, j4⟩ := k4 rfl
    obtain ⟨rfl, j5⟩ := k5 rfl
    obtain rfl := k0 rfl
    obtain rfl := k2 rfl
    exact hQ kA kB nA nB w hb j1 j3 j4 j5
  · refine ⟨false, false, false, false, false, false, false, false, rfl, ?_, ?_, ?_, x1, x2, x3, x4, x5, x6, 0, 0, 0, 0, h0, (Below.refl _ _).drew, ?_, ?_, ?_, ?_, ?_, ?_, ?_, ?_, ?_⟩
    all_goals (intro h; cases h)
  · exact Nat.le_refl 8
def pres (ops : Array Oper) (i : Nat) : List Nat := ((ops[i]?).map fun o => (o.after.toList.filter (Region.binds .any)).map (·.on)).getD []
theorem mem_ready {ops : Array Oper} {l : Array Bool} {i : Nat} : i ∈ Region.ready .any ops l ↔ i < ops.size ∧ l.getD i true = false ∧ ∀ k ∈ pres ops i, l.getD k false = true := by
  simp only [Region.ready, List.mem_filter, List.mem_range, Bool.and_eq_true, Bool.not_eq_true', pres]
  constructor
  · rintro ⟨h1, h2, h3⟩
    refine ⟨h1, h2, ?_⟩
    rw [Array.getElem?_eq_getElem h1] at h3 ⊢
    simp only [Option.map_some, Option.getD_some, Array.all_eq_true, Bool.or_eq_true, Bool.not_eq_true'] at h3
    intro k hk
    simp only [Option.map_some, Option.getD_some, List.mem_map, List.mem_filter] at hk
    obtain ⟨e, ⟨he, hb⟩, rfl⟩ := hk
    obtain ⟨j, hj, hje⟩ := Array.mem_iff_getElem.1 (Array.mem_toList_iff.1 he)
    rcases h3 j hj with h | h
    · rw [hje, hb] at h; cases h
    · rw [hje] at h; exact h
  · rintro ⟨h1, h2, h3⟩
    refine ⟨h1, h2, ?_⟩
    rw [Array.getElem?_eq_getElem h1] at h3 ⊢
    simp only [Option.map_some, Option.getD_some, Array.all_eq_true, Bool.or_eq_true, Bool.not_eq_true']
    intro j hj
    cases hb : Region.binds .any (ops[i].after[j]) with
    | false => exact .inl rfl
    | true =>
      refine .inr (h3 _ ?_)
      simp only [Option.map_some, Option.getD_some, List.mem_map, List.mem_filter]
      exact ⟨_, ⟨Array.mem_toList_iff.2 (Array.getElem_mem hj), hb⟩, rfl⟩
def cntF (l : Array Bool) : Nat := (l.toList.map fun b => bif b then 0 else 1).sum
theorem cntL_set : ∀ (l : List Bool) (i : Nat), l[i]? = some false → ((l.set i true).map fun b => bif b then 0 else 1).sum < (l.map fun b => bif b then 0 else 1).sum
  | [], i, h => by simp at h
  | b :: l, 0, h => by simp at h; subst h; simp
  | b :: l, i + 1, h => by
    have := cntL_set l i (by simpa using h)
    simp only [List.set_cons_succ, List.map_cons, List.sum_cons]; omega
theorem cntF_set (l : Array Bool) (i : Nat) (h : l[i]? = some false) : cntF (l.setIfInBounds i true) < cntF l := by
  unfold cntF
  rw [Array.toList_setIfInBounds]
  exact cntL_set l.toList i (by simpa using h)
theorem wp_region_L {P : Program} {id : Nat} {ops : Array Oper} {Q : Exit → Act → World → Prop} {a : Act} {w : World} (hm : P.follows .mixedOrders = true) (hlt : ∀ i, i < ops.size → ∀ k ∈ pres ops i, k < i)
    (S : (Nat → Bool) → Act → World → Prop) (h0 : S (fun _ => false) a w.drew)
    (hstep : ∀ (L : Nat → Bool) a w i, i < ops.size → S L a w → (∀ j, j < ops.size → L j = true → ∀ k ∈ pres ops j, L k = true) → L i = false → (∀ k ∈ pres ops i, L k = true) → wpOp P ops Q i (S (fun j => if j = i then true else L j)) a w)
    (hend : ∀ (L : Nat → Bool) a w, S L a w → (∀ j, j < ops.size → L j = true) → Q .normal a w) : (Code.region id ops true).wp P Q a w := by
  refine wp_region_any hm (wpAny_inv (fun l a w => l.size = ops.size ∧ (∀ j, j < ops.size → l.getD j false = true → ∀ k ∈ pres ops j, l.getD k false = true) ∧ S (fun j => l.getD j false) a w) cntF ?_ ?_ _ _ _ _ ?_ ?_)
  · rintro l a w i ⟨hs, hc, hS⟩ hi
    obtain ⟨h1, h2, h3⟩ := mem_ready.1 hi
    have hil : i < l.size := by omega
    have h2' : l.getD i false = false := by
      rw [Array.getD_eq_getD_getElem?, Array.getElem?_eq_getElem hil] at h2 ⊢; exact h2
    have hg : l[i]? = some false := by rw [Array.getElem?_eq_getElem hil]; rw [Array.getD_eq_getD_getElem?, Array.getElem?_eq_getElem hil] at h2; simpa using h2
    have hset : ∀ j, (l.setIfInBounds i true).getD j false = if j = i then true else l.getD j false := by
      intro j
      rw [Array.getD_eq_getD_getElem?, Array.getElem?_setIfInBounds, Array.getD_eq_getD_getElem?]
      by_cases h : i = j
      · subst h; rw [if_pos rfl, if_pos rfl, if_pos hil]; rfl
      · rw [if_neg h, if_neg (fun e => h e.symm)]
    refine ⟨cntF_set l i hg, wpOp_mono ?_ (hstep _ a w i h1 hS hc h2' h3)⟩
    intro a' w' h
    refine ⟨by rw [Array.size_setIfInBounds]; exact hs, ?_, ?_⟩
    · intro j hj hjt k hk
      rw [hset] at hjt ⊢
      by_cases e : k = i
      · rw [if_pos e]
      · rw [if_neg e]
        by_cases e2 : j = i
        · subst e2; exact h3 k hk
        · rw [if_neg e2] at hjt; exact hc j hj hjt k hk
    · have e : (fun j => (l.setIfInBounds i true).getD j false) = fun j => if j = i then true else l.getD j false := funext hset
      rw [e]; exact h
  · rintro l a w ⟨hs, hc, hS⟩ hr
    refine hend _ a w hS ?_
    have : ∀ m j, j < m → j < ops.size → l.getD j false = true := by
      intro m
      induction m with
      | zero => intro j hj; omega
      | succ m ih =>
        intro j hj hjs
        cases e : l.getD j false with
        | true => rfl
        | false =>
          have hjl : j < l.size := by omega
          have : j ∈ Region.ready .any ops l := mem_ready.2 ⟨hjs, by rw [Array.getD_eq_getD_getElem?, Array.getElem?_eq_getElem hjl] at e ⊢; exact e, fun k hk => ih k (by have := hlt j hjs k hk; omega) (by have := hlt j hjs k hk; omega)⟩
          rw [hr] at this; cases this
    exact fun j hj => this (j + 1) j (by omega) hj
  · refine ⟨by simp, ?_, ?_⟩
    · intro j hj hjt
      exfalso
      rw [Array.getD_eq_getD_getElem?] at hjt
      simp [hj] at hjt
    · have e : (fun j => (Array.replicate ops.size false).getD j false) = fun _ => false := by
        funext j
        rw [Array.getD_eq_getD_getElem?]
        by_cases h : j < ops.size <;> simp [h]
      rw [e]; exact h0
  · unfold cntF
    have : ∀ n : Nat, ((List.replicate n false).map fun b => bif b then 0 else 1).sum = n := by
      intro n
      induction n with
      | zero => rfl
      | succ n ih => rw [List.replicate_succ, List.map_cons, List.sum_cons, ih]; simp; omega
    rw [Array.toList_replicate, this]
    exact Nat.le_refl _
end Go.Proofs.YtoefekkdjcflmaaGreatDoor

