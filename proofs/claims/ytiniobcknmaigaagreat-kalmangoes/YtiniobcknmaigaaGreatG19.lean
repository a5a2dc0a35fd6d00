/-
  Texts joined, in the order in which they stand on one another: KRetV MidR MathE.
-/
import Derived.Test.YtiniobcknmaigaaGreatG01
import Derived.Test.YtiniobcknmaigaaGreatG05
import Derived.Test.YtiniobcknmaigaaGreatG18
/-
  What is known of the values of a region that puts a track together and lays it into a variable (N).
-/
namespace Go.Proofs.YtiniobcknmaigaaGreat
open Go.RowKit Go.Sort Qm

/-- a track, its numbers in S or in old memory -/
def TTrk (B N Lo : Nat) (R C R' C' : Int) (xs ps : List Int) (v : Value) (S : Nat → Prop) (w : World) : Prop := ∃ ao ac bo bc, v = .agg #[.int .i64 R, .int .i64 C, .slice ao xs.length ac, .int .i64 R', .int .i64 C', .slice bo ps.length bc] ∧
  Sees w (.slice ao xs.length ac) xs ∧ Sees w (.slice bo ps.length bc) ps ∧ OkS B N S (.slice ao xs.length ac) ∧ OkS B N S (.slice bo ps.length bc) ∧ New Lo (.slice ao xs.length ac) ∧ New Lo (.slice bo ps.length bc)
theorem TTrk.stab {B N Lo : Nat} {R C R' C' : Int} {xs ps : List Int} {v : Value} {S : Nat → Prop} {w w' : World} (h : TTrk B N Lo R C R' C' xs ps v S w) (ha : Agr B N S w w') : TTrk B N Lo R C R' C' xs ps v S w' := by
  obtain ⟨ao, ac, bo, bc, h1, h2, h3, h4, h5⟩ := h
  exact ⟨ao, ac, bo, bc, h1, h2.agr h4 ha, h3.agr h5.1 ha, h4, h5⟩
/-- it, laid into the variable N -/
def TStT (B N Lo : Nat) (R C R' C' : Int) (xs ps : List Int) (S : Nat → Prop) (w : World) : Prop := S N ∧ ∃ ao ac bo bc, w.heap[N]? = some (.cells #[.int .i64 R, .int .i64 C, .slice ao xs.length ac, .int .i64 R', .int .i64 C', .slice bo ps.length bc] 26 (0, 0)) ∧
  Sees w (.slice ao xs.length ac) xs ∧ Sees w (.slice bo ps.length bc) ps ∧ OkS B N S (.slice ao xs.length ac) ∧ OkS B N S (.slice bo ps.length bc) ∧ New Lo (.slice ao xs.length ac) ∧ New Lo (.slice bo ps.length bc)
theorem TStT.stab {B N Lo : Nat} {R C R' C' : Int} {xs ps : List Int} {S : Nat → Prop} {w w' : World} (h : TStT B N Lo R C R' C' xs ps S w) (ha : Agr B N S w w') : TStT B N Lo R C R' C' xs ps S w' := by
  obtain ⟨h0, ao, ac, bo, bc, h1, h2, h3, h4, h5⟩ := h
  exact ⟨h0, ao, ac, bo, bc, (ha.2 N (.inl h0)).trans h1, h2.agr h4 ha, h3.agr h5.1 ha, h4, h5⟩
theorem mod_six {w : World} {N : Nat} (y0 y1 y2 y3 y4 y5 : Value) : Mod (fun b => b = N) w ((((((w.setCell ⟨N, 0, none⟩ y0).setCell ⟨N, 1, none⟩ y1).setCell ⟨N, 2, none⟩ y2).setCell ⟨N, 3, none⟩ y3).setCell ⟨N, 4, none⟩ y4).setCell ⟨N, 5, none⟩ y5) :=
  Mod.ofGb (gb_set (gb_set (gb_set (gb_set (gb_set (gb_set (gb_refl w (some N)) 0 y0) 1 y1) 2 y2) 3 y3) 4 y4) 5 y5)
section
variable {a : Act} {w : World} {K : Act → World → Prop} {Q : Exit → Act → World → Prop} {o : Oper}
theorem op_loadT {s b : Nat} {R c R' c' : Int} {ao bo : Option Addr} {n cap m bcap : Nat} (hop : o.op = Op.load 26 (Operand.tmp s)) (he : a.tmps[s]?.getD undef = .pointer (some ⟨b, 0, none⟩))
    (hb : w.heap[b]? = some (.cells #[.int .i64 R, .int .i64 c, .slice ao n cap, .int .i64 R', .int .i64 c', .slice bo m bcap] 26 (0, 0)))
    (hk : K (a.put o.dst (.agg #[.int .i64 R, .int .i64 c, .slice ao n cap, .int .i64 R', .int .i64 c', .slice bo m bcap])) w) : o.wp Tryz.prog a w K Q := by
  have h : w.cell? ⟨b, 0, none⟩ = some (.int .i64 R) ∧ w.cell? ⟨b, 1, none⟩ = some (.int .i64 c) ∧ w.cell? ⟨b, 2, none⟩ = some (.slice ao n cap) ∧ w.cell? ⟨b, 3, none⟩ = some (.int .i64 R') ∧ w.cell? ⟨b, 4, none⟩ = some (.int .i64 c') ∧ w.cell? ⟨b, 5, none⟩ = some (.slice bo m bcap) := by simp [World.cell?, hb]
  obtain ⟨c0, c1, c2, c3, c4, c5⟩ := h
  unfold Oper.wp
  simp [execOp, hop, go_sem, he, c0, c1, c2, c3, c4, c5]
  exact hk
theorem op_fieldN {s b : Nat} (hop : o.op = Op.fieldAddr 54 (Operand.tmp s) 0) (he : a.tmps[s]?.getD undef = .pointer (some ⟨b, 0, none⟩)) (hk : K (a.put o.dst (.pointer (some ⟨b, 0, none⟩))) w) : o.wp Tryz.prog a w K Q := by
  unfold Oper.wp
  simp [execOp, hop, go_sem, he]
  exact hk
theorem op_loadB {s b : Nat} {v : Bool} (hop : o.op = Op.load 4 (Operand.tmp s)) (he : a.tmps[s]?.getD undef = .pointer (some ⟨b, 0, none⟩)) (hc : w.cell? ⟨b, 0, none⟩ = some (.bool v)) (hk : K (a.put o.dst (.bool v)) w) : o.wp Tryz.prog a w K Q := by
  unfold Oper.wp
  simp [execOp, hop, go_sem, he, hc]
  exact hk
end
end Go.Proofs.YtiniobcknmaigaaGreat

/-
  The second statement of the document's mid, in whatever order: what it leaves.
-/
namespace Go.Proofs.YtiniobcknmaigaaGreat
open Go.RowKit Go.Sort Qm
set_option linter.unusedVariables false

/-- the blocks of a matrix; the matrix of several results -/
def obl : Value → List Nat
  | .agg cs => (cs[2]?.bind Value.ownBlock).toList
  | _ => []
def tupOf : Value → Value
  | .tuple vs => vs[0]?.getD undef
  | v => v
theorem three_set {w : World} {D C k : Nat} {v : Value} {t : TypeId} (hk : k < 3) (h : ∃ x y z, w.heap[D]? = some (.cells #[x, y, z] t (0, 0))) : ∃ x y z, (w.setCell ⟨C, k, none⟩ v).heap[D]? = some (.cells #[x, y, z] t (0, 0)) := by
  obtain ⟨x, y, z, h⟩ := h
  by_cases e : D = C
  · subst e
    have := heap_setCell_same w D k _ t v h
    rcases (by omega : k = 0 ∨ k = 1 ∨ k = 2) with rfl | rfl | rfl
    · exact ⟨_, _, _, this⟩
    · exact ⟨_, _, _, this⟩
    · exact ⟨_, _, _, this⟩
  · exact ⟨x, y, z, by rw [Below.heap_setCell _ _ _ _ e]; exact h⟩
theorem entersTr : ∀ (args : Array Value) (a : World), Sem.run Tryz.prog (callFunc 32 args) a = Result.ok (Next.enter 32 args) a := by
  intro args a; simp [callFunc, Tryz.func32, go_sem]; rfl
theorem enters33 : ∀ (args : Array Value) (a : World), Sem.run Tryz.prog (callFunc 24 args) a = Result.ok (Next.enter 24 args) a := by
  intro args a; simp [callFunc, Tryz.func24, go_sem]; rfl
def midOps : Array Oper := #[
    { dst := some 20, op := Op.load 24 (Operand.tmp 6), type := 24, pos := "ref.go:69", after := #[], guard := none },
    { dst := some 21, op := Op.load 24 (Operand.tmp 2), type := 24, pos := "ref.go:69", after := #[], guard := none },
    { dst := some 22, op := Op.call { callee := Callee.value (Operand.func 32), args := #[Operand.tmp 21], argTypes := #[24] }, type := 24, pos := "ref.go:69", after := #[{ on := 1, ground := Ground.data }], guard := none },
    { dst := some 23, op := Op.call { callee := Callee.value (Operand.func 24), args := #[Operand.tmp 20, Operand.tmp 22], argTypes := #[24, 24] }, type := 61, pos := "ref.go:69", after := #[{ on := 0, ground := Ground.data }, { on := 2, ground := Ground.data }, { on := 2, ground := Ground.chain }], guard := none },
    { dst := some 19, op := Op.move (Operand.tmp 23), type := 61, pos := "ref.go:69", after := #[{ on := 3, ground := Ground.data }], guard := none },
    { dst := some 24, op := Op.extract (Operand.tmp 19) 0, type := 24, pos := "ref.go:69", after := #[{ on := 4, ground := Ground.data }], guard := none },
    { dst := some 25, op := Op.extract (Operand.tmp 19) 1, type := 4, pos := "ref.go:69", after := #[{ on := 4, ground := Ground.data }, { on := 9, ground := Ground.gcOnly Departure.lateStores }], guard := none },
    { dst := some 26, op := Op.extract (Operand.tmp 19) 2, type := 3, pos := "ref.go:69", after := #[{ on := 4, ground := Ground.data }, { on := 10, ground := Ground.gcOnly Departure.lateStores }], guard := none },
    { dst := some 9, op := Op.alloc 24, type := 0, pos := "ref.go:69", after := #[], guard := none },
    { dst := none, op := Op.store 24 (Operand.tmp 9) (Operand.tmp 24), type := 0, pos := "ref.go:69", after := #[{ on := 8, ground := Ground.data }, { on := 5, ground := Ground.data }, { on := 3, ground := Ground.chain }, { on := 0, ground := Ground.phase }, { on := 1, ground := Ground.phase }, { on := 2, ground := Ground.phase }, { on := 3, ground := Ground.phase }, { on := 4, ground := Ground.phase }, { on := 5, ground := Ground.phase }, { on := 6, ground := Ground.textOnly Departure.lateStores }, { on := 7, ground := Ground.textOnly Departure.lateStores }, { on := 8, ground := Ground.phase }], guard := none },
    { dst := some 10, op := Op.assign (Operand.tmp 25), type := 4, pos := "ref.go:69", after := #[{ on := 6, ground := Ground.data }, { on := 9, ground := Ground.chain }, { on := 0, ground := Ground.phase }, { on := 1, ground := Ground.phase }, { on := 2, ground := Ground.phase }, { on := 3, ground := Ground.phase }, { on := 4, ground := Ground.phase }, { on := 5, ground := Ground.phase }, { on := 6, ground := Ground.phase }, { on := 7, ground := Ground.textOnly Departure.lateStores }, { on := 8, ground := Ground.phase }, { on := 9, ground := Ground.phase }], guard := none },
    { dst := some 11, op := Op.assign (Operand.tmp 26), type := 3, pos := "ref.go:69", after := #[{ on := 7, ground := Ground.data }, { on := 10, ground := Ground.chain }, { on := 0, ground := Ground.phase }, { on := 1, ground := Ground.phase }, { on := 2, ground := Ground.phase }, { on := 3, ground := Ground.phase }, { on := 4, ground := Ground.phase }, { on := 5, ground := Ground.phase }, { on := 6, ground := Ground.phase }, { on := 7, ground := Ground.phase }, { on := 8, ground := Ground.phase }, { on := 9, ground := Ground.phase }, { on := 10, ground := Ground.phase }], guard := none }]
def midDst (i : Nat) : Nat := [20, 21, 22, 23, 19, 24, 25, 26, 9, 1000, 10, 11].getD i 0
def midFr (D2 : Nat) (D6 : Nat) (R : Nat) (N : Nat) (ao : Option Addr) (n : Nat) (cap : Nat) (mo : Option Addr) (m : Nat) (mcap : Nat) (ts : List Int) (zs : List Int) (X : Bool) (u0 u1 u3 u4 u5 u7 u8 u12 u13 u14 u15 u16 u17 u18 u27 u28 u29 u30 u31 : Value) (vs : Nat → Value) : Act := ⟨#[u0, u1, .pointer (some ⟨D2, 0, none⟩), u3, u4, u5, .pointer (some ⟨D6, 0, none⟩), u7, u8, vs 9, vs 10, vs 11, u12, u13, u14, u15, u16, u17, u18, vs 19, vs 20, vs 21, vs 22, vs 23, vs 24, vs 25, vs 26, u27, u28, u29, u30, u31], []⟩
def midT (W : Nat) (D2 : Nat) (D6 : Nat) (R : Nat) (N : Nat) (ao : Option Addr) (n : Nat) (cap : Nat) (mo : Option Addr) (m : Nat) (mcap : Nat) (ts : List Int) (zs : List Int) (X : Bool) : Nat → Value → World → Prop
  | 8, v, w => ∃ D, v = .pointer (some ⟨D, 0, none⟩) ∧ W ≤ D ∧ ∃ x y z, w.heap[D]? = some (.cells #[x, y, z] 24 (0, 0))
  | 2, v, w => ∃ sl, v = .agg #[.int .i64 N, .int .i64 R, sl] ∧ Sees w sl ts ∧ New W sl
  | 3, v, w => ∃ sl, v = .tuple #[.agg #[.int .i64 R, .int .i64 R, sl], .bool X, .int .i64 0] ∧ Sees w sl zs ∧ New W sl
  | 4, v, w => ∃ sl, v = .tuple #[.agg #[.int .i64 R, .int .i64 R, sl], .bool X, .int .i64 0] ∧ Sees w sl zs ∧ New W sl
  | 5, v, w => ∃ sl, v = .agg #[.int .i64 R, .int .i64 R, sl] ∧ Sees w sl zs ∧ New W sl
  | i, v, _ => v = ([.agg #[.int .i64 R, .int .i64 N, .slice mo m mcap], .agg #[.int .i64 R, .int .i64 N, .slice ao n cap], undef, undef, undef, undef, .bool X, .int .i64 0, undef, undef, .bool X, .int .i64 0] : List Value).getD i undef
def midO : Nat → Value → List Nat
  | 2, v => obl v
  | 3, v => obl (tupOf v)
  | 4, v => obl (tupOf v)
  | 5, v => obl v
  | _, _ => []
theorem midT_mono (W : Nat) (D2 : Nat) (D6 : Nat) (R : Nat) (N : Nat) (ao : Option Addr) (n : Nat) (cap : Nat) (mo : Option Addr) (m : Nat) (mcap : Nat) (ts : List Int) (zs : List Int) (X : Bool) : ∀ i v w w', midT W D2 D6 R N ao n cap mo m mcap ts zs X i v w → Below w.heap.size w w' → midT W D2 D6 R N ao n cap mo m mcap ts zs X i v w' := by
  intro i v w w' h hb
  unfold midT at *
  split
  · obtain ⟨D, h1, h2, x, y, z, h3⟩ := h; exact ⟨D, h1, h2, x, y, z, keep hb h3⟩
  · obtain ⟨sl, h1, h2, h3⟩ := h; exact ⟨sl, h1, h2.below hb, h3⟩
  · obtain ⟨sl, h1, h2, h3⟩ := h; exact ⟨sl, h1, h2.below hb, h3⟩
  · obtain ⟨sl, h1, h2, h3⟩ := h; exact ⟨sl, h1, h2.below hb, h3⟩
  · obtain ⟨sl, h1, h2, h3⟩ := h; exact ⟨sl, h1, h2.below hb, h3⟩
  · simp_all
theorem midT_set (W : Nat) (D2 : Nat) (D6 : Nat) (R : Nat) (N : Nat) (ao : Option Addr) (n : Nat) (cap : Nat) (mo : Option Addr) (m : Nat) (mcap : Nat) (ts : List Int) (zs : List Int) (X : Bool) (C : Nat) (k : Nat) (hk : k < 3) (x : Value) : ∀ i v w, (∀ k ∈ midO i v, k ≠ C) → midT W D2 D6 R N ao n cap mo m mcap ts zs X i v w → midT W D2 D6 R N ao n cap mo m mcap ts zs X i v (w.setCell ⟨C, k, none⟩ x) := by
  intro i v w ho h
  unfold midT at *
  unfold midO at ho
  split
  · obtain ⟨D, h1, h2, h3⟩ := h; exact ⟨D, h1, h2, three_set hk h3⟩
  · obtain ⟨sl, h1, h2, h3⟩ := h; subst h1; exact ⟨sl, rfl, h2.set' (a := ⟨C, k, none⟩) (fun b hb => ho b (by simp [obl, hb])) x, h3⟩
  · obtain ⟨sl, h1, h2, h3⟩ := h; subst h1; exact ⟨sl, rfl, h2.set' (a := ⟨C, k, none⟩) (fun b hb => ho b (by simp [obl, tupOf, hb])) x, h3⟩
  · obtain ⟨sl, h1, h2, h3⟩ := h; subst h1; exact ⟨sl, rfl, h2.set' (a := ⟨C, k, none⟩) (fun b hb => ho b (by simp [obl, tupOf, hb])) x, h3⟩
  · obtain ⟨sl, h1, h2, h3⟩ := h; subst h1; exact ⟨sl, rfl, h2.set' (a := ⟨C, k, none⟩) (fun b hb => ho b (by simp [obl, hb])) x, h3⟩
  · simp_all
theorem midO_lt (W : Nat) (D2 : Nat) (D6 : Nat) (R : Nat) (N : Nat) (ao : Option Addr) (n : Nat) (cap : Nat) (mo : Option Addr) (m : Nat) (mcap : Nat) (ts : List Int) (zs : List Int) (X : Bool) (z_ts : 0 < ts.length) (z_zs : 0 < zs.length) : ∀ i v w, midT W D2 D6 R N ao n cap mo m mcap ts zs X i v w → ∀ k ∈ midO i v, k < w.heap.size := by
  intro i v w h k hk
  unfold midT at h
  unfold midO at hk
  split at h
  · cases hk
  · obtain ⟨sl, h1, h2, _⟩ := h; subst h1; exact h2.lt z_ts k (by simpa [obl] using hk)
  · obtain ⟨sl, h1, h2, _⟩ := h; subst h1; exact h2.lt z_zs k (by simpa [obl, tupOf] using hk)
  · obtain ⟨sl, h1, h2, _⟩ := h; subst h1; exact h2.lt z_zs k (by simpa [obl, tupOf] using hk)
  · obtain ⟨sl, h1, h2, _⟩ := h; subst h1; exact h2.lt z_zs k (by simpa [obl] using hk)
  · simp_all
set_option maxRecDepth 40000 in
set_option maxHeartbeats 4000000 in
theorem mid_region {Q : Exit → Act → World → Prop} {w0 : World} {D2 : Nat} {D6 : Nat} {R : Nat} {N : Nat} {ao : Option Addr} {n : Nat} {cap : Nat} {mo : Option Addr} {m : Nat} {mcap : Nat} {ts : List Int} {zs : List Int} {X : Bool} {u0 u1 u3 u4 u5 u7 u8 u12 u13 u14 u15 u16 u17 u18 u27 u28 u29 u30 u31 : Value} (z_ts : 0 < ts.length) (z_zs : 0 < zs.length)
    (cA : ∀ w, Below w0.heap.size w0 w → w.cell? ⟨D2, 0, none⟩ = some (.int .i64 R) ∧ w.cell? ⟨D2, 1, none⟩ = some (.int .i64 N) ∧ w.cell? ⟨D2, 2, none⟩ = some (.slice ao n cap))
    (cM : ∀ w, Below w0.heap.size w0 w → w.cell? ⟨D6, 0, none⟩ = some (.int .i64 R) ∧ w.cell? ⟨D6, 1, none⟩ = some (.int .i64 N) ∧ w.cell? ⟨D6, 2, none⟩ = some (.slice mo m mcap))
    (kT : ∀ w, Below w0.heap.size w0 w → Calls Tryz.prog 32 #[.agg #[.int .i64 R, .int .i64 N, .slice ao n cap]] w fun e b => ∃ v, e = .returned (.agg #[.int .i64 N, .int .i64 R, v]) ∧ Sees b v ts ∧ New w.heap.size v ∧ Below w.heap.size w b)
    (kM : ∀ w, Below w0.heap.size w0 w → ∀ s, Sees w s ts → Calls Tryz.prog 24 #[.agg #[.int .i64 R, .int .i64 N, .slice mo m mcap], .agg #[.int .i64 N, .int .i64 R, s]] w fun e b => ∃ v, e = .returned (.tuple #[.agg #[.int .i64 R, .int .i64 R, v], .bool X, .int .i64 0]) ∧ Sees b v zs ∧ New w.heap.size v ∧ Below w.heap.size w b)
    (hQ : ∀ vs D sl w, Below w0.heap.size w0 w → vs 9 = .pointer (some ⟨D, 0, none⟩) → vs 10 = .bool X → vs 11 = .int .i64 0 → w.heap[D]? = some (.cells #[.int .i64 R, .int .i64 R, sl] 24 (0, 0)) → w0.heap.size ≤ D → Sees w sl zs → New w0.heap.size sl → Q .normal (midFr D2 D6 R N ao n cap mo m mcap ts zs X u0 u1 u3 u4 u5 u7 u8 u12 u13 u14 u15 u16 u17 u18 u27 u28 u29 u30 u31 vs) w) :
    (Code.region 2 midOps true).wp Tryz.prog Q (midFr D2 D6 R N ao n cap mo m mcap ts zs X u0 u1 u3 u4 u5 u7 u8 u12 u13 u14 u15 u16 u17 u18 u27 u28 u29 u30 u31 (fun _ => undef)) w0 := by
  refine wp_region_str (by kernel_rfl) (by decide) midDst (by decide) (midFr D2 D6 R N ao n cap mo m mcap ts zs X u0 u1 u3 u4 u5 u7 u8 u12 u13 u14 u15 u16 u17 u18 u27 u28 u29 u30 u31) (midT w0.heap.size D2 D6 R N ao n cap mo m mcap ts zs X) (midT_mono w0.heap.size D2 D6 R N ao n cap mo m mcap ts zs X) midO (midO_lt w0.heap.size D2 D6 R N ao n cap mo m mcap ts zs X z_ts z_zs) (fun _ => undef) 9 8
    (fun v w => ∃ D sl, v = .pointer (some ⟨D, 0, none⟩) ∧ w0.heap.size ≤ D ∧ w.heap[D]? = some (.cells #[.int .i64 R, .int .i64 R, sl] 24 (0, 0)) ∧ Sees w sl zs ∧ New w0.heap.size sl) (fun v w w' ⟨D, sl, h1, h2, h3, h4, h5⟩ hb => ⟨D, sl, h1, h2, keep hb h3, h4.below hb, h5⟩) (by decide) (by decide) (fun _ => rfl)
    (fun v w ⟨D, h1, h2, x, y, z, h3⟩ => ⟨D, h1, h2, lt_of_block h3⟩) ?_ ?_ ?_
  · intro i hi his vs w hb hp hv
    have hi' : i < 12 := hi
    rcases (by omega : i = 0 ∨ i = 1 ∨ i = 2 ∨ i = 3 ∨ i = 4 ∨ i = 5 ∨ i = 6 ∨ i = 7 ∨ i = 8 ∨ i = 9 ∨ i = 10 ∨ i = 11) with rfl | rfl | rfl | rfl | rfl | rfl | rfl | rfl | rfl | rfl | rfl | rfl
    · exact wpOp_of _ rfl rfl (op_loadM rfl rfl (cM w hb).1 (cM w hb).2.1 (cM w hb).2.2 ⟨_, rfl, rfl, Below.refl _ _, (fun h => absurd h (by decide)), (fun k hk => by cases hk)⟩)
    · exact wpOp_of _ rfl rfl (op_loadM rfl rfl (cA w hb).1 (cA w hb).2.1 (cA w hb).2.2 ⟨_, rfl, rfl, Below.refl _ _, (fun h => absurd h (by decide)), (fun k hk => by cases hk)⟩)
    · have h1 : vs 21 = .agg #[.int .i64 R, .int .i64 N, .slice ao n cap] := hp 1 (by decide) (by decide)
      exact wpOp_of _ rfl rfl (op_call1 entersTr rfl h1 (kT w hb) (by rintro e b ⟨v, rfl, s', n', b'⟩; exact ⟨_, rfl, _, rfl, ⟨_, rfl, s', n'.mono hb.size⟩, b', (fun h => absurd h (by decide)), (fun k hk => .inr (n' k (by simpa [midO, obl] using hk)))⟩))
    · have h0 : vs 20 = .agg #[.int .i64 R, .int .i64 N, .slice mo m mcap] := hp 0 (by decide) (by decide)
      obtain ⟨sl2, h2, s2, n2⟩ : ∃ sl, vs 22 = .agg #[.int .i64 N, .int .i64 R, sl] ∧ Sees w sl ts ∧ New w0.heap.size sl := hp 2 (by decide) (by decide)
      exact wpOp_of _ rfl rfl (op_call2 enters33 rfl h0 h2 (kM w hb _ s2) (by rintro e b ⟨v, rfl, s', n', b'⟩; exact ⟨_, rfl, _, rfl, ⟨_, rfl, s', n'.mono hb.size⟩, b', (fun h => absurd h (by decide)), (fun k hk => .inr (n' k (by simpa [midO, obl, tupOf] using hk)))⟩))
    · obtain ⟨sl3, h3, s3, n3⟩ : ∃ sl, vs 23 = .tuple #[.agg #[.int .i64 R, .int .i64 R, sl], .bool X, .int .i64 0] ∧ Sees w sl zs ∧ New w0.heap.size sl := hp 3 (by decide) (by decide)
      exact wpOp_of _ rfl rfl (op_move rfl h3 ⟨_, rfl, ⟨_, rfl, s3, n3⟩, Below.refl _ _, (fun h => absurd h (by decide)), (fun k hk => .inl ⟨3, by decide, by decide, by show k ∈ midO 3 (vs 23); rw [h3]; exact hk⟩)⟩)
    · obtain ⟨sl4, h4, s4, n4⟩ : ∃ sl, vs 19 = .tuple #[.agg #[.int .i64 R, .int .i64 R, sl], .bool X, .int .i64 0] ∧ Sees w sl zs ∧ New w0.heap.size sl := hp 4 (by decide) (by decide)
      exact wpOp_of _ rfl rfl (op_extract rfl h4 rfl ⟨_, rfl, ⟨_, rfl, s4, n4⟩, Below.refl _ _, (fun h => absurd h (by decide)), (fun k hk => .inl ⟨4, by decide, by decide, by show k ∈ midO 4 (vs 19); rw [h4]; exact hk⟩)⟩)
    · obtain ⟨sl4, h4, s4, n4⟩ : ∃ sl, vs 19 = .tuple #[.agg #[.int .i64 R, .int .i64 R, sl], .bool X, .int .i64 0] ∧ Sees w sl zs ∧ New w0.heap.size sl := hp 4 (by decide) (by decide)
      exact wpOp_of _ rfl rfl (op_extract rfl h4 rfl ⟨_, rfl, rfl, Below.refl _ _, (fun h => absurd h (by decide)), (fun k hk => by cases hk)⟩)
    · obtain ⟨sl4, h4, s4, n4⟩ : ∃ sl, vs 19 = .tuple #[.agg #[.int .i64 R, .int .i64 R, sl], .bool X, .int .i64 0] ∧ Sees w sl zs ∧ New w0.heap.size sl := hp 4 (by decide) (by decide)
      exact wpOp_of _ rfl rfl (op_extract rfl h4 rfl ⟨_, rfl, rfl, Below.refl _ _, (fun h => absurd h (by decide)), (fun k hk => by cases hk)⟩)
    · exact wpOp_of _ rfl rfl (op_alloc24 rfl ⟨_, rfl, ⟨_, rfl, hb.size, _, _, _, heap_new _ _⟩, (Below.refl _ _).alloc (Nat.le_refl _) _, (fun _ => rfl), (fun k hk => by cases hk)⟩)
    · exact absurd rfl his
    · have h6 : vs 25 = .bool X := hp 6 (by decide) (by decide)
      exact wpOp_of _ rfl rfl (op_assign rfl h6 ⟨_, rfl, rfl, Below.refl _ _, (fun h => absurd h (by decide)), (fun k hk => by cases hk)⟩)
    · have h7 : vs 26 = .int .i64 0 := hp 7 (by decide) (by decide)
      exact wpOp_of _ rfl rfl (op_assign rfl h7 ⟨_, rfl, rfl, Below.refl _ _, (fun h => absurd h (by decide)), (fun k hk => by cases hk)⟩)
  · intro vs w D hb hp hD hDW hoff
    obtain ⟨D', hD', _, x, y, z, hbl⟩ := hp 8 (by decide)
    have eD : D' = D := by
      have e : Value.pointer (some ⟨D', 0, none⟩) = .pointer (some ⟨D, 0, none⟩) := hD'.symm.trans hD
      injection e with h; injection h with h; injection h
    subst eD
    obtain ⟨sl, hf, hs, hnw⟩ : ∃ sl, vs 24 = .agg #[.int .i64 R, .int .i64 R, sl] ∧ Sees w sl zs ∧ New w0.heap.size sl := hp 5 (by decide)
    have hne : ∀ k, sl.ownBlock = some k → k ≠ D' := fun k hk => hoff 5 (by decide) k (by show k ∈ midO 5 (vs 24); rw [hf]; simp [midO, obl, hk])
    obtain ⟨so, scap, hsl⟩ := hs.slice
    subst hsl
    refine wpOp_of _ rfl rfl (op_store24 rfl rfl hD hf hbl ?_)
    refine ⟨undef, rfl, ⟨D', _, hD, hDW, put_mat hbl, ((hs.set' (a := ⟨D', 0, none⟩) hne _).set' (a := ⟨D', 1, none⟩) hne _).set' (a := ⟨D', 2, none⟩) hne _, hnw⟩, below_put hb hDW _ _ _, by simp [World.setCell], fun j v hj ho ht => ?_⟩
    exact midT_set w0.heap.size D2 D6 R N ao n cap mo m mcap ts zs X D' 2 (by decide) _ j v _ ho (midT_set w0.heap.size D2 D6 R N ao n cap mo m mcap ts zs X D' 1 (by decide) _ j v _ ho (midT_set w0.heap.size D2 D6 R N ao n cap mo m mcap ts zs X D' 0 (by decide) _ j v _ ho ht))
  · rintro vs w hb hT ⟨D, sl, h1, h2, h3, h4, h5⟩
    exact hQ vs D sl w hb h1 (hT 10 (by decide) (by decide)) (hT 11 (by decide) (by decide)) h3 h2 h4 h5
end Go.Proofs.YtiniobcknmaigaaGreat

/-
  Plain arithmetic: square roots.
-/
namespace Go.Proofs.YtiniobcknmaigaaGreat.Qm

theorem pow2 (k : Nat) : (2 : Int) ^ (k + 1) = 2 ^ k + 2 ^ k := by rw [Int.pow_succ]; omega
theorem pow2_pos (k : Nat) : (1 : Int) ≤ 2 ^ k := by have : (0 : Int) < 2 ^ k := Int.pow_pos (by omega); omega

/-- a root that is known but for its last m bits -/
structure RootInv (N r : Int) (m : Nat) : Prop where
  lo : r * r ≤ N
  up : N < (r + 2 ^ m) * (r + 2 ^ m)
  r0 : 0 ≤ r
  rm : r % 2 ^ m = 0
  rb : r + 2 ^ m ≤ 34359738368

theorem RootInv.start {N : Int} (h0 : 0 ≤ N) (h1 : N < 1180591620717411303424) : RootInv N 0 35 :=
  ⟨by omega, by show N < (0 + 34359738368) * (0 + 34359738368); omega, by omega, rfl, by decide⟩

theorem RootInv.half {N r : Int} {m : Nat} (h : RootInv N r (m + 1)) : r % 2 ^ m = 0 := by
  have h1 := h.rm
  have hd : (2 : Int) ^ m ∣ 2 ^ (m + 1) := ⟨2, by rw [Int.pow_succ]⟩
  exact Int.emod_eq_zero_of_dvd (Int.dvd_trans hd (Int.dvd_of_emod_eq_zero h1))

theorem RootInv.yes {N r : Int} {m : Nat} (h : RootInv N r (m + 1)) (c : (r + 2 ^ m) * (r + 2 ^ m) ≤ N) : RootInv N (r + 2 ^ m) m := by
  have hp := pow2 m
  have hq := pow2_pos m
  have hm := h.half
  obtain ⟨lo, up, r0, rm, rb⟩ := h
  rw [hp] at up rb
  refine ⟨c, ?_, by omega, ?_, by omega⟩
  · rw [Int.add_assoc]; exact up
  · rw [Int.add_emod, hm, Int.emod_self]; simp

theorem RootInv.no {N r : Int} {m : Nat} (h : RootInv N r (m + 1)) (c : ¬ (r + 2 ^ m) * (r + 2 ^ m) ≤ N) : RootInv N r m := by
  have hp := pow2 m
  have hq := pow2_pos m
  have hm := h.half
  obtain ⟨lo, up, r0, rm, rb⟩ := h
  exact ⟨lo, by omega, r0, hm, by omega⟩

/-- a root, bit by bit -/
def rootB (N : Int) : Nat → Int → Int
  | 0, r => r
  | m + 1, r => if (r + 2 ^ m) * (r + 2 ^ m) ≤ N then rootB N m (r + 2 ^ m) else rootB N m r
def root (N : Int) : Int := rootB N 35 0

theorem rootB_inv {N : Int} : ∀ (m : Nat) (r : Int), RootInv N r m → RootInv N (rootB N m r) 0
  | 0, _, h => h
  | m + 1, r, h => by
    unfold rootB
    split
    · exact rootB_inv m _ (h.yes ‹_›)
    · exact rootB_inv m _ (h.no ‹_›)

theorem root_spec {N : Int} (h0 : 0 ≤ N) (h1 : N < 1180591620717411303424) : 0 ≤ root N ∧ root N ≤ 34359738367 ∧ root N * root N ≤ N ∧ N < (root N + 1) * (root N + 1) := by
  obtain ⟨lo, up, r0, -, rb⟩ := rootB_inv 35 0 (RootInv.start h0 h1)
  exact ⟨r0, by have : rootB N 35 0 + 1 ≤ 34359738368 := rb; show rootB N 35 0 ≤ _; omega, lo, up⟩

theorem sq_lt {a b : Int} (ha : 0 ≤ a) (hb : 0 ≤ b) (h : a * a < (b + 1) * (b + 1)) : a ≤ b := by
  by_cases c : a ≤ b
  · exact c
  · have : (b + 1) * (b + 1) ≤ a * a := Int.mul_le_mul (by omega) (by omega) (by omega) ha
    omega

theorem root_uniq {N r : Int} (h0 : 0 ≤ N) (h1 : N < 1180591620717411303424) (r0 : 0 ≤ r) (lo : r * r ≤ N) (up : N < (r + 1) * (r + 1)) : r = root N := by
  obtain ⟨s0, _, s1, s2⟩ := root_spec h0 h1
  have a := sq_lt r0 s0 (by omega)
  have b := sq_lt s0 r0 (by omega)
  omega

/-- a square root -/
def sqrt (a : Int) : Int := if cl a < 0 then 0 else root (cl a * 16777216)
def sqrtB (a : Int) : Bool := if cl a < 0 then true else ob a
theorem sqrt_neg {a : Int} (h : cl a < 0) : sqrt a = 0 ∧ sqrtB a = true := by unfold sqrt sqrtB; rw [if_pos h, if_pos h]; exact ⟨rfl, rfl⟩
theorem sqrt_pos {a : Int} (h : ¬ cl a < 0) : sqrt a = root (cl a * 16777216) ∧ sqrtB a = ob a := by unfold sqrt sqrtB; rw [if_neg h, if_neg h]; exact ⟨rfl, rfl⟩

end Go.Proofs.YtiniobcknmaigaaGreat.Qm
