/-
  Texts joined, in the order in which they stand on one another: KCopyV KRRt KNewV.
-/
import Derived.Test.YtiniobcknmaigaaGreatG19
import Derived.Test.YtiniobcknmaigaaGreatG22
/-
  Operations on the fields of a track's matrices.
-/
namespace Go.Proofs.YtiniobcknmaigaaGreat
open Go.RowKit Go.Sort Qm

section
variable {a : Act} {w : World} {K : Act → World → Prop} {Q : Exit → Act → World → Prop} {o : Oper}
theorem op_fieldM2 {s b f : Nat} (hop : o.op = Op.fieldAddr 24 (Operand.tmp s) 2) (he : a.tmps[s]?.getD undef = .pointer (some ⟨b, f, none⟩)) (hk : K (a.put o.dst (.pointer (some ⟨b, f + 2, none⟩))) w) : o.wp Tryz.prog a w K Q := by
  unfold Oper.wp
  simp [execOp, hop, go_sem, he]
  exact hk
theorem op_loadS {s b f : Nat} {ao : Option Addr} {n cap : Nat} (hop : o.op = Op.load 22 (Operand.tmp s)) (he : a.tmps[s]?.getD undef = .pointer (some ⟨b, f, none⟩)) (hc : w.cell? ⟨b, f, none⟩ = some (.slice ao n cap)) (hk : K (a.put o.dst (.slice ao n cap)) w) : o.wp Tryz.prog a w K Q := by
  unfold Oper.wp
  simp [execOp, hop, go_sem, he, hc]
  exact hk
theorem op_storeS {p f b q : Nat} {ao : Option Addr} {n cap : Nat} {x : Value} (hd : o.dst = none) (hop : o.op = Op.store 22 (Operand.tmp p) (Operand.tmp f)) (hp : a.tmps[p]?.getD undef = .pointer (some ⟨b, q, none⟩)) (hf : a.tmps[f]?.getD undef = .slice ao n cap)
    (hc : w.cell? ⟨b, q, none⟩ = some x) (hz : w.frozen? ⟨b, q, none⟩ = false) (hk : K a (w.setCell ⟨b, q, none⟩ (.slice ao n cap))) : o.wp Tryz.prog a w K Q := by
  unfold Oper.wp
  simp [execOp, hop, go_sem, hp, hf, hc, hz, hd]
  exact hk
end
/-- new numbers -/
def TNum (B : Nat) (xs : List Int) (v : Value) (S : Nat → Prop) (w : World) : Prop := ∃ ao cap, v = .slice ao xs.length cap ∧ Sees w v xs ∧ ∀ k, v.ownBlock = some k → S k ∧ B ≤ k
theorem TNum.stab {B B' N : Nat} {xs : List Int} {v : Value} {S : Nat → Prop} {w w' : World} (h : TNum B xs v S w) (ha : Agr B' N S w w') : TNum B xs v S w' := by
  obtain ⟨ao, cap, h1, h2, h3⟩ := h
  exact ⟨ao, cap, h1, h2.agr (fun k hk => .inl (h3 k hk).1) ha, h3⟩
/-- the copy's first half laid -/
def THalf (N : Nat) (n1 c1 n2 c2 : Int) (old u : Value) (S : Nat → Prop) (w : World) : Prop := S N ∧ w.heap[N]? = some (.cells #[.int .i64 n1, .int .i64 c1, u, .int .i64 n2, .int .i64 c2, old] 26 (0, 0))
theorem THalf.stab {B N N' : Nat} {n1 c1 n2 c2 : Int} {old u : Value} {S : Nat → Prop} {w w' : World} (h : THalf N n1 c1 n2 c2 old u S w) (ha : Agr B N' S w w') : THalf N n1 c1 n2 c2 old u S w' := ⟨h.1, (ha.2 N (.inl h.1)).trans h.2⟩
/-- both laid -/
def TBoth (B N : Nat) (n1 c1 n2 c2 : Int) (xs ps : List Int) (u : Value) (S : Nat → Prop) (w : World) : Prop := S N ∧ ∃ ao ac bo bc, u = .slice bo ps.length bc ∧ w.heap[N]? = some (.cells #[.int .i64 n1, .int .i64 c1, .slice ao xs.length ac, .int .i64 n2, .int .i64 c2, .slice bo ps.length bc] 26 (0, 0)) ∧
  Sees w (.slice ao xs.length ac) xs ∧ Sees w (.slice bo ps.length bc) ps ∧ (∀ k, (Value.slice ao xs.length ac).ownBlock = some k → S k ∧ B ≤ k) ∧ ∀ k, (Value.slice bo ps.length bc).ownBlock = some k → S k ∧ B ≤ k
theorem TBoth.stab {B B' N N' : Nat} {n1 c1 n2 c2 : Int} {xs ps : List Int} {u : Value} {S : Nat → Prop} {w w' : World} (h : TBoth B N n1 c1 n2 c2 xs ps u S w) (ha : Agr B' N' S w w') : TBoth B N n1 c1 n2 c2 xs ps u S w' := by
  obtain ⟨h0, ao, ac, bo, bc, h1, h2, h3, h4, h5, h6⟩ := h
  exact ⟨h0, ao, ac, bo, bc, h1, (ha.2 N (.inl h0)).trans h2, h3.agr (fun k hk => .inl (h5 k hk).1) ha, h4.agr (fun k hk => .inl (h6 k hk).1) ha, h5, h6⟩
end Go.Proofs.YtiniobcknmaigaaGreat

/-
  The code's Right: its last statement.
-/
namespace Go.Proofs.YtiniobcknmaigaaGreat
open Go.RowKit Go.Sort Qm

theorem enters_same : ∀ (args : Array Value) (a : World), Sem.run Tryz.prog (callFunc 82 args) a = Result.ok (Next.enter 82 args) a := by
  intro args a
  simp [callFunc, Tryz.func82, go_sem]
  rfl
theorem enters_diag : ∀ (args : Array Value) (a : World), Sem.run Tryz.prog (callFunc 83 args) a = Result.ok (Next.enter 83 args) a := by
  intro args a
  simp [callFunc, Tryz.func83, go_sem]
  rfl
theorem enters_cont : ∀ (args : Array Value) (a : World), Sem.run Tryz.prog (callFunc 77 args) a = Result.ok (Next.enter 77 args) a := by
  intro args a
  simp [callFunc, Tryz.func77, go_sem]
  rfl
theorem agr_none {S : Nat → Prop} {w0 w w' : World} (h : Mod (fun _ => False) w0 w) (h' : Mod (fun _ => False) w0 w') (hz : w.heap.size ≤ w'.heap.size) (hS : ∀ k, S k → w'.heap[k]? = w.heap[k]?) : Agr w0.heap.size w0.heap.size S w w' :=
  ⟨hz, fun k hk => hk.elim (hS k) fun hk => (h'.block k hk.1 id).trans (h.block k hk.1 id).symm⟩
section
variable {a : Act} {w : World} {K : Act → World → Prop} {Q : Exit → Act → World → Prop} {o : Oper}
theorem op_notB {x : Nat} {b : Bool} (hop : o.op = Op.unOp UnOp.not 4 (Operand.tmp x)) (hx : a.tmps[x]?.getD undef = .bool b) (hk : K (a.put o.dst (.bool (!b))) w) : o.wp Tryz.prog a w K Q := by
  unfold Oper.wp
  simp [execOp, hop, go_sem, hx]
  exact hk
theorem op_pickT {c x : Nat} {y : Operand} {v : Value} (hop : o.op = Op.pick (Operand.tmp c) (Operand.tmp x) y) (hc : a.tmps[c]?.getD undef = .bool true) (hx : a.tmps[x]?.getD undef = v) (hk : K (a.put o.dst v) w) : o.wp Tryz.prog a w K Q := by
  unfold Oper.wp
  simp [execOp, hop, go_sem, hc, hx]
  exact hk
theorem op_pickF {c x : Nat} {v : Value} (hop : o.op = Op.pick (Operand.tmp c) (Operand.tmp x) (Operand.const v)) (hc : a.tmps[c]?.getD undef = .bool false) (hk : K (a.put o.dst v) w) : o.wp Tryz.prog a w K Q := by
  unfold Oper.wp
  simp [execOp, hop, go_sem, hc]
  exact hk
theorem op_call1f {f g s : Nat} {v : Value} {ts : Array TypeId} {R : Ending → World → Prop} (hF : ∀ (args : Array Value) (a : World), Sem.run Tryz.prog (callFunc f args) a = Result.ok (Next.enter f args) a) (hop : o.op = Op.call { callee := Callee.value (Operand.func f), args := #[Operand.tmp s, Operand.func g], argTypes := ts }) (hs : a.tmps[s]?.getD undef = v)
    (hc : Calls Tryz.prog f #[v, .func (.func g) #[] #[]] w R) (hk : ∀ e w', R e w' → ∃ x, e = .returned x ∧ K (a.put o.dst x) w') : o.wp Tryz.prog a w K Q := by
  unfold Oper.wp
  simp [execOp, hop, go_sem, hs, hF]
  refine hc.mono ?_
  intro e w' h
  obtain ⟨x, rfl, hx⟩ := hk e w' h
  exact hx
end
def krtOps : Array Oper := #[
    { dst := some 31, op := Op.fieldAddr 26 (Operand.tmp 1) 1, type := 0, pos := "kalman.go:26", after := #[], guard := none },
    { dst := some 32, op := Op.load 24 (Operand.tmp 31), type := 24, pos := "kalman.go:26", after := #[{ on := 0, ground := Ground.data }], guard := none },
    { dst := some 33, op := Op.fieldAddr 26 (Operand.tmp 1) 1, type := 0, pos := "kalman.go:26", after := #[], guard := none },
    { dst := some 34, op := Op.load 24 (Operand.tmp 33), type := 24, pos := "kalman.go:26", after := #[{ on := 2, ground := Ground.data }], guard := none },
    { dst := some 35, op := Op.call { callee := Callee.value (Operand.func 21), args := #[Operand.tmp 34], argTypes := #[24] }, type := 24, pos := "kalman.go:26", after := #[{ on := 3, ground := Ground.data }], guard := none },
    { dst := some 36, op := Op.call { callee := Callee.value (Operand.func 82), args := #[Operand.tmp 32, Operand.tmp 35], argTypes := #[24, 24] }, type := 4, pos := "kalman.go:26", after := #[{ on := 1, ground := Ground.data }, { on := 4, ground := Ground.data }, { on := 4, ground := Ground.chain }], guard := none },
    { dst := some 37, op := Op.move (Operand.tmp 36), type := 4, pos := "kalman.go:26", after := #[{ on := 5, ground := Ground.data }, { on := 5, ground := Ground.chain }], guard := none },
    { dst := some 38, op := Op.fieldAddr 26 (Operand.tmp 1) 1, type := 0, pos := "kalman.go:26", after := #[{ on := 6, ground := Ground.guard }], guard := some (6, true) },
    { dst := some 39, op := Op.load 24 (Operand.tmp 38), type := 24, pos := "kalman.go:26", after := #[{ on := 7, ground := Ground.data }, { on := 6, ground := Ground.guard }], guard := some (6, true) },
    { dst := some 40, op := Op.call { callee := Callee.value (Operand.func 83), args := #[Operand.tmp 39], argTypes := #[24] }, type := 22, pos := "kalman.go:26", after := #[{ on := 8, ground := Ground.data }, { on := 6, ground := Ground.chain }, { on := 6, ground := Ground.guard }], guard := some (6, true) },
    { dst := some 41, op := Op.call { callee := Callee.value (Operand.func 77), args := #[Operand.tmp 40, Operand.func 84], argTypes := #[22, 51] }, type := 4, pos := "kalman.go:26", after := #[{ on := 9, ground := Ground.data }, { on := 9, ground := Ground.chain }, { on := 6, ground := Ground.guard }], guard := some (6, true) },
    { dst := some 42, op := Op.unOp UnOp.not 4 (Operand.tmp 41), type := 4, pos := "kalman.go:26", after := #[{ on := 10, ground := Ground.data }, { on := 6, ground := Ground.guard }], guard := some (6, true) },
    { dst := some 43, op := Op.pick (Operand.tmp 37) (Operand.tmp 42) (Operand.const (Value.bool false)), type := 4, pos := "kalman.go:26", after := #[{ on := 6, ground := Ground.data }, { on := 11, ground := Ground.data }], guard := none },
    { dst := some 2, op := Op.assign (Operand.tmp 43), type := 4, pos := "kalman.go:26", after := #[{ on := 12, ground := Ground.data }, { on := 10, ground := Ground.chain }, { on := 0, ground := Ground.phase }, { on := 1, ground := Ground.phase }, { on := 2, ground := Ground.phase }, { on := 3, ground := Ground.phase }, { on := 4, ground := Ground.phase }, { on := 5, ground := Ground.phase }, { on := 6, ground := Ground.phase }, { on := 7, ground := Ground.phase }, { on := 8, ground := Ground.phase }, { on := 9, ground := Ground.phase }, { on := 10, ground := Ground.phase }, { on := 11, ground := Ground.phase }, { on := 12, ground := Ground.phase }], guard := none }]
def krtDst (i : Nat) : Nat := [31, 32, 33, 34, 35, 36, 37, 38, 39, 40, 41, 42, 43, 2].getD i 0
def krtFr (D : Nat) (u0 u3 u4 u5 u6 u7 u8 u9 u10 u11 u12 u13 u14 u15 u16 u17 u18 u19 u20 u21 u22 u23 u24 u25 u26 u27 u28 u29 u30 : Value) (vs : Nat → Value) : Act := ⟨#[u0, .pointer (some ⟨D, 0, none⟩), vs 2, u3, u4, u5, u6, u7, u8, u9, u10, u11, u12, u13, u14, u15, u16, u17, u18, u19, u20, u21, u22, u23, u24, u25, u26, u27, u28, u29, u30, vs 31, vs 32, vs 33, vs 34, vs 35, vs 36, vs 37, vs 38, vs 39, vs 40, vs 41, vs 42, vs 43], []⟩
def krtT (B : Nat) (D n : Nat) (po : Option Addr) (pc : Nat) (ps ts : List Int) (ds : List Int) (Lw : Bool) : Nat → Value → Value → (Nat → Prop) → World → Prop
  | 0, v, _, _, _ => v = .pointer (some ⟨D, 3, none⟩)
  | 1, v, _, _, _ => v = .agg #[.int .i64 n, .int .i64 n, .slice po ps.length pc]
  | 2, v, _, _, _ => v = .pointer (some ⟨D, 3, none⟩)
  | 3, v, _, _, _ => v = .agg #[.int .i64 n, .int .i64 n, .slice po ps.length pc]
  | 4, v, _, S, w => TMat B n n ts v S w
  | 5, v, _, _, _ => v = .bool true
  | 6, v, _, _, _ => v = .bool true
  | 7, v, _, _, _ => v = .pointer (some ⟨D, 3, none⟩)
  | 8, v, _, _, _ => v = .agg #[.int .i64 n, .int .i64 n, .slice po ps.length pc]
  | 9, v, _, S, w => TNum B ds v S w
  | 10, v, _, _, _ => v = .bool Lw
  | 11, v, _, _, _ => v = .bool (!Lw)
  | 12, v, _, _, _ => v = .bool (!Lw)
  | 13, v, _, _, _ => v = .bool (!Lw)
  | _, _, _, _, _ => True
set_option maxRecDepth 40000 in
set_option maxHeartbeats 800000 in
theorem krt_region {Q : Exit → Act → World → Prop} {w0 : World} {D n : Nat} {po : Option Addr} {pc : Nat} {ps ts : List Int} {ds : List Int} {Lw : Bool} {u2 u0 u3 u4 u5 u6 u7 u8 u9 u10 u11 u12 u13 u14 u15 u16 u17 u18 u19 u20 u21 u22 u23 u24 u25 u26 u27 u28 u29 u30 : Value}
    (cP : ∀ w, Mod (fun _ => False) w0 w → w.cell? ⟨D, 3, none⟩ = some (.int .i64 n) ∧ w.cell? ⟨D, 4, none⟩ = some (.int .i64 n) ∧ w.cell? ⟨D, 5, none⟩ = some (.slice po ps.length pc))
    (kT : ∀ w, Mod (fun _ => False) w0 w → Calls Tryz.prog 21 #[.agg #[.int .i64 n, .int .i64 n, .slice po ps.length pc]] w fun e b => ∃ v, e = .returned (.agg #[.int .i64 n, .int .i64 n, v]) ∧ Sees b v ts ∧ New w.heap.size v ∧ Below w.heap.size w b) (z_ts : 0 < ts.length)
    (kS : ∀ w, Mod (fun _ => False) w0 w → ∀ v, Sees w v ts → Calls Tryz.prog 82 #[.agg #[.int .i64 n, .int .i64 n, .slice po ps.length pc], .agg #[.int .i64 n, .int .i64 n, v]] w fun e b => e = .returned (.bool true) ∧ Below w.heap.size w b)
    (kD : ∀ w, Mod (fun _ => False) w0 w → Calls Tryz.prog 83 #[.agg #[.int .i64 n, .int .i64 n, .slice po ps.length pc]] w fun e b => ∃ v', e = .returned v' ∧ Sees b v' ds ∧ New w.heap.size v' ∧ Below w.heap.size w b) (z_ds : 0 < ds.length)
    (kC : ∀ w v, Sees w v ds → Calls Tryz.prog 77 #[v, .func (.func 84) #[] #[]] w fun e b => e = .returned (.bool Lw) ∧ b = w)
    (hQ : ∀ vs w, Mod (fun _ => False) w0 w → vs 2 = .bool (!Lw) → Q .normal (krtFr D u0 u3 u4 u5 u6 u7 u8 u9 u10 u11 u12 u13 u14 u15 u16 u17 u18 u19 u20 u21 u22 u23 u24 u25 u26 u27 u28 u29 u30 vs) w) :
    (Code.region 3 krtOps true).wp Tryz.prog Q (krtFr D u0 u3 u4 u5 u6 u7 u8 u9 u10 u11 u12 u13 u14 u15 u16 u17 u18 u19 u20 u21 u22 u23 u24 u25 u26 u27 u28 u29 u30 (fun k => if k = 2 then u2 else undef)) w0 := by
  refine wp_region_own (by kernel_rfl) (by decide) krtDst (by decide) (krtFr D u0 u3 u4 u5 u6 u7 u8 u9 u10 u11 u12 u13 u14 u15 u16 u17 u18 u19 u20 u21 u22 u23 u24 u25 u26 u27 u28 u29 u30) (fun k => if k = 2 then u2 else undef) (fun i => i) (by decide) (fun _ => False) (fun q hq => hq.elim) (fun _ _ => False) (fun _ _ h => h.elim) (fun _ _ _ h _ => h.elim)
    (fun _ _ => False) (fun s j h => h.elim) (fun s j h => h.elim) (krtT w0.heap.size D n po pc ps ts ds Lw) ?_ ?_ ?_
  · intro i v u S w w' hi h hw hw' hz hS
    have hi' : i < 14 := hi
    rcases (by omega : i = 0 ∨ i = 1 ∨ i = 2 ∨ i = 3 ∨ i = 4 ∨ i = 5 ∨ i = 6 ∨ i = 7 ∨ i = 8 ∨ i = 9 ∨ i = 10 ∨ i = 11 ∨ i = 12 ∨ i = 13) with rfl | rfl | rfl | rfl | rfl | rfl | rfl | rfl | rfl | rfl | rfl | rfl | rfl | rfl
    · exact h
    · exact h
    · exact h
    · exact h
    · exact TMat.stab h (agr_none hw hw' hz hS)
    · exact h
    · exact h
    · exact h
    · exact h
    · exact TNum.stab h (agr_none hw hw' hz hS)
    · exact h
    · exact h
    · exact h
    · exact h
  · intro i hi vs w S hb hp hbd hwr _ _
    have hi' : i < 14 := hi
    rcases (by omega : i = 0 ∨ i = 1 ∨ i = 2 ∨ i = 3 ∨ i = 4 ∨ i = 5 ∨ i = 6 ∨ i = 7 ∨ i = 8 ∨ i = 9 ∨ i = 10 ∨ i = 11 ∨ i = 12 ∨ i = 13) with rfl | rfl | rfl | rfl | rfl | rfl | rfl | rfl | rfl | rfl | rfl | rfl | rfl | rfl
    · exact wpOp_of _ rfl rfl (op_fieldT (i := 1) (by decide) rfl rfl ⟨_, fun _ => False, rfl, rfl, fun _ h => h.elim, fun h => h.elim fun _ h9 => h9.elim, Mod.refl _ _⟩)
    · have h : vs 31 = .pointer (some ⟨D, 3, none⟩) := hp 0 (by decide)
      exact wpOp_of _ rfl rfl (op_loadM rfl h (cP w hb).1 (cP w hb).2.1 (cP w hb).2.2 ⟨_, fun _ => False, rfl, rfl, fun _ h => h.elim, fun h => h.elim fun _ h9 => h9.elim, Mod.refl _ _⟩)
    · exact wpOp_of _ rfl rfl (op_fieldT (i := 1) (by decide) rfl rfl ⟨_, fun _ => False, rfl, rfl, fun _ h => h.elim, fun h => h.elim fun _ h9 => h9.elim, Mod.refl _ _⟩)
    · have h : vs 33 = .pointer (some ⟨D, 3, none⟩) := hp 2 (by decide)
      exact wpOp_of _ rfl rfl (op_loadM rfl h (cP w hb).1 (cP w hb).2.1 (cP w hb).2.2 ⟨_, fun _ => False, rfl, rfl, fun _ h => h.elim, fun h => h.elim fun _ h9 => h9.elim, Mod.refl _ _⟩)
    · have h : vs 34 = .agg #[.int .i64 n, .int .i64 n, .slice po ps.length pc] := hp 3 (by decide)
      exact wpOp_of _ rfl rfl (op_call1 enters_trans rfl h (kT w hb) (by rintro e b ⟨v, rfl, s', n', b'⟩; have hl := s'.lt z_ts; obtain ⟨so, sc, rfl⟩ := s'.slice; exact ⟨_, rfl, _, fun q => (Value.slice so ts.length sc).ownBlock = some q, rfl, ⟨so, sc, rfl, s', fun q hq => ⟨hq, Nat.le_trans hb.size (n' q hq)⟩⟩, fun q hq => .inr (.inl ⟨n' q hq, hl q hq⟩), fun h => h.elim fun _ h9 => h9.elim, Mod.of b'⟩))
    · have h1 : vs 32 = .agg #[.int .i64 n, .int .i64 n, .slice po ps.length pc] := hp 1 (by decide)
      obtain ⟨so, sc, h2, s2, n2⟩ : TMat w0.heap.size n n ts (vs 35) (S 4) w := hp 4 (by decide)
      exact wpOp_of _ rfl rfl (op_call2 enters_same rfl h1 h2 (kS w hb _ s2) (by rintro e b ⟨rfl, b'⟩; exact ⟨_, rfl, _, fun _ => False, rfl, rfl, fun _ h => h.elim, fun h => h.elim fun _ h9 => h9.elim, Mod.of b'⟩))
    · have h : vs 36 = .bool true := hp 5 (by decide)
      exact wpOp_of _ rfl rfl (op_move rfl h ⟨_, fun _ => False, rfl, rfl, fun _ h => h.elim, fun h => h.elim fun _ h9 => h9.elim, Mod.refl _ _⟩)
    · have hg : vs 37 = .bool true := hp 6 (by decide)
      exact wpOp_want _ rfl 6 true rfl 37 rfl (by show some (vs 37) = _; rw [hg]) (op_fieldT (i := 1) (by decide) rfl rfl ⟨_, fun _ => False, rfl, rfl, fun _ h => h.elim, fun h => h.elim fun _ h9 => h9.elim, Mod.refl _ _⟩)
    · have hg : vs 37 = .bool true := hp 6 (by decide)
      have h : vs 38 = .pointer (some ⟨D, 3, none⟩) := hp 7 (by decide)
      exact wpOp_want _ rfl 6 true rfl 37 rfl (by show some (vs 37) = _; rw [hg]) (op_loadM rfl h (cP w hb).1 (cP w hb).2.1 (cP w hb).2.2 ⟨_, fun _ => False, rfl, rfl, fun _ h => h.elim, fun h => h.elim fun _ h9 => h9.elim, Mod.refl _ _⟩)
    · have hg : vs 37 = .bool true := hp 6 (by decide)
      have h : vs 39 = .agg #[.int .i64 n, .int .i64 n, .slice po ps.length pc] := hp 8 (by decide)
      exact wpOp_want _ rfl 6 true rfl 37 rfl (by show some (vs 37) = _; rw [hg]) (op_call1 enters_diag rfl h (kD w hb) (by rintro e b ⟨v, rfl, s', n', b'⟩; have hl := s'.lt z_ds; obtain ⟨so, sc, hv⟩ := s'.slice; exact ⟨_, rfl, _, fun q => v.ownBlock = some q, rfl, ⟨so, sc, hv, s', fun q hq => ⟨hq, Nat.le_trans hb.size (n' q hq)⟩⟩, fun q hq => .inr (.inl ⟨n' q hq, hl q hq⟩), fun h => h.elim fun _ h9 => h9.elim, Mod.of b'⟩))
    · have hg : vs 37 = .bool true := hp 6 (by decide)
      obtain ⟨so, sc, hv, h2, _⟩ : TNum w0.heap.size ds (vs 40) (S 9) w := hp 9 (by decide)
      exact wpOp_want _ rfl 6 true rfl 37 rfl (by show some (vs 37) = _; rw [hg]) (op_call1f enters_cont rfl rfl (kC w _ h2) (by rintro e b ⟨rfl, rfl⟩; exact ⟨_, rfl, _, fun _ => False, rfl, rfl, fun _ h => h.elim, fun h => h.elim fun _ h9 => h9.elim, Mod.refl _ _⟩))
    · have hg : vs 37 = .bool true := hp 6 (by decide)
      have h : vs 41 = .bool Lw := hp 10 (by decide)
      exact wpOp_want _ rfl 6 true rfl 37 rfl (by show some (vs 37) = _; rw [hg]) (op_notB rfl h ⟨_, fun _ => False, rfl, rfl, fun _ h => h.elim, fun h => h.elim fun _ h9 => h9.elim, Mod.refl _ _⟩)
    · have h1 : vs 37 = .bool true := hp 6 (by decide)
      have h2 : vs 42 = .bool (!Lw) := hp 11 (by decide)
      exact wpOp_of _ rfl rfl (op_pickT rfl h1 h2 ⟨_, fun _ => False, rfl, rfl, fun _ h => h.elim, fun h => h.elim fun _ h9 => h9.elim, Mod.refl _ _⟩)
    · have h : vs 43 = .bool (!Lw) := hp 12 (by decide)
      exact wpOp_of _ rfl rfl (op_assign rfl h ⟨_, fun _ => False, rfl, rfl, fun _ h => h.elim, fun h => h.elim fun _ h9 => h9.elim, Mod.refl _ _⟩)
  · intro vs w S hb hT
    exact hQ vs w hb (hT 13 (by decide) (fun _ h => h))
def krfOps : Array Oper := #[
    { dst := some 31, op := Op.fieldAddr 26 (Operand.tmp 1) 1, type := 0, pos := "kalman.go:26", after := #[], guard := none },
    { dst := some 32, op := Op.load 24 (Operand.tmp 31), type := 24, pos := "kalman.go:26", after := #[{ on := 0, ground := Ground.data }], guard := none },
    { dst := some 33, op := Op.fieldAddr 26 (Operand.tmp 1) 1, type := 0, pos := "kalman.go:26", after := #[], guard := none },
    { dst := some 34, op := Op.load 24 (Operand.tmp 33), type := 24, pos := "kalman.go:26", after := #[{ on := 2, ground := Ground.data }], guard := none },
    { dst := some 35, op := Op.call { callee := Callee.value (Operand.func 21), args := #[Operand.tmp 34], argTypes := #[24] }, type := 24, pos := "kalman.go:26", after := #[{ on := 3, ground := Ground.data }], guard := none },
    { dst := some 36, op := Op.call { callee := Callee.value (Operand.func 82), args := #[Operand.tmp 32, Operand.tmp 35], argTypes := #[24, 24] }, type := 4, pos := "kalman.go:26", after := #[{ on := 1, ground := Ground.data }, { on := 4, ground := Ground.data }, { on := 4, ground := Ground.chain }], guard := none },
    { dst := some 37, op := Op.move (Operand.tmp 36), type := 4, pos := "kalman.go:26", after := #[{ on := 5, ground := Ground.data }, { on := 5, ground := Ground.chain }], guard := none },
    { dst := some 38, op := Op.fieldAddr 26 (Operand.tmp 1) 1, type := 0, pos := "kalman.go:26", after := #[{ on := 6, ground := Ground.guard }], guard := some (6, true) },
    { dst := some 39, op := Op.load 24 (Operand.tmp 38), type := 24, pos := "kalman.go:26", after := #[{ on := 7, ground := Ground.data }, { on := 6, ground := Ground.guard }], guard := some (6, true) },
    { dst := some 40, op := Op.call { callee := Callee.value (Operand.func 83), args := #[Operand.tmp 39], argTypes := #[24] }, type := 22, pos := "kalman.go:26", after := #[{ on := 8, ground := Ground.data }, { on := 6, ground := Ground.chain }, { on := 6, ground := Ground.guard }], guard := some (6, true) },
    { dst := some 41, op := Op.call { callee := Callee.value (Operand.func 77), args := #[Operand.tmp 40, Operand.func 84], argTypes := #[22, 51] }, type := 4, pos := "kalman.go:26", after := #[{ on := 9, ground := Ground.data }, { on := 9, ground := Ground.chain }, { on := 6, ground := Ground.guard }], guard := some (6, true) },
    { dst := some 42, op := Op.unOp UnOp.not 4 (Operand.tmp 41), type := 4, pos := "kalman.go:26", after := #[{ on := 10, ground := Ground.data }, { on := 6, ground := Ground.guard }], guard := some (6, true) },
    { dst := some 43, op := Op.pick (Operand.tmp 37) (Operand.tmp 42) (Operand.const (Value.bool false)), type := 4, pos := "kalman.go:26", after := #[{ on := 6, ground := Ground.data }, { on := 11, ground := Ground.data }], guard := none },
    { dst := some 2, op := Op.assign (Operand.tmp 43), type := 4, pos := "kalman.go:26", after := #[{ on := 12, ground := Ground.data }, { on := 10, ground := Ground.chain }, { on := 0, ground := Ground.phase }, { on := 1, ground := Ground.phase }, { on := 2, ground := Ground.phase }, { on := 3, ground := Ground.phase }, { on := 4, ground := Ground.phase }, { on := 5, ground := Ground.phase }, { on := 6, ground := Ground.phase }, { on := 7, ground := Ground.phase }, { on := 8, ground := Ground.phase }, { on := 9, ground := Ground.phase }, { on := 10, ground := Ground.phase }, { on := 11, ground := Ground.phase }, { on := 12, ground := Ground.phase }], guard := none }]
def krfDst (i : Nat) : Nat := [31, 32, 33, 34, 35, 36, 37, 38, 39, 40, 41, 42, 43, 2].getD i 0
def krfFr (D : Nat) (u0 u3 u4 u5 u6 u7 u8 u9 u10 u11 u12 u13 u14 u15 u16 u17 u18 u19 u20 u21 u22 u23 u24 u25 u26 u27 u28 u29 u30 : Value) (vs : Nat → Value) : Act := ⟨#[u0, .pointer (some ⟨D, 0, none⟩), vs 2, u3, u4, u5, u6, u7, u8, u9, u10, u11, u12, u13, u14, u15, u16, u17, u18, u19, u20, u21, u22, u23, u24, u25, u26, u27, u28, u29, u30, vs 31, vs 32, vs 33, vs 34, vs 35, vs 36, vs 37, vs 38, vs 39, vs 40, vs 41, vs 42, vs 43], []⟩
def krfT (B : Nat) (D n : Nat) (po : Option Addr) (pc : Nat) (ps ts : List Int) : Nat → Value → Value → (Nat → Prop) → World → Prop
  | 0, v, _, _, _ => v = .pointer (some ⟨D, 3, none⟩)
  | 1, v, _, _, _ => v = .agg #[.int .i64 n, .int .i64 n, .slice po ps.length pc]
  | 2, v, _, _, _ => v = .pointer (some ⟨D, 3, none⟩)
  | 3, v, _, _, _ => v = .agg #[.int .i64 n, .int .i64 n, .slice po ps.length pc]
  | 4, v, _, S, w => TMat B n n ts v S w
  | 5, v, _, _, _ => v = .bool false
  | 6, v, _, _, _ => v = .bool false
  | 7, v, _, _, _ => v = undef
  | 8, v, _, _, _ => v = undef
  | 9, v, _, _, _ => v = undef
  | 10, v, _, _, _ => v = undef
  | 11, v, _, _, _ => v = undef
  | 12, v, _, _, _ => v = .bool false
  | 13, v, _, _, _ => v = .bool false
  | _, _, _, _, _ => True
set_option maxRecDepth 40000 in
set_option maxHeartbeats 800000 in
theorem krf_region {Q : Exit → Act → World → Prop} {w0 : World} {D n : Nat} {po : Option Addr} {pc : Nat} {ps ts : List Int} {u2 u0 u3 u4 u5 u6 u7 u8 u9 u10 u11 u12 u13 u14 u15 u16 u17 u18 u19 u20 u21 u22 u23 u24 u25 u26 u27 u28 u29 u30 : Value}
    (cP : ∀ w, Mod (fun _ => False) w0 w → w.cell? ⟨D, 3, none⟩ = some (.int .i64 n) ∧ w.cell? ⟨D, 4, none⟩ = some (.int .i64 n) ∧ w.cell? ⟨D, 5, none⟩ = some (.slice po ps.length pc))
    (kT : ∀ w, Mod (fun _ => False) w0 w → Calls Tryz.prog 21 #[.agg #[.int .i64 n, .int .i64 n, .slice po ps.length pc]] w fun e b => ∃ v, e = .returned (.agg #[.int .i64 n, .int .i64 n, v]) ∧ Sees b v ts ∧ New w.heap.size v ∧ Below w.heap.size w b) (z_ts : 0 < ts.length)
    (kS : ∀ w, Mod (fun _ => False) w0 w → ∀ v, Sees w v ts → Calls Tryz.prog 82 #[.agg #[.int .i64 n, .int .i64 n, .slice po ps.length pc], .agg #[.int .i64 n, .int .i64 n, v]] w fun e b => e = .returned (.bool false) ∧ Below w.heap.size w b)
    (hQ : ∀ vs w, Mod (fun _ => False) w0 w → vs 2 = .bool false → Q .normal (krfFr D u0 u3 u4 u5 u6 u7 u8 u9 u10 u11 u12 u13 u14 u15 u16 u17 u18 u19 u20 u21 u22 u23 u24 u25 u26 u27 u28 u29 u30 vs) w) :
    (Code.region 3 krfOps true).wp Tryz.prog Q (krfFr D u0 u3 u4 u5 u6 u7 u8 u9 u10 u11 u12 u13 u14 u15 u16 u17 u18 u19 u20 u21 u22 u23 u24 u25 u26 u27 u28 u29 u30 (fun k => if k = 2 then u2 else undef)) w0 := by
  refine wp_region_own (by kernel_rfl) (by decide) krfDst (by decide) (krfFr D u0 u3 u4 u5 u6 u7 u8 u9 u10 u11 u12 u13 u14 u15 u16 u17 u18 u19 u20 u21 u22 u23 u24 u25 u26 u27 u28 u29 u30) (fun k => if k = 2 then u2 else undef) (fun i => i) (by decide) (fun _ => False) (fun q hq => hq.elim) (fun _ _ => False) (fun _ _ h => h.elim) (fun _ _ _ h _ => h.elim)
    (fun _ _ => False) (fun s j h => h.elim) (fun s j h => h.elim) (krfT w0.heap.size D n po pc ps ts) ?_ ?_ ?_
  · intro i v u S w w' hi h hw hw' hz hS
    have hi' : i < 14 := hi
    rcases (by omega : i = 0 ∨ i = 1 ∨ i = 2 ∨ i = 3 ∨ i = 4 ∨ i = 5 ∨ i = 6 ∨ i = 7 ∨ i = 8 ∨ i = 9 ∨ i = 10 ∨ i = 11 ∨ i = 12 ∨ i = 13) with rfl | rfl | rfl | rfl | rfl | rfl | rfl | rfl | rfl | rfl | rfl | rfl | rfl | rfl
    · exact h
    · exact h
    · exact h
    · exact h
    · exact TMat.stab h (agr_none hw hw' hz hS)
    · exact h
    · exact h
    · exact h
    · exact h
    · exact h
    · exact h
    · exact h
    · exact h
    · exact h
  · intro i hi vs w S hb hp hbd hwr _ _
    have hi' : i < 14 := hi
    rcases (by omega : i = 0 ∨ i = 1 ∨ i = 2 ∨ i = 3 ∨ i = 4 ∨ i = 5 ∨ i = 6 ∨ i = 7 ∨ i = 8 ∨ i = 9 ∨ i = 10 ∨ i = 11 ∨ i = 12 ∨ i = 13) with rfl | rfl | rfl | rfl | rfl | rfl | rfl | rfl | rfl | rfl | rfl | rfl | rfl | rfl
    · exact wpOp_of _ rfl rfl (op_fieldT (i := 1) (by decide) rfl rfl ⟨_, fun _ => False, rfl, rfl, fun _ h => h.elim, fun h => h.elim fun _ h9 => h9.elim, Mod.refl _ _⟩)
    · have h : vs 31 = .pointer (some ⟨D, 3, none⟩) := hp 0 (by decide)
      exact wpOp_of _ rfl rfl (op_loadM rfl h (cP w hb).1 (cP w hb).2.1 (cP w hb).2.2 ⟨_, fun _ => False, rfl, rfl, fun _ h => h.elim, fun h => h.elim fun _ h9 => h9.elim, Mod.refl _ _⟩)
    · exact wpOp_of _ rfl rfl (op_fieldT (i := 1) (by decide) rfl rfl ⟨_, fun _ => False, rfl, rfl, fun _ h => h.elim, fun h => h.elim fun _ h9 => h9.elim, Mod.refl _ _⟩)
    · have h : vs 33 = .pointer (some ⟨D, 3, none⟩) := hp 2 (by decide)
      exact wpOp_of _ rfl rfl (op_loadM rfl h (cP w hb).1 (cP w hb).2.1 (cP w hb).2.2 ⟨_, fun _ => False, rfl, rfl, fun _ h => h.elim, fun h => h.elim fun _ h9 => h9.elim, Mod.refl _ _⟩)
    · have h : vs 34 = .agg #[.int .i64 n, .int .i64 n, .slice po ps.length pc] := hp 3 (by decide)
      exact wpOp_of _ rfl rfl (op_call1 enters_trans rfl h (kT w hb) (by rintro e b ⟨v, rfl, s', n', b'⟩; have hl := s'.lt z_ts; obtain ⟨so, sc, rfl⟩ := s'.slice; exact ⟨_, rfl, _, fun q => (Value.slice so ts.length sc).ownBlock = some q, rfl, ⟨so, sc, rfl, s', fun q hq => ⟨hq, Nat.le_trans hb.size (n' q hq)⟩⟩, fun q hq => .inr (.inl ⟨n' q hq, hl q hq⟩), fun h => h.elim fun _ h9 => h9.elim, Mod.of b'⟩))
    · have h1 : vs 32 = .agg #[.int .i64 n, .int .i64 n, .slice po ps.length pc] := hp 1 (by decide)
      obtain ⟨so, sc, h2, s2, n2⟩ : TMat w0.heap.size n n ts (vs 35) (S 4) w := hp 4 (by decide)
      exact wpOp_of _ rfl rfl (op_call2 enters_same rfl h1 h2 (kS w hb _ s2) (by rintro e b ⟨rfl, b'⟩; exact ⟨_, rfl, _, fun _ => False, rfl, rfl, fun _ h => h.elim, fun h => h.elim fun _ h9 => h9.elim, Mod.of b'⟩))
    · have h : vs 36 = .bool false := hp 5 (by decide)
      exact wpOp_of _ rfl rfl (op_move rfl h ⟨_, fun _ => False, rfl, rfl, fun _ h => h.elim, fun h => h.elim fun _ h9 => h9.elim, Mod.refl _ _⟩)
    · have hg : vs 37 = .bool false := hp 6 (by decide)
      exact wpOp_skip _ rfl 6 true rfl 37 rfl (by show some (vs 37) = _; rw [hg]; rfl) ⟨_, fun _ => False, rfl, rfl, fun _ h => h.elim, fun h => h.elim fun _ h9 => h9.elim, Mod.refl _ _⟩
    · have hg : vs 37 = .bool false := hp 6 (by decide)
      exact wpOp_skip _ rfl 6 true rfl 37 rfl (by show some (vs 37) = _; rw [hg]; rfl) ⟨_, fun _ => False, rfl, rfl, fun _ h => h.elim, fun h => h.elim fun _ h9 => h9.elim, Mod.refl _ _⟩
    · have hg : vs 37 = .bool false := hp 6 (by decide)
      exact wpOp_skip _ rfl 6 true rfl 37 rfl (by show some (vs 37) = _; rw [hg]; rfl) ⟨_, fun _ => False, rfl, rfl, fun _ h => h.elim, fun h => h.elim fun _ h9 => h9.elim, Mod.refl _ _⟩
    · have hg : vs 37 = .bool false := hp 6 (by decide)
      exact wpOp_skip _ rfl 6 true rfl 37 rfl (by show some (vs 37) = _; rw [hg]; rfl) ⟨_, fun _ => False, rfl, rfl, fun _ h => h.elim, fun h => h.elim fun _ h9 => h9.elim, Mod.refl _ _⟩
    · have hg : vs 37 = .bool false := hp 6 (by decide)
      exact wpOp_skip _ rfl 6 true rfl 37 rfl (by show some (vs 37) = _; rw [hg]; rfl) ⟨_, fun _ => False, rfl, rfl, fun _ h => h.elim, fun h => h.elim fun _ h9 => h9.elim, Mod.refl _ _⟩
    · have h1 : vs 37 = .bool false := hp 6 (by decide)
      exact wpOp_of _ rfl rfl (op_pickF rfl h1 ⟨_, fun _ => False, rfl, rfl, fun _ h => h.elim, fun h => h.elim fun _ h9 => h9.elim, Mod.refl _ _⟩)
    · have h : vs 43 = .bool false := hp 12 (by decide)
      exact wpOp_of _ rfl rfl (op_assign rfl h ⟨_, fun _ => False, rfl, rfl, fun _ h => h.elim, fun h => h.elim fun _ h9 => h9.elim, Mod.refl _ _⟩)
  · intro vs w S hb hT
    exact hQ vs w hb (hT 13 (by decide) (fun _ h => h))
end Go.Proofs.YtiniobcknmaigaaGreat

/-
  What is known of the values of the region of the code's New.
-/
namespace Go.Proofs.YtiniobcknmaigaaGreat
open Go.RowKit Go.Sort Qm

section
variable {a : Act} {w : World} {K : Act → World → Prop} {Q : Exit → Act → World → Prop} {o : Oper}
theorem op_alloc26 (hop : o.op = Op.alloc 26) (hk : K (a.put o.dst (.pointer (some ⟨w.heap.size, 0, none⟩))) (w.alloc (.cells #[.int .i64 0, .int .i64 0, .slice none 0 0, .int .i64 0, .int .i64 0, .slice none 0 0] 26))) : o.wp Tryz.prog a w K Q := by
  unfold Oper.wp
  simp [execOp, hop, go_sem]
  exact hk
theorem op_lenQ {s n cap : Nat} {ao : Option Addr} (hty : o.type = 3) (hop : o.op = Op.call { callee := Callee.builtin Builtin.len, args := #[Operand.tmp s], argTypes := #[22] }) (hs : a.tmps[s]?.getD undef = .slice ao n cap) (hk : K (a.put o.dst (.int .i64 (n : Nat))) w) : o.wp Tryz.prog a w K Q := by
  unfold Oper.wp
  simp [execOp, hop, hty, go_sem, hs, Builtin.len_]
  exact hk
theorem op_buildM {s t : Nat} {r c : Int} {ao : Option Addr} {n cap : Nat} (hop : o.op = Op.build 24 #[(0, Operand.tmp s), (1, Operand.const (.int .i64 c)), (2, Operand.tmp t)]) (hs : a.tmps[s]?.getD undef = .int .i64 r) (ht : a.tmps[t]?.getD undef = .slice ao n cap) (hk : K (a.put o.dst (.agg #[.int .i64 r, .int .i64 c, .slice ao n cap])) w) : o.wp Tryz.prog a w K Q := by
  unfold Oper.wp
  simp [execOp, hop, go_sem, hs, ht]
  exact hk
end
def TNt (B : Nat) (r1 c1 r2 c2 : Int) (xs : List Int) (pv : Value) (v : Value) (S : Nat → Prop) (w : World) : Prop := ∃ ao ac, v = .agg #[.int .i64 r1, .int .i64 c1, .slice ao xs.length ac, .int .i64 r2, .int .i64 c2, pv] ∧ Sees w (.slice ao xs.length ac) xs ∧ ∀ k, (Value.slice ao xs.length ac).ownBlock = some k → S k ∧ B ≤ k
theorem TNt.stab {B B' N : Nat} {r1 c1 r2 c2 : Int} {xs : List Int} {pv v : Value} {S : Nat → Prop} {w w' : World} (h : TNt B r1 c1 r2 c2 xs pv v S w) (ha : Agr B' N S w w') : TNt B r1 c1 r2 c2 xs pv v S w' := by
  obtain ⟨ao, ac, h1, h2, h3⟩ := h
  exact ⟨ao, ac, h1, h2.agr (fun k hk => .inl (h3 k hk).1) ha, h3⟩
def TP6 (B : Nat) (v : Value) (S : Nat → Prop) (w : World) : Prop := ∃ D, v = .pointer (some ⟨D, 0, none⟩) ∧ S D ∧ B ≤ D ∧ ∃ x0 x1 x2 x3 x4 x5, w.heap[D]? = some (.cells #[x0, x1, x2, x3, x4, x5] 26 (0, 0))
theorem TP6.stab {B B' N : Nat} {v : Value} {S : Nat → Prop} {w w' : World} (h : TP6 B v S w) (ha : Agr B' N S w w') : TP6 B v S w' := by
  obtain ⟨D, h1, h2, h3, x0, x1, x2, x3, x4, x5, h4⟩ := h
  exact ⟨D, h1, h2, h3, x0, x1, x2, x3, x4, x5, (ha.2 D (.inl h2)).trans h4⟩
def TSn (B : Nat) (r1 c1 r2 c2 : Int) (xs : List Int) (pv u : Value) (S : Nat → Prop) (w : World) : Prop := ∃ D ao ac, u = .pointer (some ⟨D, 0, none⟩) ∧ S D ∧ B ≤ D ∧ w.heap[D]? = some (.cells #[.int .i64 r1, .int .i64 c1, .slice ao xs.length ac, .int .i64 r2, .int .i64 c2, pv] 26 (0, 0)) ∧ Sees w (.slice ao xs.length ac) xs ∧ ∀ k, (Value.slice ao xs.length ac).ownBlock = some k → S k ∧ B ≤ k
theorem TSn.stab {B B' N : Nat} {r1 c1 r2 c2 : Int} {xs : List Int} {pv u : Value} {S : Nat → Prop} {w w' : World} (h : TSn B r1 c1 r2 c2 xs pv u S w) (ha : Agr B' N S w w') : TSn B r1 c1 r2 c2 xs pv u S w' := by
  obtain ⟨D, ao, ac, h1, h2, h3, h4, h5, h6⟩ := h
  exact ⟨D, ao, ac, h1, h2, h3, (ha.2 D (.inl h2)).trans h4, h5.agr (fun k hk => .inl (h6 k hk).1) ha, h6⟩
end Go.Proofs.YtiniobcknmaigaaGreat
