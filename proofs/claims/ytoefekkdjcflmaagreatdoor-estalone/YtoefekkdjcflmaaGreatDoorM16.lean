/- Parts of the proof. -/
import Derived.Test.YtoefekkdjcflmaaGreatDoorM15
namespace Go.Proofs.YtoefekkdjcflmaaGreatDoor
open Go.RowKit Go.Sort Qm
theorem enters_same : ∀ (args : Array Value) (a : World), Sem.run Tryz.prog (callFunc 93 args) a = Result.ok (Next.enter 93 args) a := by
  intro args a
  simp [callFunc, Tryz.func93, go_sem]
  rfl
theorem enters_diag : ∀ (args : Array Value) (a : World), Sem.run Tryz.prog (callFunc 142 args) a = Result.ok (Next.enter 142 args) a := by
  intro args a
  simp [callFunc, Tryz.func142, go_sem]
  rfl
theorem enters_cont : ∀ (args : Array Value) (a : World), Sem.run Tryz.prog (callFunc 41 args) a = Result.ok (Next.enter 41 args) a := by
  intro args a
  simp [callFunc, Tryz.func41, go_sem]
  rfl
theorem agr_none {S : Nat → Prop} {w0 w w' : World} (h : Mod (fun _ => False) w0 w) (h' : Mod (fun _ => False) w0 w') (hz : w.heap.size ≤ w'.heap.size) (hS : ∀ k, S k → w'.heap[k]? = w.heap[k]?) : Agr w0.heap.size w0.heap.size S w w' :=
  ⟨hz, fun k hk => hk.elim (hS k) fun hk => (h'.block k hk.1 id).trans (h.block k hk.1 id).symm⟩
section
variable {a : Act} {w : World} {K : Act → World → Prop} {Q : Exit → Act → World → Prop} {o : Oper}
theorem op_notB {x : Nat} {b : Bool} (hop : o.op = Op.unOp UnOp.not 4 (Operand.tmp x)) (hx : a.tmps[x]?.getD undef = .bool b) (hk : K (a.put o.dst (.bool (!b))) w) : o.wp Tryz.prog a w K Q := by
  unfold Oper.wp
  simp [execOp, hop, go_sem, hx]
  exact hk
theorem op_pickT {c x : Nat} {y : Operand} {v : Value} (hop : o.op = Op.pick (Operand.tmp c) (Operand.tmp x) y) (hc : a.tmps[c]?.getD undef = .bool true) (hx : a.tmps[x]?.getD undef = v) (hk : K (a.put o.dst v) w) : o.wp Tryz.prog a w K Q := by
  unfold Oper.wp
  simp [execOp, hop, go_sem, hc, hx]
  exact hk
theorem op_pickF {c x : Nat} {v : Value} (hop : o.op = Op.pick (Operand.tmp c) (Operand.tmp x) (Operand.const v)) (hc : a.tmps[c]?.getD undef = .bool false) (hk : K (a.put o.dst v) w) : o.wp Tryz.prog a w K Q := by
  unfold Oper.wp
  simp [execOp, hop, go_sem, hc]
  exact hk
theorem op_call1f {f g s : Nat} {v : Value} {ts : Array TypeId} {R : Ending → World → Prop} (hF : ∀ (args : Array Value) (a : World), Sem.run Tryz.prog (callFunc f args) a = Result.ok (Next.enter f args) a) (hop : o.op = Op.call { callee := Callee.value (Operand.func f), args := #[Operand.tmp s, Operand.func g], argTypes := ts }) (hs : a.tmps[s]?.getD undef = v)
    (hc : Calls Tryz.prog f #[v, .func (.func g) #[] #[]] w R) (hk : ∀ e w', R e w' → ∃ x, e = .returned x ∧ K (a.put o.dst x) w') : o.wp Tryz.prog a w K Q := by
  unfold Oper.wp
  simp [execOp, hop, go_sem, hs, hF]
  refine hc.mono ?_
  intro e w' h
  obtain ⟨x, rfl, hx⟩ := hk e w' h
  exact hx
end
def krtOps : Array Oper := #[
 ⟨some 31, .fieldAddr 31 (.tmp 1) 1, 0, "kalman.go:26", #[], none⟩,
 ⟨some 32, .load 29 (.tmp 31), 29, "kalman.go:26", #[eD 0], none⟩,
 ⟨some 33, .fieldAddr 31 (.tmp 1) 1, 0, "kalman.go:26", #[], none⟩,
 ⟨some 34, .load 29 (.tmp 33), 29, "kalman.go:26", #[eD 2], none⟩,
 ⟨some 35, .call ⟨.value (.func 115), #[.tmp 34], #[29]⟩, 29, "kalman.go:26", #[eD 3], none⟩,
 ⟨some 36, .call ⟨.value (.func 93), #[.tmp 32, .tmp 35], #[29, 29]⟩, 4, "kalman.go:26", #[eD 1, eD 4, eC 4], none⟩,
 ⟨some 37, .move (.tmp 36), 4, "kalman.go:26", #[eD 5, eC 5], none⟩,
 ⟨some 38, .fieldAddr 31 (.tmp 1) 1, 0, "kalman.go:26", #[eG 6], some (6, true)⟩,
 ⟨some 39, .load 29 (.tmp 38), 29, "kalman.go:26", #[eD 7, eG 6], some (6, true)⟩,
 ⟨some 40, .call ⟨.value (.func 142), #[.tmp 39], #[29]⟩, 27, "kalman.go:26", #[eD 8, eC 6, eG 6], some (6, true)⟩,
 ⟨some 41, .call ⟨.value (.func 41), #[.tmp 40, .func 143], #[27, 81]⟩, 4, "kalman.go:26", #[eD 9, eC 9, eG 6], some (6, true)⟩,
 ⟨some 42, .unOp .not 4 (.tmp 41), 4, "kalman.go:26", #[eD 10, eG 6], some (6, true)⟩,
 ⟨some 43, .pick (.tmp 37) (.tmp 42) (.const (.bool false)), 4, "kalman.go:26", #[eD 6, eD 11], none⟩,
 ⟨some 2, .assign (.tmp 43), 4, "kalman.go:26", #[eD 12, eC 10, eP 0, eP 1, eP 2, eP 3, eP 4, eP 5, eP 6, eP 7, eP 8, eP 9, eP 10, eP 11, eP 12], none⟩]
def krtDst (i : Nat) : Nat := [31, 32, 33, 34, 35, 36, 37, 38, 39, 40, 41, 42, 43, 2].getD i 0
def krtFr (D : Nat) (u0 u3 u4 u5 u6 u7 u8 u9 u10 u11 u12 u13 u14 u15 u16 u17 u18 u19 u20 u21 u22 u23 u24 u25 u26 u27 u28 u29 u30 : Value) (vs : Nat → Value) : Act := ⟨#[u0, .pointer (some ⟨D, 0, none⟩), vs 2, u3, u4, u5, u6, u7, u8, u9, u10, u11, u12, u13, u14, u15, u16, u17, u18, u19, u20, u21, u22, u23, u24, u25, u26, u27, u28, u29, u30, vs 31, vs 32, vs 33, vs 34, vs 35, vs 36, vs 37, vs 38, vs 39, vs 40, vs 41, vs 42, vs 43], []⟩
def krtT (B : Nat) (D n : Nat) (po : Option Addr) (pc : Nat) (ps ts : List Int) (ds : List Int) (Lw : Bool) : Nat → Value → Value → (Nat → Prop) → World → Prop
  | 0, v, _, _, _ => v = .pointer (some ⟨D, 3, none⟩)
  | 1, v, _, _, _ => v = .agg #[.int .i64 n, .int .i64 n, .slice po ps.length pc]
  | 2, v, _, _, _ => v = .pointer (some ⟨D, 3, none⟩)
  | 3, v, _, _, _ => v = .agg #[.int .i64 n, .int .i64 n, .slice po ps.length pc]
  | 4, v, _, S, w => TMat B n n ts v S w
  | 5, v, _, _, _ => v = .bool true
  | 6, v, _, _, _ => v = .bool true
  | 7, v, _, _, _ => v = .pointer (some ⟨D, 3, none⟩)
  | 8, v, _, _, _ => v = .agg #[.int .i64 n, .int .i64 n, .slice po ps.length pc]
  | 9, v, _, S, w => TNum B ds v S w
  | 10, v, _, _, _ => v = .bool Lw
  | 11, v, _, _, _ => v = .bool (!Lw)
  | 12, v, _, _, _ => v = .bool (!Lw)
  | 13, v, _, _, _ => v = .bool (!Lw)
  | _, _, _, _, _ => True
set_option maxRecDepth 40000 in
set_option maxHeartbeats 800000 in
theorem krt_region {Q : Exit → Act → World → Prop} {w0 : World} {D n : Nat} {po : Option Addr} {pc : Nat} {ps ts : List Int} {ds : List Int} {Lw : Bool} {u2 u0 u3 u4 u5 u6 u7 u8 u9 u10 u11 u12 u13 u14 u15 u16 u17 u18 u19 u20 u21 u22 u23 u24 u25 u26 u27 u28 u29 u30 : Value}
    (cP : ∀ w, Mod (fun _ => False) w0 w → w.cell? ⟨D, 3, none⟩ = some (.int .i64 n) ∧ w.cell? ⟨D, 4, none⟩ = some (.int .i64 n) ∧ w.cell? ⟨D, 5, none⟩ = some (.slice po ps.length pc))
    (kT : ∀ w, Mod (fun _ => False) w0 w → Calls Tryz.prog 115 #[.agg #[.int .i64 n, .int .i64 n, .slice po ps.length pc]] w fun e b => ∃ v, e = .returned (.agg #[.int .i64 n, .int .i64 n, v]) ∧ Sees b v ts ∧ New w.heap.size v ∧ Below w.heap.size w b) (z_ts : 0 < ts.length)
    (kS : ∀ w, Mod (fun _ => False) w0 w → ∀ v, Sees w v ts → Calls Tryz.prog 93 #[.agg #[.int .i64 n, .int .i64 n, .slice po ps.length pc], .agg #[.int .i64 n, .int .i64 n, v]] w fun e b => e = .returned (.bool true) ∧ Below w.heap.size w b)
    (kD : ∀ w, Mod (fun _ => False) w0 w → Calls Tryz.prog 142 #[.agg #[.int .i64 n, .int .i64 n, .slice po ps.length pc]] w fun e b => ∃ v', e = .returned v' ∧ Sees b v' ds ∧ New w.heap.size v' ∧ Below w.heap.size w b) (z_ds : 0 < ds.length)
    (kC : ∀ w v, Sees w v ds → Calls Tryz.prog 41 #[v, .func (.func 143) #[] #[]] w fun e b => e = .returned (.bool Lw) ∧ b = w)
    (hQ : ∀ vs w, Mod (fun _ => False) w0 w → vs 2 = .bool (!Lw) → Q .normal (krtFr D u0 u3 u4 u5 u6 u7 u8 u9 u10 u11 u12 u13 u14 u15 u16 u17 u18 u19 u20 u21 u22 u23 u24 u25 u26 u27 u28 u29 u30 vs) w) :
    (Code.region 3 krtOps true).wp Tryz.prog Q (krtFr D u0 u3 u4 u5 u6 u7 u8 u9 u10 u11 u12 u13 u14 u15 u16 u17 u18 u19 u20 u21 u22 u23 u24 u25 u26 u27 u28 u29 u30 (fun k => if k = 2 then u2 else undef)) w0 := by
  refine wp_region_own (by kernel_rfl) (by decide) krtDst (by decide) (krtFr D u0 u3 u4 u5 u6 u7 u8 u9 u10 u11 u12 u13 u14 u15 u16 u17 u18 u19 u20 u21 u22 u23 u24 u25 u26 u27 u28 u29 u30) (fun k => if k = 2 then u2 else undef) (fun i => i) (by decide) (fun _ => False) (fun q hq => hq.elim) (fun _ _ => False) (fun _ _ h => h.elim) (fun _ _ _ h _ => h.elim)
    (fun _ _ => False) (fun s j h => h.elim) (fun s j h => h.elim) (krtT w0.heap.size D n po pc ps ts ds Lw) ?_ ?_ ?_
  · intro i v u S w w' hi h hw hw' hz hS
    have hi' : i < 14 := hi
    rcases (by omega : i = 0 ∨ i = 1 ∨ i = 2 ∨ i = 3 ∨ i = 4 ∨ i = 5 ∨ i = 6 ∨ i = 7 ∨ i = 8 ∨ i = 9 ∨ i = 10 ∨ i = 11 ∨ i = 12 ∨ i = 13) with rfl | rfl | rfl | rfl | rfl | rfl | rfl | rfl | rfl | rfl | rfl | rfl | rfl | rfl
    · exact h
    · exact h
    · exact h
    · exact h
    · exact TMat.stab h (agr_none hw hw' hz hS)
    · exact h
    · exact h
    · exact h
    · exact h
    · exact TNum.stab h (agr_none hw hw' hz hS)
    · exact h
    · exact h
    · exact h
    · exact h
  · intro i hi vs w S hb hp hbd hwr _ _
    have hi' : i < 14 := hi
    rcases (by omega : i = 0 ∨ i = 1 ∨ i = 2 ∨ i = 3 ∨ i = 4 ∨ i = 5 ∨ i = 6 ∨ i = 7 ∨ i = 8 ∨ i = 9 ∨ i = 10 ∨ i = 11 ∨ i = 12 ∨ i = 13) with rfl | rfl | rfl | rfl | rfl | rfl | rfl | rfl | rfl | rfl | rfl | rfl | rfl | rfl
    · exact wpOp_of _ rfl rfl (op_fieldT (i := 1) (by decide) rfl rfl ⟨_, fun _ => False, rfl, rfl, fun _ h => h.elim, fun h => h.elim fun _ h9 => h9.elim, Mod.refl _ _⟩)
    · have h : vs 31 = .pointer (some ⟨D, 3, none⟩) := hp 0 (by decide)
      exact wpOp_of _ rfl rfl (op_loadM rfl h (cP w hb).1 (cP w hb).2.1 (cP w hb).2.2 ⟨_, fun _ => False, rfl, rfl, fun _ h => h.elim, fun h => h.elim fun _ h9 => h9.elim, Mod.refl _ _⟩)
    · exact wpOp_of _ rfl rfl (op_fieldT (i := 1) (by decide) rfl rfl ⟨_, fun _ => False, rfl, rfl, fun _ h => h.elim, fun h => h.elim fun _ h9 => h9.elim, Mod.refl _ _⟩)
    · have h : vs 33 = .pointer (some ⟨D, 3, none⟩) := hp 2 (by decide)
      exact wpOp_of _ rfl rfl (op_loadM rfl h (cP w hb).1 (cP w hb).2.1 (cP w hb).2.2 ⟨_, fun _ => False, rfl, rfl, fun _ h => h.elim, fun h => h.elim fun _ h9 => h9.elim, Mod.refl _ _⟩)
    · have h : vs 34 = .agg #[.int .i64 n, .int .i64 n, .slice po ps.length pc] := hp 3 (by decide)
      exact wpOp_of _ rfl rfl (op_call1 enters_trans rfl h (kT w hb) (by rintro e b ⟨v, rfl, s', n', b'⟩; have hl := s'.lt z_ts; obtain ⟨so, sc, rfl⟩ := s'.slice; exact ⟨_, rfl, _, fun q => (Value.slice so ts.length sc).ownBlock = some q, rfl, ⟨so, sc, rfl, s', fun q hq => ⟨hq, Nat.le_trans hb.size (n' q hq)⟩⟩, fun q hq => .inr (.inl ⟨n' q hq, hl q hq⟩), fun h => h.elim fun _ h9 => h9.elim, Mod.of b'⟩))
    · have h1 : vs 32 = .agg #[.int .i64 n, .int .i64 n, .slice po ps.length pc] := hp 1 (by decide)
      obtain ⟨so, sc, h2, s2, n2⟩ : TMat w0.heap.size n n ts (vs 35) (S 4) w := hp 4 (by decide)
      exact wpOp_of _ rfl rfl (op_call2 enters_same rfl h1 h2 (kS w hb _ s2) (by rintro e b ⟨rfl, b'⟩; exact ⟨_, rfl, _, fun _ => False, rfl, rfl, fun _ h => h.elim, fun h => h.elim fun _ h9 => h9.elim, Mod.of b'⟩))
    · have h : vs 36 = .bool true := hp 5 (by decide)
      exact wpOp_of _ rfl rfl (op_move rfl h ⟨_, fun _ => False, rfl, rfl, fun _ h => h.elim, fun h => h.elim fun _ h9 => h9.elim, Mod.refl _ _⟩)
    · have hg : vs 37 = .bool true := hp 6 (by decide)
      exact wpOp_want _ rfl 6 true rfl 37 rfl (by show some (vs 37) = _; rw [hg]) (op_fieldT (i := 1) (by decide) rfl rfl ⟨_, fun _ => False, rfl, rfl, fun _ h => h.elim, fun h => h.elim fun _ h9 => h9.elim, Mod.refl _ _⟩)
    · have hg : vs 37 = .bool true := hp 6 (by decide)
      have h : vs 38 = .pointer (some ⟨D, 3, none⟩) := hp 7 (by decide)
      exact wpOp_want _ rfl 6 true rfl 37 rfl (by show some (vs 37) = _; rw [hg]) (op_loadM rfl h (cP w hb).1 (cP w hb).2.1 (cP w hb).2.2 ⟨_, fun _ => False, rfl, rfl, fun _ h => h.elim, fun h => h.elim fun _ h9 => h9.elim, Mod.refl _ _⟩)
    · have hg : vs 37 = .bool true := hp 6 (by decide)
      have h : vs 39 = .agg #[.int .i64 n, .int .i64 n, .slice po ps.length pc] := hp 8 (by decide)
      exact wpOp_want _ rfl 6 true rfl 37 rfl (by show some (vs 37) = _; rw [hg]) (op_call1 enters_diag rfl h (kD w hb) (by rintro e b ⟨v, rfl, s', n', b'⟩; have hl := s'.lt z_ds; obtain ⟨so, sc, hv⟩ := s'.slice; exact ⟨_, rfl, _, fun q => v.ownBlock = some q, rfl, ⟨so, sc, hv, s', fun q hq => ⟨hq, Nat.le_trans hb.size (n' q hq)⟩⟩, fun q hq => .inr (.inl ⟨n' q hq, hl q hq⟩), fun h => h.elim fun _ h9 => h9.elim, Mod.of b'⟩))
    · have hg : vs 37 = .bool true := hp 6 (by decide)
      obtain ⟨so, sc, hv, h2, _⟩ : TNum w0.heap.size ds (vs 40) (S 9) w := hp 9 (by decide)
      exact wpOp_want _ rfl 6 true rfl 37 rfl (by show some (vs 37) = _; rw [hg]) (op_call1f enters_cont rfl rfl (kC w _ h2) (by rintro e b ⟨rfl, rfl⟩; exact ⟨_, rfl, _, fun _ => False, rfl, rfl, fun _ h => h.elim, fun h => h.elim fun _ h9 => h9.elim, Mod.refl _ _⟩))
    · have hg : vs 37 = .bool true := hp 6 (by decide)
      have h : vs 41 = .bool Lw := hp 10 (by decide)
      exact wpOp_want _ rfl 6 true rfl 37 rfl (by show some (vs 37) = _; rw [hg]) (op_notB rfl h ⟨_, fun _ => False, rfl, rfl, fun _ h => h.elim, fun h => h.elim fun _ h9 => h9.elim, Mod.refl _ _⟩)
    · have h1 : vs 37 = .bool true := hp 6 (by decide)
      have h2 : vs 42 = .bool (!Lw) := hp 11 (by decide)
      exact wpOp_of _ rfl rfl (op_pickT rfl h1 h2 ⟨_, fun _ => False, rfl, rfl, fun _ h => h.elim, fun h => h.elim fun _ h9 => h9.elim, Mod.refl _ _⟩)
    · have h : vs 43 = .bool (!Lw) := hp 12 (by decide)
      exact wpOp_of _ rfl rfl (op_assign rfl h ⟨_, fun _ => False, rfl, rfl, fun _ h => h.elim, fun h => h.elim fun _ h9 => h9.elim, Mod.refl _ _⟩)
  · intro vs w S hb hT
    exact hQ vs w hb (hT 13 (by decide) (fun _ h => h))
def krfOps : Array Oper := #[
 ⟨some 31, .fieldAddr 31 (.tmp 1) 1, 0, "kalman.go:26", #[], none⟩,
 ⟨some 32, .load 29 (.tmp 31), 29, "kalman.go:26", #[eD 0], none⟩,
 ⟨some 33, .fieldAddr 31 (.tmp 1) 1, 0, "kalman.go:26", #[], none⟩,
 ⟨some 34, .load 29 (.tmp 33), 29, "kalman.go:26", #[eD 2], none⟩,
 ⟨some 35, .call ⟨.value (.func 115), #[.tmp 34], #[29]⟩, 29, "kalman.go:26", #[eD 3], none⟩,
 ⟨some 36, .call ⟨.value (.func 93), #[.tmp 32, .tmp 35], #[29, 29]⟩, 4, "kalman.go:26", #[eD 1, eD 4, eC 4], none⟩,
 ⟨some 37, .move (.tmp 36), 4, "kalman.go:26", #[eD 5, eC 5], none⟩,
 ⟨some 38, .fieldAddr 31 (.tmp 1) 1, 0, "kalman.go:26", #[eG 6], some (6, true)⟩,
 ⟨some 39, .load 29 (.tmp 38), 29, "kalman.go:26", #[eD 7, eG 6], some (6, true)⟩,
 ⟨some 40, .call ⟨.value (.func 142), #[.tmp 39], #[29]⟩, 27, "kalman.go:26", #[eD 8, eC 6, eG 6], some (6, true)⟩,
 ⟨some 41, .call ⟨.value (.func 41), #[.tmp 40, .func 143], #[27, 81]⟩, 4, "kalman.go:26", #[eD 9, eC 9, eG 6], some (6, true)⟩,
 ⟨some 42, .unOp .not 4 (.tmp 41), 4, "kalman.go:26", #[eD 10, eG 6], some (6, true)⟩,
 ⟨some 43, .pick (.tmp 37) (.tmp 42) (.const (.bool false)), 4, "kalman.go:26", #[eD 6, eD 11], none⟩,
 ⟨some 2, .assign (.tmp 43), 4, "kalman.go:26", #[eD 12, eC 10, eP 0, eP 1, eP 2, eP 3, eP 4, eP 5, eP 6, eP 7, eP 8, eP 9, eP 10, eP 11, eP 12], none⟩]
def krfDst (i : Nat) : Nat := [31, 32, 33, 34, 35, 36, 37, 38, 39, 40, 41, 42, 43, 2].getD i 0
def krfFr (D : Nat) (u0 u3 u4 u5 u6 u7 u8 u9 u10 u11 u12 u13 u14 u15 u16 u17 u18 u19 u20 u21 u22 u23 u24 u25 u26 u27 u28 u29 u30 : Value) (vs : Nat → Value) : Act := ⟨#[u0, .pointer (some ⟨D, 0, none⟩), vs 2, u3, u4, u5, u6, u7, u8, u9, u10, u11, u12, u13, u14, u15, u16, u17, u18, u19, u20, u21, u22, u23, u24, u25, u26, u27, u28, u29, u30, vs 31, vs 32, vs 33, vs 34, vs 35, vs 36, vs 37, vs 38, vs 39, vs 40, vs 41, vs 42, vs 43], []⟩
def krfT (B : Nat) (D n : Nat) (po : Option Addr) (pc : Nat) (ps ts : List Int) : Nat → Value → Value → (Nat → Prop) → World → Prop
  | 0, v, _, _, _ => v = .pointer (some ⟨D, 3, none⟩)
  | 1, v, _, _, _ => v = .agg #[.int .i64 n, .int .i64 n, .slice po ps.length pc]
  | 2, v, _, _, _ => v = .pointer (some ⟨D, 3, none⟩)
  | 3, v, _, _, _ => v = .agg #[.int .i64 n, .int .i64 n, .slice po ps.length pc]
  | 4, v, _, S, w => TMat B n n ts v S w
  | 5, v, _, _, _ => v = .bool false
  | 6, v, _, _, _ => v = .bool false
  | 7, v, _, _, _ => v = undef
  | 8, v, _, _, _ => v = undef
  | 9, v, _, _, _ => v = undef
  | 10, v, _, _, _ => v = undef
  | 11, v, _, _, _ => v = undef
  | 12, v, _, _, _ => v = .bool false
  | 13, v, _, _, _ => v = .bool false
  | _, _, _, _, _ => True
set_option maxRecDepth 40000 in
set_option maxHeartbeats 800000 in
theorem krf_region {Q : Exit → Act → World → Prop} {w0 : World} {D n : Nat} {po : Option Addr} {pc : Nat} {ps ts : List Int} {u2 u0 u3 u4 u5 u6 u7 u8 u9 u10 u11 u12 u13 u14 u15 u16 u17 u18 u19 u20 u21 u22 u23 u24 u25 u26 u27 u28 u29 u30 : Value}
    (cP : ∀ w, Mod (fun _ => False) w0 w → w.cell? ⟨D, 3, none⟩ = some (.int .i64 n) ∧ w.cell? ⟨D, 4, none⟩ = some (.int .i64 n) ∧ w.cell? ⟨D, 5, none⟩ = some (.slice po ps.length pc))
    (kT : ∀ w, Mod (fun _ => False) w0 w → Calls Tryz.prog 115 #[.agg #[.int .i64 n, .int .i64 n, .slice po ps.length pc]] w fun e b => ∃ v, e = .returned (.agg #[.int .i64 n, .int .i64 n, v]) ∧ Sees b v ts ∧ New w.heap.size v ∧ Below w.heap.size w b) (z_ts : 0 < ts.length)
    (kS : ∀ w, Mod (fun _ => False) w0 w → ∀ v, Sees w v ts → Calls Tryz.prog 93 #[.agg #[.int .i64 n, .int .i64 n, .slice po ps.length pc], .agg #[.int .i64 n, .int .i64 n, v]] w fun e b => e = .returned (.bool false) ∧ Below w.heap.size w b)
    (hQ : ∀ vs w, Mod (fun _ => False) w0 w → vs 2 = .bool false → Q .normal (krfFr D u0 u3 u4 u5 u6 u7 u8 u9 u10 u11 u12 u13 u14 u15 u16 u17 u18 u19 u20 u21 u22 u23 u24 u25 u26 u27 u28 u29 u30 vs) w) :
    (Code.region 3 krfOps true).wp Tryz.prog Q (krfFr D u0 u3 u4 u5 u6 u7 u8 u9 u10 u11 u12 u13 u14 u15 u16 u17 u18 u19 u20 u21 u22 u23 u24 u25 u26 u27 u28 u29 u30 (fun k => if k = 2 then u2 else undef)) w0 := by
  refine wp_region_own (by kernel_rfl) (by decide) krfDst (by decide) (krfFr D u0 u3 u4 u5 u6 u7 u8 u9 u10 u11 u12 u13 u14 u15 u16 u17 u18 u19 u20 u21 u22 u23 u24 u25 u26 u27 u28 u29 u30) (fun k => if k = 2 then u2 else undef) (fun i => i) (by decide) (fun _ => False) (fun q hq => hq.elim) (fun _ _ => False) (fun _ _ h => h.elim) (fun _ _ _ h _ => h.elim)
    (fun _ _ => False) (fun s j h => h.elim) (fun s j h => h.elim) (krfT w0.heap.size D n po pc ps ts) ?_ ?_ ?_
  · intro i v u S w w' hi h hw hw' hz hS
    have hi' : i < 14 := hi
    rcases (by omega : i = 0 ∨ i = 1 ∨ i = 2 ∨ i = 3 ∨ i = 4 ∨ i = 5 ∨ i = 6 ∨ i = 7 ∨ i = 8 ∨ i = 9 ∨ i = 10 ∨ i = 11 ∨ i = 12 ∨ i = 13) with rfl | rfl | rfl | rfl | rfl | rfl | rfl | rfl | rfl | rfl | rfl | rfl | rfl | rfl
    · exact h
    · exact h
    · exact h
    · exact h
    · exact TMat.stab h (agr_none hw hw' hz hS)
    · exact h
    · exact h
    · exact h
    · exact h
    · exact h
    · exact h
    · exact h
    · exact h
    · exact h
  · intro i hi vs w S hb hp hbd hwr _ _
    have hi' : i < 14 := hi
    rcases (by omega : i = 0 ∨ i = 1 ∨ i = 2 ∨ i = 3 ∨ i = 4 ∨ i = 5 ∨ i = 6 ∨ i = 7 ∨ i = 8 ∨ i = 9 ∨ i = 10 ∨ i = 11 ∨ i = 12 ∨ i = 13) with rfl | rfl | rfl | rfl | rfl | rfl | rfl | rfl | rfl | rfl | rfl | rfl | rfl | rfl
    · exact wpOp_of _ rfl rfl (op_fieldT (i := 1) (by decide) rfl rfl ⟨_, fun _ => False, rfl, rfl, fun _ h => h.elim, fun h => h.elim fun _ h9 => h9.elim, Mod.refl _ _⟩)
    · have h : vs 31 = .pointer (some ⟨D, 3, none⟩) := hp 0 (by decide)
      exact wpOp_of _ rfl rfl (op_loadM rfl h (cP w hb).1 (cP w hb).2.1 (cP w hb).2.2 ⟨_, fun _ => False, rfl, rfl, fun _ h => h.elim, fun h => h.elim fun _ h9 => h9.elim, Mod.refl _ _⟩)
    · exact wpOp_of _ rfl rfl (op_fieldT (i := 1) (by decide) rfl rfl ⟨_, fun _ => False, rfl, rfl, fun _ h => h.elim, fun h => h.elim fun _ h9 => h9.elim, Mod.refl _ _⟩)
    · have h : vs 33 = .pointer (some ⟨D, 3, none⟩) := hp 2 (by decide)
      exact wpOp_of _ rfl rfl (op_loadM rfl h (cP w hb).1 (cP w hb).2.1 (cP w hb).2.2 ⟨_, fun _ => False, rfl, rfl, fun _ h => h.elim, fun h => h.elim fun _ h9 => h9.elim, Mod.refl _ _⟩)
    · have h : vs 34 = .agg #[.int .i64 n, .int .i64 n, .slice po ps.length pc] := hp 3 (by decide)
      exact wpOp_of _ rfl rfl (op_call1 enters_trans rfl h (kT w hb) (by rintro e b ⟨v, rfl, s', n', b'⟩; have hl := s'.lt z_ts; obtain ⟨so, sc, rfl⟩ := s'.slice; exact ⟨_, rfl, _, fun q => (Value.slice so ts.length sc).ownBlock = some q, rfl, ⟨so, sc, rfl, s', fun q hq => ⟨hq, Nat.le_trans hb.size (n' q hq)⟩⟩, fun q hq => .inr (.inl ⟨n' q hq, hl q hq⟩), fun h => h.elim fun _ h9 => h9.elim, Mod.of b'⟩))
    · have h1 : vs 32 = .agg #[.int .i64 n, .int .i64 n, .slice po ps.length pc] := hp 1 (by decide)
      obtain ⟨so, sc, h2, s2, n2⟩ : TMat w0.heap.size n n ts (vs 35) (S 4) w := hp 4 (by decide)
      exact wpOp_of _ rfl rfl (op_call2 enters_same rfl h1 h2 (kS w hb _ s2) (by rintro e b ⟨rfl, b'⟩; exact ⟨_, rfl, _, fun _ => False, rfl, rfl, fun _ h => h.elim, fun h => h.elim fun _ h9 => h9.elim, Mod.of b'⟩))
    · have h : vs 36 = .bool false := hp 5 (by decide)
      exact wpOp_of _ rfl rfl (op_move rfl h ⟨_, fun _ => False, rfl, rfl, fun _ h => h.elim, fun h => h.elim fun _ h9 => h9.elim, Mod.refl _ _⟩)
    · have hg : vs 37 = .bool false := hp 6 (by decide)
      exact wpOp_skip _ rfl 6 true rfl 37 rfl (by show some (vs 37) = _; rw [hg]; rfl) ⟨_, fun _ => False, rfl, rfl, fun _ h => h.elim, fun h => h.elim fun _ h9 => h9.elim, Mod.refl _ _⟩
    · have hg : vs 37 = .bool false := hp 6 (by decide)
      exact wpOp_skip _ rfl 6 true rfl 37 rfl (by show some (vs 37) = _; rw [hg]; rfl) ⟨_, fun _ => False, rfl, rfl, fun _ h => h.elim, fun h => h.elim fun _ h9 => h9.elim, Mod.refl _ _⟩
    · have hg : vs 37 = .bool false := hp 6 (by decide)
      exact wpOp_skip _ rfl 6 true rfl 37 rfl (by show some (vs 37) = _; rw [hg]; rfl) ⟨_, fun _ => False, rfl, rfl, fun _ h => h.elim, fun h => h.elim fun _ h9 => h9.elim, Mod.refl _ _⟩
    · have hg : vs 37 = .bool false := hp 6 (by decide)
      exact wpOp_skip _ rfl 6 true rfl 37 rfl (by show some (vs 37) = _; rw [hg]; rfl) ⟨_, fun _ => False, rfl, rfl, fun _ h => h.elim, fun h => h.elim fun _ h9 => h9.elim, Mod.refl _ _⟩
    · have hg : vs 37 = .bool false := hp 6 (by decide)
      exact wpOp_skip _ rfl 6 true rfl 37 rfl (by show some (vs 37) = _; rw [hg]; rfl) ⟨_, fun _ => False, rfl, rfl, fun _ h => h.elim, fun h => h.elim fun _ h9 => h9.elim, Mod.refl _ _⟩
    · have h1 : vs 37 = .bool false := hp 6 (by decide)
      exact wpOp_of _ rfl rfl (op_pickF rfl h1 ⟨_, fun _ => False, rfl, rfl, fun _ h => h.elim, fun h => h.elim fun _ h9 => h9.elim, Mod.refl _ _⟩)
    · have h : vs 43 = .bool false := hp 12 (by decide)
      exact wpOp_of _ rfl rfl (op_assign rfl h ⟨_, fun _ => False, rfl, rfl, fun _ h => h.elim, fun h => h.elim fun _ h9 => h9.elim, Mod.refl _ _⟩)
  · intro vs w S hb hT
    exact hQ vs w hb (hT 13 (by decide) (fun _ h => h))
section
variable {a : Act} {w : World} {K : Act → World → Prop} {Q : Exit → Act → World → Prop} {o : Oper}
theorem op_alloc26 (hop : o.op = Op.alloc 31) (hk : K (a.put o.dst (.pointer (some ⟨w.heap.size, 0, none⟩))) (w.alloc (.cells #[.int .i64 0, .int .i64 0, .slice none 0 0, .int .i64 0, .int .i64 0, .slice none 0 0] 31))) : o.wp Tryz.prog a w K Q := by
  unfold Oper.wp
  simp [execOp, hop, go_sem]
  exact hk
theorem op_lenQ {s n cap : Nat} {ao : Option Addr} (hty : o.type = 3) (hop : o.op = Op.call { callee := Callee.builtin Builtin.len, args := #[Operand.tmp s], argTypes := #[27] }) (hs : a.tmps[s]?.getD undef = .slice ao n cap) (hk : K (a.put o.dst (.int .i64 (n : Nat))) w) : o.wp Tryz.prog a w K Q := by
  unfold Oper.wp
  simp [execOp, hop, hty, go_sem, hs, Builtin.len_]
  exact hk
theorem op_buildM {s t : Nat} {r c : Int} {ao : Option Addr} {n cap : Nat} (hop : o.op = Op.build 29 #[(0, Operand.tmp s), (1, Operand.const (.int .i64 c)), (2, Operand.tmp t)]) (hs : a.tmps[s]?.getD undef = .int .i64 r) (ht : a.tmps[t]?.getD undef = .slice ao n cap) (hk : K (a.put o.dst (.agg #[.int .i64 r, .int .i64 c, .slice ao n cap])) w) : o.wp Tryz.prog a w K Q := by
  unfold Oper.wp
  simp [execOp, hop, go_sem, hs, ht]
  exact hk
end
def TNt (B : Nat) (r1 c1 r2 c2 : Int) (xs : List Int) (pv : Value) (v : Value) (S : Nat → Prop) (w : World) : Prop := ∃ ao ac, v = .agg #[.int .i64 r1, .int .i64 c1, .slice ao xs.length ac, .int .i64 r2, .int .i64 c2, pv] ∧ Sees w (.slice ao xs.length ac) xs ∧ ∀ k, (Value.slice ao xs.length ac).ownBlock = some k → S k ∧ B ≤ k
theorem TNt.stab {B B' N : Nat} {r1 c1 r2 c2 : Int} {xs : List Int} {pv v : Value} {S : Nat → Prop} {w w' : World} (h : TNt B r1 c1 r2 c2 xs pv v S w) (ha : Agr B' N S w w') : TNt B r1 c1 r2 c2 xs pv v S w' := by
  obtain ⟨ao, ac, h1, h2, h3⟩ := h
  exact ⟨ao, ac, h1, h2.agr (fun k hk => .inl (h3 k hk).1) ha, h3⟩
def TP6 (B : Nat) (v : Value) (S : Nat → Prop) (w : World) : Prop := ∃ D, v = .pointer (some ⟨D, 0, none⟩) ∧ S D ∧ B ≤ D ∧ ∃ x0 x1 x2 x3 x4 x5, w.heap[D]? = some (.cells #[x0, x1, x2, x3, x4, x5] 31 (0, 0))
theorem TP6.stab {B B' N : Nat} {v : Value} {S : Nat → Prop} {w w' : World} (h : TP6 B v S w) (ha : Agr B' N S w w') : TP6 B v S w' := by
  obtain ⟨D, h1, h2, h3, x0, x1, x2, x3, x4, x5, h4⟩ := h
  exact ⟨D, h1, h2, h3, x0, x1, x2, x3, x4, x5, (ha.2 D (.inl h2)).trans h4⟩
def TSn (B : Nat) (r1 c1 r2 c2 : Int) (xs : List Int) (pv u : Value) (S : Nat → Prop) (w : World) : Prop := ∃ D ao ac, u = .pointer (some ⟨D, 0, none⟩) ∧ S D ∧ B ≤ D ∧ w.heap[D]? = some (.cells #[.int .i64 r1, .int .i64 c1, .slice ao xs.length ac, .int .i64 r2, .int .i64 c2, pv] 31 (0, 0)) ∧ Sees w (.slice ao xs.length ac) xs ∧ ∀ k, (Value.slice ao xs.length ac).ownBlock = some k → S k ∧ B ≤ k
theorem TSn.stab {B B' N : Nat} {r1 c1 r2 c2 : Int} {xs : List Int} {pv u : Value} {S : Nat → Prop} {w w' : World} (h : TSn B r1 c1 r2 c2 xs pv u S w) (ha : Agr B' N S w w') : TSn B r1 c1 r2 c2 xs pv u S w' := by
  obtain ⟨D, ao, ac, h1, h2, h3, h4, h5, h6⟩ := h
  exact ⟨D, ao, ac, h1, h2, h3, (ha.2 D (.inl h2)).trans h4, h5.agr (fun k hk => .inl (h6 k hk).1) ha, h6⟩
end Go.Proofs.YtoefekkdjcflmaaGreatDoor

