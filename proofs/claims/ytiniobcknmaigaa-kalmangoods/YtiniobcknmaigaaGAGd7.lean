/-
  KalmanGoods: what it returns.
-/
import Derived.Test.YtiniobcknmaigaaGAEnt
namespace Go.Proofs.Ytiniobcknmaigaa
open Go.RowKit Go.Sort Qm

def gd7tOps : Array Oper := #[
    { dst := some 31, op := Op.move (Operand.tmp 3), type := 4, pos := "more.go:76", after := #[], guard := none },
    { dst := some 32, op := Op.move (Operand.tmp 31), type := 4, pos := "more.go:76", after := #[{ on := 0, ground := Ground.data }], guard := none },
    { dst := some 33, op := Op.load 26 (Operand.tmp 5), type := 26, pos := "more.go:76", after := #[{ on := 1, ground := Ground.guard }], guard := some (1, true) },
    { dst := some 34, op := Op.call { callee := Callee.value (Operand.func 13), args := #[Operand.tmp 33], argTypes := #[26] }, type := 4, pos := "more.go:76", after := #[{ on := 2, ground := Ground.data }, { on := 1, ground := Ground.chain }, { on := 1, ground := Ground.guard }], guard := some (1, true) },
    { dst := some 35, op := Op.pick (Operand.tmp 32) (Operand.tmp 34) (Operand.const (Value.bool false)), type := 4, pos := "more.go:76", after := #[{ on := 1, ground := Ground.data }, { on := 3, ground := Ground.data }], guard := none },
    { dst := some 36, op := Op.move (Operand.tmp 35), type := 4, pos := "more.go:76", after := #[{ on := 4, ground := Ground.data }, { on := 3, ground := Ground.chain }], guard := none },
    { dst := some 37, op := Op.load 26 (Operand.tmp 5), type := 26, pos := "more.go:76", after := #[{ on := 5, ground := Ground.guard }], guard := some (5, true) },
    { dst := some 38, op := Op.call { callee := Callee.value (Operand.func 15), args := #[Operand.tmp 37], argTypes := #[26] }, type := 4, pos := "more.go:76", after := #[{ on := 6, ground := Ground.data }, { on := 5, ground := Ground.chain }, { on := 5, ground := Ground.guard }], guard := some (5, true) },
    { dst := some 39, op := Op.pick (Operand.tmp 36) (Operand.tmp 38) (Operand.const (Value.bool false)), type := 4, pos := "more.go:76", after := #[{ on := 5, ground := Ground.data }, { on := 7, ground := Ground.data }], guard := none },
    { dst := some 40, op := Op.move (Operand.tmp 39), type := 4, pos := "more.go:76", after := #[{ on := 8, ground := Ground.data }, { on := 7, ground := Ground.chain }], guard := none },
    { dst := some 41, op := Op.load 24 (Operand.tmp 4), type := 24, pos := "more.go:76", after := #[{ on := 9, ground := Ground.guard }], guard := some (9, true) },
    { dst := some 42, op := Op.call { callee := Callee.value (Operand.func 18), args := #[Operand.tmp 41], argTypes := #[24] }, type := 24, pos := "more.go:76", after := #[{ on := 10, ground := Ground.data }, { on := 9, ground := Ground.chain }, { on := 9, ground := Ground.guard }], guard := some (9, true) },
    { dst := some 43, op := Op.load 24 (Operand.tmp 4), type := 24, pos := "more.go:76", after := #[{ on := 9, ground := Ground.guard }], guard := some (9, true) },
    { dst := some 44, op := Op.call { callee := Callee.value (Operand.func 17), args := #[Operand.tmp 42, Operand.tmp 43], argTypes := #[24, 24] }, type := 4, pos := "more.go:76", after := #[{ on := 11, ground := Ground.data }, { on := 12, ground := Ground.data }, { on := 11, ground := Ground.chain }, { on := 9, ground := Ground.guard }], guard := some (9, true) },
    { dst := some 45, op := Op.pick (Operand.tmp 40) (Operand.tmp 44) (Operand.const (Value.bool false)), type := 4, pos := "more.go:76", after := #[{ on := 9, ground := Ground.data }, { on := 13, ground := Ground.data }], guard := none },
    { dst := some 46, op := Op.move (Operand.tmp 45), type := 4, pos := "more.go:76", after := #[{ on := 14, ground := Ground.data }, { on := 13, ground := Ground.chain }], guard := none },
    { dst := some 47, op := Op.load 26 (Operand.tmp 6), type := 26, pos := "more.go:76", after := #[{ on := 15, ground := Ground.guard }], guard := some (15, true) },
    { dst := some 48, op := Op.call { callee := Callee.value (Operand.func 13), args := #[Operand.tmp 47], argTypes := #[26] }, type := 4, pos := "more.go:76", after := #[{ on := 16, ground := Ground.data }, { on := 15, ground := Ground.chain }, { on := 15, ground := Ground.guard }], guard := some (15, true) },
    { dst := some 49, op := Op.unOp UnOp.not 4 (Operand.tmp 48), type := 4, pos := "more.go:76", after := #[{ on := 17, ground := Ground.data }, { on := 15, ground := Ground.guard }], guard := some (15, true) },
    { dst := some 50, op := Op.move (Operand.tmp 49), type := 4, pos := "more.go:76", after := #[{ on := 18, ground := Ground.data }, { on := 17, ground := Ground.chain }, { on := 15, ground := Ground.guard }], guard := some (15, true) },
    { dst := some 51, op := Op.load 24 (Operand.tmp 4), type := 24, pos := "more.go:76", after := #[{ on := 19, ground := Ground.guard }], guard := some (19, false) },
    { dst := some 52, op := Op.load 24 (Operand.tmp 1), type := 24, pos := "more.go:76", after := #[{ on := 19, ground := Ground.guard }], guard := some (19, false) },
    { dst := some 53, op := Op.call { callee := Callee.value (Operand.func 17), args := #[Operand.tmp 51, Operand.tmp 52], argTypes := #[24, 24] }, type := 4, pos := "more.go:76", after := #[{ on := 20, ground := Ground.data }, { on := 21, ground := Ground.data }, { on := 19, ground := Ground.chain }, { on := 19, ground := Ground.guard }], guard := some (19, false) },
    { dst := some 54, op := Op.pick (Operand.tmp 50) (Operand.const (Value.bool true)) (Operand.tmp 53), type := 4, pos := "more.go:76", after := #[{ on := 19, ground := Ground.data }, { on := 22, ground := Ground.data }, { on := 15, ground := Ground.guard }], guard := some (15, true) },
    { dst := some 55, op := Op.pick (Operand.tmp 46) (Operand.tmp 54) (Operand.const (Value.bool false)), type := 4, pos := "more.go:76", after := #[{ on := 15, ground := Ground.data }, { on := 23, ground := Ground.data }], guard := none },
    { dst := some 2, op := Op.assign (Operand.tmp 55), type := 4, pos := "more.go:76", after := #[{ on := 24, ground := Ground.data }, { on := 22, ground := Ground.chain }, { on := 0, ground := Ground.phase }, { on := 1, ground := Ground.phase }, { on := 2, ground := Ground.phase }, { on := 3, ground := Ground.phase }, { on := 4, ground := Ground.phase }, { on := 5, ground := Ground.phase }, { on := 6, ground := Ground.phase }, { on := 7, ground := Ground.phase }, { on := 8, ground := Ground.phase }, { on := 9, ground := Ground.phase }, { on := 10, ground := Ground.phase }, { on := 11, ground := Ground.phase }, { on := 12, ground := Ground.phase }, { on := 13, ground := Ground.phase }, { on := 14, ground := Ground.phase }, { on := 15, ground := Ground.phase }, { on := 16, ground := Ground.phase }, { on := 17, ground := Ground.phase }, { on := 18, ground := Ground.phase }, { on := 19, ground := Ground.phase }, { on := 20, ground := Ground.phase }, { on := 21, ground := Ground.phase }, { on := 22, ground := Ground.phase }, { on := 23, ground := Ground.phase }, { on := 24, ground := Ground.phase }], guard := none }]
def gd7tDst (i : Nat) : Nat := [31, 32, 33, 34, 35, 36, 37, 38, 39, 40, 41, 42, 43, 44, 45, 46, 47, 48, 49, 50, 51, 52, 53, 54, 55, 2].getD i 0
def gd7tFr (D4 : Nat) (D5 : Nat) (D6 : Nat) (D1 : Nat) (u0 u7 u8 u9 u10 u11 u12 u13 u14 u15 u16 u17 u18 u19 u20 u21 u22 u23 u24 u25 u26 u27 u28 u29 u30 : Value) (vs : Nat → Value) : Act := ⟨#[u0, .pointer (some ⟨D1, 0, none⟩), vs 2, .bool true, .pointer (some ⟨D4, 0, none⟩), .pointer (some ⟨D5, 0, none⟩), .pointer (some ⟨D6, 0, none⟩), u7, u8, u9, u10, u11, u12, u13, u14, u15, u16, u17, u18, u19, u20, u21, u22, u23, u24, u25, u26, u27, u28, u29, u30, vs 31, vs 32, vs 33, vs 34, vs 35, vs 36, vs 37, vs 38, vs 39, vs 40, vs 41, vs 42, vs 43, vs 44, vs 45, vs 46, vs 47, vs 48, vs 49, vs 50, vs 51, vs 52, vs 53, vs 54, vs 55], []⟩
def gd7tT (B : Nat) (n : Nat) (xc : Nat) (kc : Nat) (gc : Nat) (yc : Nat) (mc : Nat) (pc : Nat) (xo : Option Addr) (ko : Option Addr) (go : Option Addr) (yo : Option Addr) (mo : Option Addr) (po : Option Addr) (zs : List Int) (gs : List Int) (ps : List Int) (qs : List Int) : Nat → Value → Value → (Nat → Prop) → World → Prop
  | 0, v, _, _, _ => v = .bool true
  | 1, v, _, _, _ => v = .bool true
  | 2, v, _, _, _ => v = .agg #[.int .i64 n, .int .i64 1, .slice xo zs.length xc, .int .i64 n, .int .i64 n, .slice ko gs.length kc]
  | 3, v, _, _, _ => v = .bool true
  | 4, v, _, _, _ => v = .bool true
  | 5, v, _, _, _ => v = .bool true
  | 6, v, _, _, _ => v = .agg #[.int .i64 n, .int .i64 1, .slice xo zs.length xc, .int .i64 n, .int .i64 n, .slice ko gs.length kc]
  | 7, v, _, _, _ => v = .bool true
  | 8, v, _, _, _ => v = .bool true
  | 9, v, _, _, _ => v = .bool true
  | 10, v, _, _, _ => v = .agg #[.int .i64 n, .int .i64 n, .slice go gs.length gc]
  | 11, v, _, S, w => TV1 B B (fun s => .agg #[.int .i64 n, .int .i64 n, s]) qs v S w
  | 12, v, _, _, _ => v = .agg #[.int .i64 n, .int .i64 n, .slice go gs.length gc]
  | 13, v, _, _, _ => v = .bool true
  | 14, v, _, _, _ => v = .bool true
  | 15, v, _, _, _ => v = .bool true
  | 16, v, _, _, _ => v = .agg #[.int .i64 n, .int .i64 1, .slice yo zs.length yc, .int .i64 n, .int .i64 n, .slice mo ps.length mc]
  | 17, v, _, _, _ => v = .bool true
  | 18, v, _, _, _ => v = .bool false
  | 19, v, _, _, _ => v = .bool false
  | 20, v, _, _, _ => v = .agg #[.int .i64 n, .int .i64 n, .slice go gs.length gc]
  | 21, v, _, _, _ => v = .agg #[.int .i64 n, .int .i64 n, .slice po ps.length pc]
  | 22, v, _, _, _ => v = .bool true
  | 23, v, _, _, _ => v = .bool true
  | 24, v, _, _, _ => v = .bool true
  | 25, v, _, _, _ => v = .bool true
  | _, _, _, _, _ => True
set_option maxRecDepth 40000 in
set_option maxHeartbeats 1600000 in
theorem gd7t_region {Q : Exit → Act → World → Prop} {w0 : World} {D4 : Nat} {D5 : Nat} {D6 : Nat} {D1 : Nat} {n : Nat} {xc : Nat} {kc : Nat} {gc : Nat} {yc : Nat} {mc : Nat} {pc : Nat} {xo : Option Addr} {ko : Option Addr} {go : Option Addr} {yo : Option Addr} {mo : Option Addr} {po : Option Addr} {zs : List Int} {gs : List Int} {ps : List Int} {qs : List Int} {u0 u7 u8 u9 u10 u11 u12 u13 u14 u15 u16 u17 u18 u19 u20 u21 u22 u23 u24 u25 u26 u27 u28 u29 u30 u2 : Value}
    (cX : ∀ w, Mod (fun _ => False) w0 w → w.heap[D5]? = some (.cells #[.int .i64 n, .int .i64 1, .slice xo zs.length xc, .int .i64 n, .int .i64 n, .slice ko gs.length kc] 26 (0, 0)))
    (cG : ∀ w, Mod (fun _ => False) w0 w → w.cell? ⟨D4, 0, none⟩ = some (.int .i64 n) ∧ w.cell? ⟨D4, 1, none⟩ = some (.int .i64 n) ∧ w.cell? ⟨D4, 2, none⟩ = some (.slice go gs.length gc))
    (cY : ∀ w, Mod (fun _ => False) w0 w → w.heap[D6]? = some (.cells #[.int .i64 n, .int .i64 1, .slice yo zs.length yc, .int .i64 n, .int .i64 n, .slice mo ps.length mc] 26 (0, 0)))
    (k1 : ∀ w, Mod (fun _ => False) w0 w → Calls Try.prog 13 #[.agg #[.int .i64 n, .int .i64 1, .slice xo zs.length xc, .int .i64 n, .int .i64 n, .slice ko gs.length kc]] w fun e b => e = .returned (.bool true) ∧ Below w.heap.size w b)
    (k2 : ∀ w, Mod (fun _ => False) w0 w → Calls Try.prog 15 #[.agg #[.int .i64 n, .int .i64 1, .slice xo zs.length xc, .int .i64 n, .int .i64 n, .slice ko gs.length kc]] w fun e b => e = .returned (.bool true) ∧ Below w.heap.size w b)
    (k3 : ∀ w, Mod (fun _ => False) w0 w → Calls Try.prog 18 #[.agg #[.int .i64 n, .int .i64 n, .slice go gs.length gc]] w fun e b => ∃ v, e = .returned (.agg #[.int .i64 n, .int .i64 n, v]) ∧ Sees b v qs ∧ New w.heap.size v ∧ Below w.heap.size w b) (z_qs : 0 < qs.length)
    (k4 : ∀ w, Mod (fun _ => False) w0 w → ∀ s, Sees w s qs → Calls Try.prog 17 #[.agg #[.int .i64 n, .int .i64 n, s], .agg #[.int .i64 n, .int .i64 n, .slice go gs.length gc]] w fun e b => e = .returned (.bool true) ∧ Below w.heap.size w b)
    (k5 : ∀ w, Mod (fun _ => False) w0 w → Calls Try.prog 13 #[.agg #[.int .i64 n, .int .i64 1, .slice yo zs.length yc, .int .i64 n, .int .i64 n, .slice mo ps.length mc]] w fun e b => e = .returned (.bool true) ∧ Below w.heap.size w b)
    (cP : ∀ w, Mod (fun _ => False) w0 w → w.cell? ⟨D1, 0, none⟩ = some (.int .i64 n) ∧ w.cell? ⟨D1, 1, none⟩ = some (.int .i64 n) ∧ w.cell? ⟨D1, 2, none⟩ = some (.slice po ps.length pc))
    (k6 : ∀ w, Mod (fun _ => False) w0 w → Calls Try.prog 17 #[.agg #[.int .i64 n, .int .i64 n, .slice go gs.length gc], .agg #[.int .i64 n, .int .i64 n, .slice po ps.length pc]] w fun e b => e = .returned (.bool true) ∧ Below w.heap.size w b)
    (hQ : ∀ vs w, Mod (fun _ => False) w0 w → vs 2 = .bool true → Q .normal (gd7tFr D4 D5 D6 D1 u0 u7 u8 u9 u10 u11 u12 u13 u14 u15 u16 u17 u18 u19 u20 u21 u22 u23 u24 u25 u26 u27 u28 u29 u30 vs) w) :
    (Code.region 7 gd7tOps true).wp Try.prog Q (gd7tFr D4 D5 D6 D1 u0 u7 u8 u9 u10 u11 u12 u13 u14 u15 u16 u17 u18 u19 u20 u21 u22 u23 u24 u25 u26 u27 u28 u29 u30 (fun k => if k = 2 then u2 else undef)) w0 := by
  refine wp_region_own3 (by kernel_rfl) (by decide) gd7tDst (by decide) (gd7tFr D4 D5 D6 D1 u0 u7 u8 u9 u10 u11 u12 u13 u14 u15 u16 u17 u18 u19 u20 u21 u22 u23 u24 u25 u26 u27 u28 u29 u30) (fun k => if k = 2 then u2 else undef) (fun i => i) (by decide) (fun _ => False) (fun q hq => hq.elim) (fun _ _ => False) (fun _ _ h => h.elim) (fun _ _ _ h _ => h.elim)
    (fun _ _ => False) (fun s j h => h.elim) (fun s s2 j h => h.elim) (gd7tT w0.heap.size n xc kc gc yc mc pc xo ko go yo mo po zs gs ps qs) ?_ ?_ ?_
  · intro i v u S w w' hi h hw hw' hz hS
    have hi' : i < 26 := hi
    rcases (by omega : i = 0 ∨ i = 1 ∨ i = 2 ∨ i = 3 ∨ i = 4 ∨ i = 5 ∨ i = 6 ∨ i = 7 ∨ i = 8 ∨ i = 9 ∨ i = 10 ∨ i = 11 ∨ i = 12 ∨ i = 13 ∨ i = 14 ∨ i = 15 ∨ i = 16 ∨ i = 17 ∨ i = 18 ∨ i = 19 ∨ i = 20 ∨ i = 21 ∨ i = 22 ∨ i = 23 ∨ i = 24 ∨ i = 25) with rfl | rfl | rfl | rfl | rfl | rfl | rfl | rfl | rfl | rfl | rfl | rfl | rfl | rfl | rfl | rfl | rfl | rfl | rfl | rfl | rfl | rfl | rfl | rfl | rfl | rfl
    · exact h
    · exact h
    · exact h
    · exact h
    · exact h
    · exact h
    · exact h
    · exact h
    · exact h
    · exact h
    · exact h
    · exact TV1.stab (show TV1 w0.heap.size w0.heap.size (fun s => .agg #[.int .i64 n, .int .i64 n, s]) qs v S w from h) (agr_none hw hw' hz hS)
    · exact h
    · exact h
    · exact h
    · exact h
    · exact h
    · exact h
    · exact h
    · exact h
    · exact h
    · exact h
    · exact h
    · exact h
    · exact h
    · exact h
  · intro i hi vs w S hb hp hbd hwr hkl _
    have hi' : i < 26 := hi
    rcases (by omega : i = 0 ∨ i = 1 ∨ i = 2 ∨ i = 3 ∨ i = 4 ∨ i = 5 ∨ i = 6 ∨ i = 7 ∨ i = 8 ∨ i = 9 ∨ i = 10 ∨ i = 11 ∨ i = 12 ∨ i = 13 ∨ i = 14 ∨ i = 15 ∨ i = 16 ∨ i = 17 ∨ i = 18 ∨ i = 19 ∨ i = 20 ∨ i = 21 ∨ i = 22 ∨ i = 23 ∨ i = 24 ∨ i = 25) with rfl | rfl | rfl | rfl | rfl | rfl | rfl | rfl | rfl | rfl | rfl | rfl | rfl | rfl | rfl | rfl | rfl | rfl | rfl | rfl | rfl | rfl | rfl | rfl | rfl | rfl
    · exact wpOp_of _ rfl rfl (op_move rfl rfl ⟨_, fun _ => False, rfl, rfl, fun _ h => h.elim, fun h => h.elim fun _ h9 => h9.elim, Mod.refl _ _⟩)
    · have h0 : vs 31 = .bool true := hp 0 (by decide) (fun _ h9 => h9.elim)
      exact wpOp_of _ rfl rfl (op_move rfl h0 ⟨_, fun _ => False, rfl, rfl, fun _ h => h.elim, fun h => h.elim fun _ h9 => h9.elim, Mod.refl _ _⟩)
    · have hg : vs 32 = .bool true := hp 1 (by decide) (fun _ h9 => h9.elim)
      exact wpOp_want _ rfl 1 true rfl 32 rfl (by show some (vs 32) = _; rw [hg]) (op_loadT rfl rfl (cX w hb) ⟨_, fun _ => False, rfl, rfl, fun _ h => h.elim, fun h => h.elim fun _ h9 => h9.elim, Mod.refl _ _⟩)
    · have hg : vs 32 = .bool true := hp 1 (by decide) (fun _ h9 => h9.elim)
      have h2 : vs 33 = .agg #[.int .i64 n, .int .i64 1, .slice xo zs.length xc, .int .i64 n, .int .i64 n, .slice ko gs.length kc] := hp 2 (by decide) (fun _ h9 => h9.elim)
      exact wpOp_want _ rfl 1 true rfl 32 rfl (by show some (vs 32) = _; rw [hg]) (op_call1 enters_r5 rfl h2 (k1 w hb) (by rintro e b ⟨rfl, b'⟩; exact ⟨_, rfl, _, fun _ => False, rfl, rfl, fun _ h => h.elim, fun h => h.elim fun _ h9 => h9.elim, Mod.of b'⟩))
    · have h1 : vs 32 = .bool true := hp 1 (by decide) (fun _ h9 => h9.elim)
      have h3 : vs 34 = .bool true := hp 3 (by decide) (fun _ h9 => h9.elim)
      exact wpOp_of _ rfl rfl (op_pickT rfl h1 h3 ⟨_, fun _ => False, rfl, rfl, fun _ h => h.elim, fun h => h.elim fun _ h9 => h9.elim, Mod.refl _ _⟩)
    · have h4 : vs 35 = .bool true := hp 4 (by decide) (fun _ h9 => h9.elim)
      exact wpOp_of _ rfl rfl (op_move rfl h4 ⟨_, fun _ => False, rfl, rfl, fun _ h => h.elim, fun h => h.elim fun _ h9 => h9.elim, Mod.refl _ _⟩)
    · have hg : vs 36 = .bool true := hp 5 (by decide) (fun _ h9 => h9.elim)
      exact wpOp_want _ rfl 5 true rfl 36 rfl (by show some (vs 36) = _; rw [hg]) (op_loadT rfl rfl (cX w hb) ⟨_, fun _ => False, rfl, rfl, fun _ h => h.elim, fun h => h.elim fun _ h9 => h9.elim, Mod.refl _ _⟩)
    · have hg : vs 36 = .bool true := hp 5 (by decide) (fun _ h9 => h9.elim)
      have h6 : vs 37 = .agg #[.int .i64 n, .int .i64 1, .slice xo zs.length xc, .int .i64 n, .int .i64 n, .slice ko gs.length kc] := hp 6 (by decide) (fun _ h9 => h9.elim)
      exact wpOp_want _ rfl 5 true rfl 36 rfl (by show some (vs 36) = _; rw [hg]) (op_call1 enters_kr rfl h6 (k2 w hb) (by rintro e b ⟨rfl, b'⟩; exact ⟨_, rfl, _, fun _ => False, rfl, rfl, fun _ h => h.elim, fun h => h.elim fun _ h9 => h9.elim, Mod.of b'⟩))
    · have h5 : vs 36 = .bool true := hp 5 (by decide) (fun _ h9 => h9.elim)
      have h7 : vs 38 = .bool true := hp 7 (by decide) (fun _ h9 => h9.elim)
      exact wpOp_of _ rfl rfl (op_pickT rfl h5 h7 ⟨_, fun _ => False, rfl, rfl, fun _ h => h.elim, fun h => h.elim fun _ h9 => h9.elim, Mod.refl _ _⟩)
    · have h8 : vs 39 = .bool true := hp 8 (by decide) (fun _ h9 => h9.elim)
      exact wpOp_of _ rfl rfl (op_move rfl h8 ⟨_, fun _ => False, rfl, rfl, fun _ h => h.elim, fun h => h.elim fun _ h9 => h9.elim, Mod.refl _ _⟩)
    · have hg : vs 40 = .bool true := hp 9 (by decide) (fun _ h9 => h9.elim)
      exact wpOp_want _ rfl 9 true rfl 40 rfl (by show some (vs 40) = _; rw [hg]) (op_loadM rfl rfl (cG w hb).1 (cG w hb).2.1 (cG w hb).2.2 ⟨_, fun _ => False, rfl, rfl, fun _ h => h.elim, fun h => h.elim fun _ h9 => h9.elim, Mod.refl _ _⟩)
    · have hg : vs 40 = .bool true := hp 9 (by decide) (fun _ h9 => h9.elim)
      have h10 : vs 41 = .agg #[.int .i64 n, .int .i64 n, .slice go gs.length gc] := hp 10 (by decide) (fun _ h9 => h9.elim)
      exact wpOp_want _ rfl 9 true rfl 40 rfl (by show some (vs 40) = _; rw [hg]) (op_call1 enters_kg rfl h10 (k3 w hb) (by rintro e b ⟨v, rfl, s', n', b'⟩; have hl := s'.lt z_qs; obtain ⟨so, sc, rfl⟩ := s'.slice; exact ⟨_, rfl, _, fun q => (Value.slice so qs.length sc).ownBlock = some q, rfl, ⟨so, sc, rfl, s', fun q hq => .inl hq⟩, fun q hq => .inr (.inl ⟨n' q hq, hl q hq⟩), fun h => h.elim fun _ h9 => h9.elim, Mod.of b'⟩))
    · have hg : vs 40 = .bool true := hp 9 (by decide) (fun _ h9 => h9.elim)
      exact wpOp_want _ rfl 9 true rfl 40 rfl (by show some (vs 40) = _; rw [hg]) (op_loadM rfl rfl (cG w hb).1 (cG w hb).2.1 (cG w hb).2.2 ⟨_, fun _ => False, rfl, rfl, fun _ h => h.elim, fun h => h.elim fun _ h9 => h9.elim, Mod.refl _ _⟩)
    · have hg : vs 40 = .bool true := hp 9 (by decide) (fun _ h9 => h9.elim)
      obtain ⟨o11, p11, h11, s11, k11⟩ : TV1 w0.heap.size w0.heap.size (fun s => .agg #[.int .i64 n, .int .i64 n, s]) qs (vs 42) (S 11) w := hp 11 (by decide) (fun _ h9 => h9.elim)
      have h12 : vs 43 = .agg #[.int .i64 n, .int .i64 n, .slice go gs.length gc] := hp 12 (by decide) (fun _ h9 => h9.elim)
      exact wpOp_want _ rfl 9 true rfl 40 rfl (by show some (vs 40) = _; rw [hg]) (op_call2 enters_r3s rfl h11 h12 (k4 w hb _ s11) (by rintro e b ⟨rfl, b'⟩; exact ⟨_, rfl, _, fun _ => False, rfl, rfl, fun _ h => h.elim, fun h => h.elim fun _ h9 => h9.elim, Mod.of b'⟩))
    · have h9 : vs 40 = .bool true := hp 9 (by decide) (fun _ h9 => h9.elim)
      have h13 : vs 44 = .bool true := hp 13 (by decide) (fun _ h9 => h9.elim)
      exact wpOp_of _ rfl rfl (op_pickT rfl h9 h13 ⟨_, fun _ => False, rfl, rfl, fun _ h => h.elim, fun h => h.elim fun _ h9 => h9.elim, Mod.refl _ _⟩)
    · have h14 : vs 45 = .bool true := hp 14 (by decide) (fun _ h9 => h9.elim)
      exact wpOp_of _ rfl rfl (op_move rfl h14 ⟨_, fun _ => False, rfl, rfl, fun _ h => h.elim, fun h => h.elim fun _ h9 => h9.elim, Mod.refl _ _⟩)
    · have hg : vs 46 = .bool true := hp 15 (by decide) (fun _ h9 => h9.elim)
      exact wpOp_want _ rfl 15 true rfl 46 rfl (by show some (vs 46) = _; rw [hg]) (op_loadT rfl rfl (cY w hb) ⟨_, fun _ => False, rfl, rfl, fun _ h => h.elim, fun h => h.elim fun _ h9 => h9.elim, Mod.refl _ _⟩)
    · have hg : vs 46 = .bool true := hp 15 (by decide) (fun _ h9 => h9.elim)
      have h16 : vs 47 = .agg #[.int .i64 n, .int .i64 1, .slice yo zs.length yc, .int .i64 n, .int .i64 n, .slice mo ps.length mc] := hp 16 (by decide) (fun _ h9 => h9.elim)
      exact wpOp_want _ rfl 15 true rfl 46 rfl (by show some (vs 46) = _; rw [hg]) (op_call1 enters_r5 rfl h16 (k5 w hb) (by rintro e b ⟨rfl, b'⟩; exact ⟨_, rfl, _, fun _ => False, rfl, rfl, fun _ h => h.elim, fun h => h.elim fun _ h9 => h9.elim, Mod.of b'⟩))
    · have hg : vs 46 = .bool true := hp 15 (by decide) (fun _ h9 => h9.elim)
      have h17 : vs 48 = .bool true := hp 17 (by decide) (fun _ h9 => h9.elim)
      exact wpOp_want _ rfl 15 true rfl 46 rfl (by show some (vs 46) = _; rw [hg]) (op_notB rfl h17 ⟨_, fun _ => False, rfl, rfl, fun _ h => h.elim, fun h => h.elim fun _ h9 => h9.elim, Mod.refl _ _⟩)
    · have hg : vs 46 = .bool true := hp 15 (by decide) (fun _ h9 => h9.elim)
      have h18 : vs 49 = .bool false := hp 18 (by decide) (fun _ h9 => h9.elim)
      exact wpOp_want _ rfl 15 true rfl 46 rfl (by show some (vs 46) = _; rw [hg]) (op_move rfl h18 ⟨_, fun _ => False, rfl, rfl, fun _ h => h.elim, fun h => h.elim fun _ h9 => h9.elim, Mod.refl _ _⟩)
    · have hg : vs 50 = .bool false := hp 19 (by decide) (fun _ h9 => h9.elim)
      exact wpOp_want _ rfl 19 false rfl 50 rfl (by show some (vs 50) = _; rw [hg]) (op_loadM rfl rfl (cG w hb).1 (cG w hb).2.1 (cG w hb).2.2 ⟨_, fun _ => False, rfl, rfl, fun _ h => h.elim, fun h => h.elim fun _ h9 => h9.elim, Mod.refl _ _⟩)
    · have hg : vs 50 = .bool false := hp 19 (by decide) (fun _ h9 => h9.elim)
      exact wpOp_want _ rfl 19 false rfl 50 rfl (by show some (vs 50) = _; rw [hg]) (op_loadM rfl rfl (cP w hb).1 (cP w hb).2.1 (cP w hb).2.2 ⟨_, fun _ => False, rfl, rfl, fun _ h => h.elim, fun h => h.elim fun _ h9 => h9.elim, Mod.refl _ _⟩)
    · have hg : vs 50 = .bool false := hp 19 (by decide) (fun _ h9 => h9.elim)
      have h20 : vs 51 = .agg #[.int .i64 n, .int .i64 n, .slice go gs.length gc] := hp 20 (by decide) (fun _ h9 => h9.elim)
      have h21 : vs 52 = .agg #[.int .i64 n, .int .i64 n, .slice po ps.length pc] := hp 21 (by decide) (fun _ h9 => h9.elim)
      exact wpOp_want _ rfl 19 false rfl 50 rfl (by show some (vs 50) = _; rw [hg]) (op_call2 enters_r3s rfl h20 h21 (k6 w hb) (by rintro e b ⟨rfl, b'⟩; exact ⟨_, rfl, _, fun _ => False, rfl, rfl, fun _ h => h.elim, fun h => h.elim fun _ h9 => h9.elim, Mod.of b'⟩))
    · have hg : vs 46 = .bool true := hp 15 (by decide) (fun _ h9 => h9.elim)
      have h19 : vs 50 = .bool false := hp 19 (by decide) (fun _ h9 => h9.elim)
      have h22 : vs 53 = .bool true := hp 22 (by decide) (fun _ h9 => h9.elim)
      exact wpOp_want _ rfl 15 true rfl 46 rfl (by show some (vs 46) = _; rw [hg]) (op_pickN rfl h19 h22 ⟨_, fun _ => False, rfl, rfl, fun _ h => h.elim, fun h => h.elim fun _ h9 => h9.elim, Mod.refl _ _⟩)
    · have h15 : vs 46 = .bool true := hp 15 (by decide) (fun _ h9 => h9.elim)
      have h23 : vs 54 = .bool true := hp 23 (by decide) (fun _ h9 => h9.elim)
      exact wpOp_of _ rfl rfl (op_pickT rfl h15 h23 ⟨_, fun _ => False, rfl, rfl, fun _ h => h.elim, fun h => h.elim fun _ h9 => h9.elim, Mod.refl _ _⟩)
    · have h24 : vs 55 = .bool true := hp 24 (by decide) (fun _ h9 => h9.elim)
      exact wpOp_of _ rfl rfl (op_assign rfl h24 ⟨_, fun _ => False, rfl, rfl, fun _ h => h.elim, fun h => h.elim fun _ h9 => h9.elim, Mod.refl _ _⟩)
  · intro vs w S hb hT
    exact hQ vs w hb (hT 25 (by decide) (fun _ h => h))
def gd7fOps : Array Oper := #[
    { dst := some 31, op := Op.move (Operand.tmp 3), type := 4, pos := "more.go:76", after := #[], guard := none },
    { dst := some 32, op := Op.move (Operand.tmp 31), type := 4, pos := "more.go:76", after := #[{ on := 0, ground := Ground.data }], guard := none },
    { dst := some 33, op := Op.load 26 (Operand.tmp 5), type := 26, pos := "more.go:76", after := #[{ on := 1, ground := Ground.guard }], guard := some (1, true) },
    { dst := some 34, op := Op.call { callee := Callee.value (Operand.func 13), args := #[Operand.tmp 33], argTypes := #[26] }, type := 4, pos := "more.go:76", after := #[{ on := 2, ground := Ground.data }, { on := 1, ground := Ground.chain }, { on := 1, ground := Ground.guard }], guard := some (1, true) },
    { dst := some 35, op := Op.pick (Operand.tmp 32) (Operand.tmp 34) (Operand.const (Value.bool false)), type := 4, pos := "more.go:76", after := #[{ on := 1, ground := Ground.data }, { on := 3, ground := Ground.data }], guard := none },
    { dst := some 36, op := Op.move (Operand.tmp 35), type := 4, pos := "more.go:76", after := #[{ on := 4, ground := Ground.data }, { on := 3, ground := Ground.chain }], guard := none },
    { dst := some 37, op := Op.load 26 (Operand.tmp 5), type := 26, pos := "more.go:76", after := #[{ on := 5, ground := Ground.guard }], guard := some (5, true) },
    { dst := some 38, op := Op.call { callee := Callee.value (Operand.func 15), args := #[Operand.tmp 37], argTypes := #[26] }, type := 4, pos := "more.go:76", after := #[{ on := 6, ground := Ground.data }, { on := 5, ground := Ground.chain }, { on := 5, ground := Ground.guard }], guard := some (5, true) },
    { dst := some 39, op := Op.pick (Operand.tmp 36) (Operand.tmp 38) (Operand.const (Value.bool false)), type := 4, pos := "more.go:76", after := #[{ on := 5, ground := Ground.data }, { on := 7, ground := Ground.data }], guard := none },
    { dst := some 40, op := Op.move (Operand.tmp 39), type := 4, pos := "more.go:76", after := #[{ on := 8, ground := Ground.data }, { on := 7, ground := Ground.chain }], guard := none },
    { dst := some 41, op := Op.load 24 (Operand.tmp 4), type := 24, pos := "more.go:76", after := #[{ on := 9, ground := Ground.guard }], guard := some (9, true) },
    { dst := some 42, op := Op.call { callee := Callee.value (Operand.func 18), args := #[Operand.tmp 41], argTypes := #[24] }, type := 24, pos := "more.go:76", after := #[{ on := 10, ground := Ground.data }, { on := 9, ground := Ground.chain }, { on := 9, ground := Ground.guard }], guard := some (9, true) },
    { dst := some 43, op := Op.load 24 (Operand.tmp 4), type := 24, pos := "more.go:76", after := #[{ on := 9, ground := Ground.guard }], guard := some (9, true) },
    { dst := some 44, op := Op.call { callee := Callee.value (Operand.func 17), args := #[Operand.tmp 42, Operand.tmp 43], argTypes := #[24, 24] }, type := 4, pos := "more.go:76", after := #[{ on := 11, ground := Ground.data }, { on := 12, ground := Ground.data }, { on := 11, ground := Ground.chain }, { on := 9, ground := Ground.guard }], guard := some (9, true) },
    { dst := some 45, op := Op.pick (Operand.tmp 40) (Operand.tmp 44) (Operand.const (Value.bool false)), type := 4, pos := "more.go:76", after := #[{ on := 9, ground := Ground.data }, { on := 13, ground := Ground.data }], guard := none },
    { dst := some 46, op := Op.move (Operand.tmp 45), type := 4, pos := "more.go:76", after := #[{ on := 14, ground := Ground.data }, { on := 13, ground := Ground.chain }], guard := none },
    { dst := some 47, op := Op.load 26 (Operand.tmp 6), type := 26, pos := "more.go:76", after := #[{ on := 15, ground := Ground.guard }], guard := some (15, true) },
    { dst := some 48, op := Op.call { callee := Callee.value (Operand.func 13), args := #[Operand.tmp 47], argTypes := #[26] }, type := 4, pos := "more.go:76", after := #[{ on := 16, ground := Ground.data }, { on := 15, ground := Ground.chain }, { on := 15, ground := Ground.guard }], guard := some (15, true) },
    { dst := some 49, op := Op.unOp UnOp.not 4 (Operand.tmp 48), type := 4, pos := "more.go:76", after := #[{ on := 17, ground := Ground.data }, { on := 15, ground := Ground.guard }], guard := some (15, true) },
    { dst := some 50, op := Op.move (Operand.tmp 49), type := 4, pos := "more.go:76", after := #[{ on := 18, ground := Ground.data }, { on := 17, ground := Ground.chain }, { on := 15, ground := Ground.guard }], guard := some (15, true) },
    { dst := some 51, op := Op.load 24 (Operand.tmp 4), type := 24, pos := "more.go:76", after := #[{ on := 19, ground := Ground.guard }], guard := some (19, false) },
    { dst := some 52, op := Op.load 24 (Operand.tmp 1), type := 24, pos := "more.go:76", after := #[{ on := 19, ground := Ground.guard }], guard := some (19, false) },
    { dst := some 53, op := Op.call { callee := Callee.value (Operand.func 17), args := #[Operand.tmp 51, Operand.tmp 52], argTypes := #[24, 24] }, type := 4, pos := "more.go:76", after := #[{ on := 20, ground := Ground.data }, { on := 21, ground := Ground.data }, { on := 19, ground := Ground.chain }, { on := 19, ground := Ground.guard }], guard := some (19, false) },
    { dst := some 54, op := Op.pick (Operand.tmp 50) (Operand.const (Value.bool true)) (Operand.tmp 53), type := 4, pos := "more.go:76", after := #[{ on := 19, ground := Ground.data }, { on := 22, ground := Ground.data }, { on := 15, ground := Ground.guard }], guard := some (15, true) },
    { dst := some 55, op := Op.pick (Operand.tmp 46) (Operand.tmp 54) (Operand.const (Value.bool false)), type := 4, pos := "more.go:76", after := #[{ on := 15, ground := Ground.data }, { on := 23, ground := Ground.data }], guard := none },
    { dst := some 2, op := Op.assign (Operand.tmp 55), type := 4, pos := "more.go:76", after := #[{ on := 24, ground := Ground.data }, { on := 22, ground := Ground.chain }, { on := 0, ground := Ground.phase }, { on := 1, ground := Ground.phase }, { on := 2, ground := Ground.phase }, { on := 3, ground := Ground.phase }, { on := 4, ground := Ground.phase }, { on := 5, ground := Ground.phase }, { on := 6, ground := Ground.phase }, { on := 7, ground := Ground.phase }, { on := 8, ground := Ground.phase }, { on := 9, ground := Ground.phase }, { on := 10, ground := Ground.phase }, { on := 11, ground := Ground.phase }, { on := 12, ground := Ground.phase }, { on := 13, ground := Ground.phase }, { on := 14, ground := Ground.phase }, { on := 15, ground := Ground.phase }, { on := 16, ground := Ground.phase }, { on := 17, ground := Ground.phase }, { on := 18, ground := Ground.phase }, { on := 19, ground := Ground.phase }, { on := 20, ground := Ground.phase }, { on := 21, ground := Ground.phase }, { on := 22, ground := Ground.phase }, { on := 23, ground := Ground.phase }, { on := 24, ground := Ground.phase }], guard := none }]
def gd7fDst (i : Nat) : Nat := [31, 32, 33, 34, 35, 36, 37, 38, 39, 40, 41, 42, 43, 44, 45, 46, 47, 48, 49, 50, 51, 52, 53, 54, 55, 2].getD i 0
def gd7fFr (D4 : Nat) (D5 : Nat) (D6 : Nat) (u0 u1 u7 u8 u9 u10 u11 u12 u13 u14 u15 u16 u17 u18 u19 u20 u21 u22 u23 u24 u25 u26 u27 u28 u29 u30 : Value) (vs : Nat → Value) : Act := ⟨#[u0, u1, vs 2, .bool true, .pointer (some ⟨D4, 0, none⟩), .pointer (some ⟨D5, 0, none⟩), .pointer (some ⟨D6, 0, none⟩), u7, u8, u9, u10, u11, u12, u13, u14, u15, u16, u17, u18, u19, u20, u21, u22, u23, u24, u25, u26, u27, u28, u29, u30, vs 31, vs 32, vs 33, vs 34, vs 35, vs 36, vs 37, vs 38, vs 39, vs 40, vs 41, vs 42, vs 43, vs 44, vs 45, vs 46, vs 47, vs 48, vs 49, vs 50, vs 51, vs 52, vs 53, vs 54, vs 55], []⟩
def gd7fT (B : Nat) (n : Nat) (xc : Nat) (kc : Nat) (gc : Nat) (yc : Nat) (mc : Nat) (xo : Option Addr) (ko : Option Addr) (go : Option Addr) (yo : Option Addr) (mo : Option Addr) (zs : List Int) (gs : List Int) (ps : List Int) (qs : List Int) : Nat → Value → Value → (Nat → Prop) → World → Prop
  | 0, v, _, _, _ => v = .bool true
  | 1, v, _, _, _ => v = .bool true
  | 2, v, _, _, _ => v = .agg #[.int .i64 n, .int .i64 1, .slice xo zs.length xc, .int .i64 n, .int .i64 n, .slice ko gs.length kc]
  | 3, v, _, _, _ => v = .bool true
  | 4, v, _, _, _ => v = .bool true
  | 5, v, _, _, _ => v = .bool true
  | 6, v, _, _, _ => v = .agg #[.int .i64 n, .int .i64 1, .slice xo zs.length xc, .int .i64 n, .int .i64 n, .slice ko gs.length kc]
  | 7, v, _, _, _ => v = .bool true
  | 8, v, _, _, _ => v = .bool true
  | 9, v, _, _, _ => v = .bool true
  | 10, v, _, _, _ => v = .agg #[.int .i64 n, .int .i64 n, .slice go gs.length gc]
  | 11, v, _, S, w => TV1 B B (fun s => .agg #[.int .i64 n, .int .i64 n, s]) qs v S w
  | 12, v, _, _, _ => v = .agg #[.int .i64 n, .int .i64 n, .slice go gs.length gc]
  | 13, v, _, _, _ => v = .bool true
  | 14, v, _, _, _ => v = .bool true
  | 15, v, _, _, _ => v = .bool true
  | 16, v, _, _, _ => v = .agg #[.int .i64 n, .int .i64 1, .slice yo zs.length yc, .int .i64 n, .int .i64 n, .slice mo ps.length mc]
  | 17, v, _, _, _ => v = .bool false
  | 18, v, _, _, _ => v = .bool true
  | 19, v, _, _, _ => v = .bool true
  | 20, v, _, _, _ => v = undef
  | 21, v, _, _, _ => v = undef
  | 22, v, _, _, _ => v = undef
  | 23, v, _, _, _ => v = .bool true
  | 24, v, _, _, _ => v = .bool true
  | 25, v, _, _, _ => v = .bool true
  | _, _, _, _, _ => True
set_option maxRecDepth 40000 in
set_option maxHeartbeats 1600000 in
theorem gd7f_region {Q : Exit → Act → World → Prop} {w0 : World} {D4 : Nat} {D5 : Nat} {D6 : Nat} {n : Nat} {xc : Nat} {kc : Nat} {gc : Nat} {yc : Nat} {mc : Nat} {xo : Option Addr} {ko : Option Addr} {go : Option Addr} {yo : Option Addr} {mo : Option Addr} {zs : List Int} {gs : List Int} {ps : List Int} {qs : List Int} {u0 u1 u7 u8 u9 u10 u11 u12 u13 u14 u15 u16 u17 u18 u19 u20 u21 u22 u23 u24 u25 u26 u27 u28 u29 u30 u2 : Value}
    (cX : ∀ w, Mod (fun _ => False) w0 w → w.heap[D5]? = some (.cells #[.int .i64 n, .int .i64 1, .slice xo zs.length xc, .int .i64 n, .int .i64 n, .slice ko gs.length kc] 26 (0, 0)))
    (cG : ∀ w, Mod (fun _ => False) w0 w → w.cell? ⟨D4, 0, none⟩ = some (.int .i64 n) ∧ w.cell? ⟨D4, 1, none⟩ = some (.int .i64 n) ∧ w.cell? ⟨D4, 2, none⟩ = some (.slice go gs.length gc))
    (cY : ∀ w, Mod (fun _ => False) w0 w → w.heap[D6]? = some (.cells #[.int .i64 n, .int .i64 1, .slice yo zs.length yc, .int .i64 n, .int .i64 n, .slice mo ps.length mc] 26 (0, 0)))
    (k1 : ∀ w, Mod (fun _ => False) w0 w → Calls Try.prog 13 #[.agg #[.int .i64 n, .int .i64 1, .slice xo zs.length xc, .int .i64 n, .int .i64 n, .slice ko gs.length kc]] w fun e b => e = .returned (.bool true) ∧ Below w.heap.size w b)
    (k2 : ∀ w, Mod (fun _ => False) w0 w → Calls Try.prog 15 #[.agg #[.int .i64 n, .int .i64 1, .slice xo zs.length xc, .int .i64 n, .int .i64 n, .slice ko gs.length kc]] w fun e b => e = .returned (.bool true) ∧ Below w.heap.size w b)
    (k3 : ∀ w, Mod (fun _ => False) w0 w → Calls Try.prog 18 #[.agg #[.int .i64 n, .int .i64 n, .slice go gs.length gc]] w fun e b => ∃ v, e = .returned (.agg #[.int .i64 n, .int .i64 n, v]) ∧ Sees b v qs ∧ New w.heap.size v ∧ Below w.heap.size w b) (z_qs : 0 < qs.length)
    (k4 : ∀ w, Mod (fun _ => False) w0 w → ∀ s, Sees w s qs → Calls Try.prog 17 #[.agg #[.int .i64 n, .int .i64 n, s], .agg #[.int .i64 n, .int .i64 n, .slice go gs.length gc]] w fun e b => e = .returned (.bool true) ∧ Below w.heap.size w b)
    (k5 : ∀ w, Mod (fun _ => False) w0 w → Calls Try.prog 13 #[.agg #[.int .i64 n, .int .i64 1, .slice yo zs.length yc, .int .i64 n, .int .i64 n, .slice mo ps.length mc]] w fun e b => e = .returned (.bool false) ∧ Below w.heap.size w b)
    (hQ : ∀ vs w, Mod (fun _ => False) w0 w → vs 2 = .bool true → Q .normal (gd7fFr D4 D5 D6 u0 u1 u7 u8 u9 u10 u11 u12 u13 u14 u15 u16 u17 u18 u19 u20 u21 u22 u23 u24 u25 u26 u27 u28 u29 u30 vs) w) :
    (Code.region 7 gd7fOps true).wp Try.prog Q (gd7fFr D4 D5 D6 u0 u1 u7 u8 u9 u10 u11 u12 u13 u14 u15 u16 u17 u18 u19 u20 u21 u22 u23 u24 u25 u26 u27 u28 u29 u30 (fun k => if k = 2 then u2 else undef)) w0 := by
  refine wp_region_own3 (by kernel_rfl) (by decide) gd7fDst (by decide) (gd7fFr D4 D5 D6 u0 u1 u7 u8 u9 u10 u11 u12 u13 u14 u15 u16 u17 u18 u19 u20 u21 u22 u23 u24 u25 u26 u27 u28 u29 u30) (fun k => if k = 2 then u2 else undef) (fun i => i) (by decide) (fun _ => False) (fun q hq => hq.elim) (fun _ _ => False) (fun _ _ h => h.elim) (fun _ _ _ h _ => h.elim)
    (fun _ _ => False) (fun s j h => h.elim) (fun s s2 j h => h.elim) (gd7fT w0.heap.size n xc kc gc yc mc xo ko go yo mo zs gs ps qs) ?_ ?_ ?_
  · intro i v u S w w' hi h hw hw' hz hS
    have hi' : i < 26 := hi
    rcases (by omega : i = 0 ∨ i = 1 ∨ i = 2 ∨ i = 3 ∨ i = 4 ∨ i = 5 ∨ i = 6 ∨ i = 7 ∨ i = 8 ∨ i = 9 ∨ i = 10 ∨ i = 11 ∨ i = 12 ∨ i = 13 ∨ i = 14 ∨ i = 15 ∨ i = 16 ∨ i = 17 ∨ i = 18 ∨ i = 19 ∨ i = 20 ∨ i = 21 ∨ i = 22 ∨ i = 23 ∨ i = 24 ∨ i = 25) with rfl | rfl | rfl | rfl | rfl | rfl | rfl | rfl | rfl | rfl | rfl | rfl | rfl | rfl | rfl | rfl | rfl | rfl | rfl | rfl | rfl | rfl | rfl | rfl | rfl | rfl
    · exact h
    · exact h
    · exact h
    · exact h
    · exact h
    · exact h
    · exact h
    · exact h
    · exact h
    · exact h
    · exact h
    · exact TV1.stab (show TV1 w0.heap.size w0.heap.size (fun s => .agg #[.int .i64 n, .int .i64 n, s]) qs v S w from h) (agr_none hw hw' hz hS)
    · exact h
    · exact h
    · exact h
    · exact h
    · exact h
    · exact h
    · exact h
    · exact h
    · exact h
    · exact h
    · exact h
    · exact h
    · exact h
    · exact h
  · intro i hi vs w S hb hp hbd hwr hkl _
    have hi' : i < 26 := hi
    rcases (by omega : i = 0 ∨ i = 1 ∨ i = 2 ∨ i = 3 ∨ i = 4 ∨ i = 5 ∨ i = 6 ∨ i = 7 ∨ i = 8 ∨ i = 9 ∨ i = 10 ∨ i = 11 ∨ i = 12 ∨ i = 13 ∨ i = 14 ∨ i = 15 ∨ i = 16 ∨ i = 17 ∨ i = 18 ∨ i = 19 ∨ i = 20 ∨ i = 21 ∨ i = 22 ∨ i = 23 ∨ i = 24 ∨ i = 25) with rfl | rfl | rfl | rfl | rfl | rfl | rfl | rfl | rfl | rfl | rfl | rfl | rfl | rfl | rfl | rfl | rfl | rfl | rfl | rfl | rfl | rfl | rfl | rfl | rfl | rfl
    · exact wpOp_of _ rfl rfl (op_move rfl rfl ⟨_, fun _ => False, rfl, rfl, fun _ h => h.elim, fun h => h.elim fun _ h9 => h9.elim, Mod.refl _ _⟩)
    · have h0 : vs 31 = .bool true := hp 0 (by decide) (fun _ h9 => h9.elim)
      exact wpOp_of _ rfl rfl (op_move rfl h0 ⟨_, fun _ => False, rfl, rfl, fun _ h => h.elim, fun h => h.elim fun _ h9 => h9.elim, Mod.refl _ _⟩)
    · have hg : vs 32 = .bool true := hp 1 (by decide) (fun _ h9 => h9.elim)
      exact wpOp_want _ rfl 1 true rfl 32 rfl (by show some (vs 32) = _; rw [hg]) (op_loadT rfl rfl (cX w hb) ⟨_, fun _ => False, rfl, rfl, fun _ h => h.elim, fun h => h.elim fun _ h9 => h9.elim, Mod.refl _ _⟩)
    · have hg : vs 32 = .bool true := hp 1 (by decide) (fun _ h9 => h9.elim)
      have h2 : vs 33 = .agg #[.int .i64 n, .int .i64 1, .slice xo zs.length xc, .int .i64 n, .int .i64 n, .slice ko gs.length kc] := hp 2 (by decide) (fun _ h9 => h9.elim)
      exact wpOp_want _ rfl 1 true rfl 32 rfl (by show some (vs 32) = _; rw [hg]) (op_call1 enters_r5 rfl h2 (k1 w hb) (by rintro e b ⟨rfl, b'⟩; exact ⟨_, rfl, _, fun _ => False, rfl, rfl, fun _ h => h.elim, fun h => h.elim fun _ h9 => h9.elim, Mod.of b'⟩))
    · have h1 : vs 32 = .bool true := hp 1 (by decide) (fun _ h9 => h9.elim)
      have h3 : vs 34 = .bool true := hp 3 (by decide) (fun _ h9 => h9.elim)
      exact wpOp_of _ rfl rfl (op_pickT rfl h1 h3 ⟨_, fun _ => False, rfl, rfl, fun _ h => h.elim, fun h => h.elim fun _ h9 => h9.elim, Mod.refl _ _⟩)
    · have h4 : vs 35 = .bool true := hp 4 (by decide) (fun _ h9 => h9.elim)
      exact wpOp_of _ rfl rfl (op_move rfl h4 ⟨_, fun _ => False, rfl, rfl, fun _ h => h.elim, fun h => h.elim fun _ h9 => h9.elim, Mod.refl _ _⟩)
    · have hg : vs 36 = .bool true := hp 5 (by decide) (fun _ h9 => h9.elim)
      exact wpOp_want _ rfl 5 true rfl 36 rfl (by show some (vs 36) = _; rw [hg]) (op_loadT rfl rfl (cX w hb) ⟨_, fun _ => False, rfl, rfl, fun _ h => h.elim, fun h => h.elim fun _ h9 => h9.elim, Mod.refl _ _⟩)
    · have hg : vs 36 = .bool true := hp 5 (by decide) (fun _ h9 => h9.elim)
      have h6 : vs 37 = .agg #[.int .i64 n, .int .i64 1, .slice xo zs.length xc, .int .i64 n, .int .i64 n, .slice ko gs.length kc] := hp 6 (by decide) (fun _ h9 => h9.elim)
      exact wpOp_want _ rfl 5 true rfl 36 rfl (by show some (vs 36) = _; rw [hg]) (op_call1 enters_kr rfl h6 (k2 w hb) (by rintro e b ⟨rfl, b'⟩; exact ⟨_, rfl, _, fun _ => False, rfl, rfl, fun _ h => h.elim, fun h => h.elim fun _ h9 => h9.elim, Mod.of b'⟩))
    · have h5 : vs 36 = .bool true := hp 5 (by decide) (fun _ h9 => h9.elim)
      have h7 : vs 38 = .bool true := hp 7 (by decide) (fun _ h9 => h9.elim)
      exact wpOp_of _ rfl rfl (op_pickT rfl h5 h7 ⟨_, fun _ => False, rfl, rfl, fun _ h => h.elim, fun h => h.elim fun _ h9 => h9.elim, Mod.refl _ _⟩)
    · have h8 : vs 39 = .bool true := hp 8 (by decide) (fun _ h9 => h9.elim)
      exact wpOp_of _ rfl rfl (op_move rfl h8 ⟨_, fun _ => False, rfl, rfl, fun _ h => h.elim, fun h => h.elim fun _ h9 => h9.elim, Mod.refl _ _⟩)
    · have hg : vs 40 = .bool true := hp 9 (by decide) (fun _ h9 => h9.elim)
      exact wpOp_want _ rfl 9 true rfl 40 rfl (by show some (vs 40) = _; rw [hg]) (op_loadM rfl rfl (cG w hb).1 (cG w hb).2.1 (cG w hb).2.2 ⟨_, fun _ => False, rfl, rfl, fun _ h => h.elim, fun h => h.elim fun _ h9 => h9.elim, Mod.refl _ _⟩)
    · have hg : vs 40 = .bool true := hp 9 (by decide) (fun _ h9 => h9.elim)
      have h10 : vs 41 = .agg #[.int .i64 n, .int .i64 n, .slice go gs.length gc] := hp 10 (by decide) (fun _ h9 => h9.elim)
      exact wpOp_want _ rfl 9 true rfl 40 rfl (by show some (vs 40) = _; rw [hg]) (op_call1 enters_kg rfl h10 (k3 w hb) (by rintro e b ⟨v, rfl, s', n', b'⟩; have hl := s'.lt z_qs; obtain ⟨so, sc, rfl⟩ := s'.slice; exact ⟨_, rfl, _, fun q => (Value.slice so qs.length sc).ownBlock = some q, rfl, ⟨so, sc, rfl, s', fun q hq => .inl hq⟩, fun q hq => .inr (.inl ⟨n' q hq, hl q hq⟩), fun h => h.elim fun _ h9 => h9.elim, Mod.of b'⟩))
    · have hg : vs 40 = .bool true := hp 9 (by decide) (fun _ h9 => h9.elim)
      exact wpOp_want _ rfl 9 true rfl 40 rfl (by show some (vs 40) = _; rw [hg]) (op_loadM rfl rfl (cG w hb).1 (cG w hb).2.1 (cG w hb).2.2 ⟨_, fun _ => False, rfl, rfl, fun _ h => h.elim, fun h => h.elim fun _ h9 => h9.elim, Mod.refl _ _⟩)
    · have hg : vs 40 = .bool true := hp 9 (by decide) (fun _ h9 => h9.elim)
      obtain ⟨o11, p11, h11, s11, k11⟩ : TV1 w0.heap.size w0.heap.size (fun s => .agg #[.int .i64 n, .int .i64 n, s]) qs (vs 42) (S 11) w := hp 11 (by decide) (fun _ h9 => h9.elim)
      have h12 : vs 43 = .agg #[.int .i64 n, .int .i64 n, .slice go gs.length gc] := hp 12 (by decide) (fun _ h9 => h9.elim)
      exact wpOp_want _ rfl 9 true rfl 40 rfl (by show some (vs 40) = _; rw [hg]) (op_call2 enters_r3s rfl h11 h12 (k4 w hb _ s11) (by rintro e b ⟨rfl, b'⟩; exact ⟨_, rfl, _, fun _ => False, rfl, rfl, fun _ h => h.elim, fun h => h.elim fun _ h9 => h9.elim, Mod.of b'⟩))
    · have h9 : vs 40 = .bool true := hp 9 (by decide) (fun _ h9 => h9.elim)
      have h13 : vs 44 = .bool true := hp 13 (by decide) (fun _ h9 => h9.elim)
      exact wpOp_of _ rfl rfl (op_pickT rfl h9 h13 ⟨_, fun _ => False, rfl, rfl, fun _ h => h.elim, fun h => h.elim fun _ h9 => h9.elim, Mod.refl _ _⟩)
    · have h14 : vs 45 = .bool true := hp 14 (by decide) (fun _ h9 => h9.elim)
      exact wpOp_of _ rfl rfl (op_move rfl h14 ⟨_, fun _ => False, rfl, rfl, fun _ h => h.elim, fun h => h.elim fun _ h9 => h9.elim, Mod.refl _ _⟩)
    · have hg : vs 46 = .bool true := hp 15 (by decide) (fun _ h9 => h9.elim)
      exact wpOp_want _ rfl 15 true rfl 46 rfl (by show some (vs 46) = _; rw [hg]) (op_loadT rfl rfl (cY w hb) ⟨_, fun _ => False, rfl, rfl, fun _ h => h.elim, fun h => h.elim fun _ h9 => h9.elim, Mod.refl _ _⟩)
    · have hg : vs 46 = .bool true := hp 15 (by decide) (fun _ h9 => h9.elim)
      have h16 : vs 47 = .agg #[.int .i64 n, .int .i64 1, .slice yo zs.length yc, .int .i64 n, .int .i64 n, .slice mo ps.length mc] := hp 16 (by decide) (fun _ h9 => h9.elim)
      exact wpOp_want _ rfl 15 true rfl 46 rfl (by show some (vs 46) = _; rw [hg]) (op_call1 enters_r5 rfl h16 (k5 w hb) (by rintro e b ⟨rfl, b'⟩; exact ⟨_, rfl, _, fun _ => False, rfl, rfl, fun _ h => h.elim, fun h => h.elim fun _ h9 => h9.elim, Mod.of b'⟩))
    · have hg : vs 46 = .bool true := hp 15 (by decide) (fun _ h9 => h9.elim)
      have h17 : vs 48 = .bool false := hp 17 (by decide) (fun _ h9 => h9.elim)
      exact wpOp_want _ rfl 15 true rfl 46 rfl (by show some (vs 46) = _; rw [hg]) (op_notB rfl h17 ⟨_, fun _ => False, rfl, rfl, fun _ h => h.elim, fun h => h.elim fun _ h9 => h9.elim, Mod.refl _ _⟩)
    · have hg : vs 46 = .bool true := hp 15 (by decide) (fun _ h9 => h9.elim)
      have h18 : vs 49 = .bool true := hp 18 (by decide) (fun _ h9 => h9.elim)
      exact wpOp_want _ rfl 15 true rfl 46 rfl (by show some (vs 46) = _; rw [hg]) (op_move rfl h18 ⟨_, fun _ => False, rfl, rfl, fun _ h => h.elim, fun h => h.elim fun _ h9 => h9.elim, Mod.refl _ _⟩)
    · have hg : vs 50 = .bool true := hp 19 (by decide) (fun _ h9 => h9.elim)
      exact wpOp_skip _ rfl 19 false rfl 50 rfl (by show some (vs 50) = _; rw [hg]; rfl) ⟨_, fun _ => False, rfl, rfl, fun _ h => h.elim, fun h => h.elim fun _ h9 => h9.elim, Mod.refl _ _⟩
    · have hg : vs 50 = .bool true := hp 19 (by decide) (fun _ h9 => h9.elim)
      exact wpOp_skip _ rfl 19 false rfl 50 rfl (by show some (vs 50) = _; rw [hg]; rfl) ⟨_, fun _ => False, rfl, rfl, fun _ h => h.elim, fun h => h.elim fun _ h9 => h9.elim, Mod.refl _ _⟩
    · have hg : vs 50 = .bool true := hp 19 (by decide) (fun _ h9 => h9.elim)
      exact wpOp_skip _ rfl 19 false rfl 50 rfl (by show some (vs 50) = _; rw [hg]; rfl) ⟨_, fun _ => False, rfl, rfl, fun _ h => h.elim, fun h => h.elim fun _ h9 => h9.elim, Mod.refl _ _⟩
    · have hg : vs 46 = .bool true := hp 15 (by decide) (fun _ h9 => h9.elim)
      have h19 : vs 50 = .bool true := hp 19 (by decide) (fun _ h9 => h9.elim)
      exact wpOp_want _ rfl 15 true rfl 46 rfl (by show some (vs 46) = _; rw [hg]) (op_pickO rfl h19 ⟨_, fun _ => False, rfl, rfl, fun _ h => h.elim, fun h => h.elim fun _ h9 => h9.elim, Mod.refl _ _⟩)
    · have h15 : vs 46 = .bool true := hp 15 (by decide) (fun _ h9 => h9.elim)
      have h23 : vs 54 = .bool true := hp 23 (by decide) (fun _ h9 => h9.elim)
      exact wpOp_of _ rfl rfl (op_pickT rfl h15 h23 ⟨_, fun _ => False, rfl, rfl, fun _ h => h.elim, fun h => h.elim fun _ h9 => h9.elim, Mod.refl _ _⟩)
    · have h24 : vs 55 = .bool true := hp 24 (by decide) (fun _ h9 => h9.elim)
      exact wpOp_of _ rfl rfl (op_assign rfl h24 ⟨_, fun _ => False, rfl, rfl, fun _ h => h.elim, fun h => h.elim fun _ h9 => h9.elim, Mod.refl _ _⟩)
  · intro vs w S hb hT
    exact hQ vs w hb (hT 25 (by decide) (fun _ h => h))
end Go.Proofs.Ytiniobcknmaigaa
