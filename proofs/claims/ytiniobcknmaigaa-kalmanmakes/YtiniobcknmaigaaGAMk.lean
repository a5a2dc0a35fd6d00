/-
  KalmanMakes: what it returns.
-/
import Derived.Test.YtiniobcknmaigaaGAEnt
namespace Go.Proofs.Ytiniobcknmaigaa
open Go.RowKit Go.Sort Qm

theorem enters_rg : ∀ (args : Array Value) (a : World), Sem.run Try.prog (callFunc 19 args) a = Result.ok (Next.enter 19 args) a := by
  intro args a
  simp [callFunc, Try.func19, go_sem]
  rfl
theorem enters_ks : ∀ (args : Array Value) (a : World), Sem.run Try.prog (callFunc 20 args) a = Result.ok (Next.enter 20 args) a := by
  intro args a
  simp [callFunc, Try.func20, go_sem]
  rfl
theorem enters_r5sm : ∀ (args : Array Value) (a : World), Sem.run Try.prog (callFunc 14 args) a = Result.ok (Next.enter 14 args) a := by
  intro args a
  simp [callFunc, Try.func14, go_sem]
  rfl
def amkOps : Array Oper := #[
    { dst := some 103, op := Op.move (Operand.tmp 7), type := 4, pos := "law.go:49", after := #[], guard := none },
    { dst := some 104, op := Op.move (Operand.tmp 103), type := 4, pos := "law.go:49", after := #[{ on := 0, ground := Ground.data }], guard := none },
    { dst := some 105, op := Op.fieldAddr 26 (Operand.tmp 5) 1, type := 0, pos := "law.go:49", after := #[{ on := 1, ground := Ground.guard }], guard := some (1, true) },
    { dst := some 106, op := Op.load 24 (Operand.tmp 105), type := 24, pos := "law.go:49", after := #[{ on := 2, ground := Ground.data }, { on := 1, ground := Ground.guard }], guard := some (1, true) },
    { dst := some 107, op := Op.call { callee := Callee.value (Operand.func 18), args := #[Operand.tmp 106], argTypes := #[24] }, type := 24, pos := "law.go:49", after := #[{ on := 3, ground := Ground.data }, { on := 1, ground := Ground.chain }, { on := 1, ground := Ground.guard }], guard := some (1, true) },
    { dst := some 108, op := Op.fieldAddr 26 (Operand.tmp 5) 1, type := 0, pos := "law.go:49", after := #[{ on := 1, ground := Ground.guard }], guard := some (1, true) },
    { dst := some 109, op := Op.load 24 (Operand.tmp 108), type := 24, pos := "law.go:49", after := #[{ on := 5, ground := Ground.data }, { on := 1, ground := Ground.guard }], guard := some (1, true) },
    { dst := some 110, op := Op.call { callee := Callee.value (Operand.func 19), args := #[Operand.tmp 109], argTypes := #[24] }, type := 24, pos := "law.go:49", after := #[{ on := 6, ground := Ground.data }, { on := 4, ground := Ground.chain }, { on := 1, ground := Ground.guard }], guard := some (1, true) },
    { dst := some 111, op := Op.call { callee := Callee.value (Operand.func 17), args := #[Operand.tmp 107, Operand.tmp 110], argTypes := #[24, 24] }, type := 4, pos := "law.go:49", after := #[{ on := 4, ground := Ground.data }, { on := 7, ground := Ground.data }, { on := 7, ground := Ground.chain }, { on := 1, ground := Ground.guard }], guard := some (1, true) },
    { dst := some 112, op := Op.pick (Operand.tmp 104) (Operand.tmp 111) (Operand.const (Value.bool false)), type := 4, pos := "law.go:49", after := #[{ on := 1, ground := Ground.data }, { on := 8, ground := Ground.data }], guard := none },
    { dst := some 113, op := Op.move (Operand.tmp 112), type := 4, pos := "law.go:49", after := #[{ on := 9, ground := Ground.data }, { on := 8, ground := Ground.chain }], guard := none },
    { dst := some 114, op := Op.load 26 (Operand.tmp 5), type := 26, pos := "law.go:49", after := #[{ on := 10, ground := Ground.guard }], guard := some (10, true) },
    { dst := some 115, op := Op.load 26 (Operand.tmp 6), type := 26, pos := "law.go:49", after := #[{ on := 10, ground := Ground.guard }], guard := some (10, true) },
    { dst := some 116, op := Op.call { callee := Callee.value (Operand.func 20), args := #[Operand.tmp 114, Operand.tmp 115], argTypes := #[26, 26] }, type := 4, pos := "law.go:49", after := #[{ on := 11, ground := Ground.data }, { on := 12, ground := Ground.data }, { on := 10, ground := Ground.chain }, { on := 10, ground := Ground.guard }], guard := some (10, true) },
    { dst := some 117, op := Op.load 26 (Operand.tmp 5), type := 26, pos := "law.go:49", after := #[{ on := 10, ground := Ground.guard }], guard := some (10, true) },
    { dst := some 118, op := Op.load 26 (Operand.tmp 6), type := 26, pos := "law.go:49", after := #[{ on := 10, ground := Ground.guard }], guard := some (10, true) },
    { dst := some 119, op := Op.call { callee := Callee.value (Operand.func 14), args := #[Operand.tmp 117, Operand.tmp 118], argTypes := #[26, 26] }, type := 4, pos := "law.go:49", after := #[{ on := 14, ground := Ground.data }, { on := 15, ground := Ground.data }, { on := 13, ground := Ground.chain }, { on := 10, ground := Ground.guard }], guard := some (10, true) },
    { dst := some 120, op := Op.binOp BinOp.eql 4 (Operand.tmp 116) (Operand.tmp 119) 4, type := 4, pos := "law.go:49", after := #[{ on := 13, ground := Ground.data }, { on := 16, ground := Ground.data }, { on := 10, ground := Ground.guard }], guard := some (10, true) },
    { dst := some 121, op := Op.pick (Operand.tmp 113) (Operand.tmp 120) (Operand.const (Value.bool false)), type := 4, pos := "law.go:49", after := #[{ on := 10, ground := Ground.data }, { on := 17, ground := Ground.data }], guard := none },
    { dst := some 2, op := Op.assign (Operand.tmp 121), type := 4, pos := "law.go:49", after := #[{ on := 18, ground := Ground.data }, { on := 16, ground := Ground.chain }, { on := 0, ground := Ground.phase }, { on := 1, ground := Ground.phase }, { on := 2, ground := Ground.phase }, { on := 3, ground := Ground.phase }, { on := 4, ground := Ground.phase }, { on := 5, ground := Ground.phase }, { on := 6, ground := Ground.phase }, { on := 7, ground := Ground.phase }, { on := 8, ground := Ground.phase }, { on := 9, ground := Ground.phase }, { on := 10, ground := Ground.phase }, { on := 11, ground := Ground.phase }, { on := 12, ground := Ground.phase }, { on := 13, ground := Ground.phase }, { on := 14, ground := Ground.phase }, { on := 15, ground := Ground.phase }, { on := 16, ground := Ground.phase }, { on := 17, ground := Ground.phase }, { on := 18, ground := Ground.phase }], guard := none }]
def amkDst (i : Nat) : Nat := [103, 104, 105, 106, 107, 108, 109, 110, 111, 112, 113, 114, 115, 116, 117, 118, 119, 120, 121, 2].getD i 0
def amkFr (D5 : Nat) (D6 : Nat) (u0 u1 u3 u4 u8 u9 u10 u11 u12 u13 u14 u15 u16 u17 u18 u19 u20 u21 u22 u23 u24 u25 u26 u27 u28 u29 u30 u31 u32 u33 u34 u35 u36 u37 u38 u39 u40 u41 u42 u43 u44 u45 u46 u47 u48 u49 u50 u51 u52 u53 u54 u55 u56 u57 u58 u59 u60 u61 u62 u63 u64 u65 u66 u67 u68 u69 u70 u71 u72 u73 u74 u75 u76 u77 u78 u79 u80 u81 u82 u83 u84 u85 u86 u87 u88 u89 u90 u91 u92 u93 u94 u95 u96 u97 u98 u99 u100 u101 u102 : Value) (vs : Nat → Value) : Act := ⟨#[u0, u1, vs 2, u3, u4, .pointer (some ⟨D5, 0, none⟩), .pointer (some ⟨D6, 0, none⟩), .bool true, u8, u9, u10, u11, u12, u13, u14, u15, u16, u17, u18, u19, u20, u21, u22, u23, u24, u25, u26, u27, u28, u29, u30, u31, u32, u33, u34, u35, u36, u37, u38, u39, u40, u41, u42, u43, u44, u45, u46, u47, u48, u49, u50, u51, u52, u53, u54, u55, u56, u57, u58, u59, u60, u61, u62, u63, u64, u65, u66, u67, u68, u69, u70, u71, u72, u73, u74, u75, u76, u77, u78, u79, u80, u81, u82, u83, u84, u85, u86, u87, u88, u89, u90, u91, u92, u93, u94, u95, u96, u97, u98, u99, u100, u101, u102, vs 103, vs 104, vs 105, vs 106, vs 107, vs 108, vs 109, vs 110, vs 111, vs 112, vs 113, vs 114, vs 115, vs 116, vs 117, vs 118, vs 119, vs 120, vs 121], []⟩
def amkT (B : Nat) (D5 : Nat) (n : Nat) (m : Nat) (xc : Nat) (pc : Nat) (yc : Nat) (qc : Nat) (xo : Option Addr) (po : Option Addr) (yo : Option Addr) (qo : Option Addr) (xs : List Int) (ps : List Int) (ys : List Int) (us : List Int) (gs : List Int) (qs : List Int) (sB : Bool) : Nat → Value → Value → (Nat → Prop) → World → Prop
  | 0, v, _, _, _ => v = .bool true
  | 1, v, _, _, _ => v = .bool true
  | 2, v, _, _, _ => v = .pointer (some ⟨D5, 3, none⟩)
  | 3, v, _, _, _ => v = .agg #[.int .i64 n, .int .i64 n, .slice po ps.length pc]
  | 4, v, _, S, w => TV1 B B (fun s => .agg #[.int .i64 n, .int .i64 n, s]) gs v S w
  | 5, v, _, _, _ => v = .pointer (some ⟨D5, 3, none⟩)
  | 6, v, _, _, _ => v = .agg #[.int .i64 n, .int .i64 n, .slice po ps.length pc]
  | 7, v, _, S, w => TV1 B B (fun s => .agg #[.int .i64 n, .int .i64 n, s]) qs v S w
  | 8, v, _, _, _ => v = .bool true
  | 9, v, _, _, _ => v = .bool true
  | 10, v, _, _, _ => v = .bool true
  | 11, v, _, _, _ => v = .agg #[.int .i64 n, .int .i64 1, .slice xo xs.length xc, .int .i64 n, .int .i64 n, .slice po ps.length pc]
  | 12, v, _, _, _ => v = .agg #[.int .i64 m, .int .i64 1, .slice yo ys.length yc, .int .i64 m, .int .i64 m, .slice qo us.length qc]
  | 13, v, _, _, _ => v = .bool sB
  | 14, v, _, _, _ => v = .agg #[.int .i64 n, .int .i64 1, .slice xo xs.length xc, .int .i64 n, .int .i64 n, .slice po ps.length pc]
  | 15, v, _, _, _ => v = .agg #[.int .i64 m, .int .i64 1, .slice yo ys.length yc, .int .i64 m, .int .i64 m, .slice qo us.length qc]
  | 16, v, _, _, _ => v = .bool sB
  | 17, v, _, _, _ => v = .bool true
  | 18, v, _, _, _ => v = .bool true
  | 19, v, _, _, _ => v = .bool true
  | _, _, _, _, _ => True
set_option maxRecDepth 40000 in
set_option maxHeartbeats 1600000 in
theorem amk_region {Q : Exit → Act → World → Prop} {w0 : World} {D5 : Nat} {D6 : Nat} {n : Nat} {m : Nat} {xc : Nat} {pc : Nat} {yc : Nat} {qc : Nat} {xo : Option Addr} {po : Option Addr} {yo : Option Addr} {qo : Option Addr} {xs : List Int} {ps : List Int} {ys : List Int} {us : List Int} {gs : List Int} {qs : List Int} {sB : Bool} {u0 u1 u3 u4 u8 u9 u10 u11 u12 u13 u14 u15 u16 u17 u18 u19 u20 u21 u22 u23 u24 u25 u26 u27 u28 u29 u30 u31 u32 u33 u34 u35 u36 u37 u38 u39 u40 u41 u42 u43 u44 u45 u46 u47 u48 u49 u50 u51 u52 u53 u54 u55 u56 u57 u58 u59 u60 u61 u62 u63 u64 u65 u66 u67 u68 u69 u70 u71 u72 u73 u74 u75 u76 u77 u78 u79 u80 u81 u82 u83 u84 u85 u86 u87 u88 u89 u90 u91 u92 u93 u94 u95 u96 u97 u98 u99 u100 u101 u102 u2 : Value}
    (cX : ∀ w, Mod (fun _ => False) w0 w → w.heap[D5]? = some (.cells #[.int .i64 n, .int .i64 1, .slice xo xs.length xc, .int .i64 n, .int .i64 n, .slice po ps.length pc] 26 (0, 0)))
    (cP : ∀ w, Mod (fun _ => False) w0 w → w.cell? ⟨D5, 3, none⟩ = some (.int .i64 n) ∧ w.cell? ⟨D5, 4, none⟩ = some (.int .i64 n) ∧ w.cell? ⟨D5, 5, none⟩ = some (.slice po ps.length pc))
    (cY : ∀ w, Mod (fun _ => False) w0 w → w.heap[D6]? = some (.cells #[.int .i64 m, .int .i64 1, .slice yo ys.length yc, .int .i64 m, .int .i64 m, .slice qo us.length qc] 26 (0, 0)))
    (k1 : ∀ w, Mod (fun _ => False) w0 w → Calls Try.prog 18 #[.agg #[.int .i64 n, .int .i64 n, .slice po ps.length pc]] w fun e b => ∃ v, e = .returned (.agg #[.int .i64 n, .int .i64 n, v]) ∧ Sees b v gs ∧ New w.heap.size v ∧ Below w.heap.size w b) (z_gs : 0 < gs.length)
    (k2 : ∀ w, Mod (fun _ => False) w0 w → Calls Try.prog 19 #[.agg #[.int .i64 n, .int .i64 n, .slice po ps.length pc]] w fun e b => ∃ v, e = .returned (.agg #[.int .i64 n, .int .i64 n, v]) ∧ Sees b v qs ∧ New w.heap.size v ∧ Below w.heap.size w b) (z_qs : 0 < qs.length)
    (k3 : ∀ w, Mod (fun _ => False) w0 w → ∀ s, Sees w s gs → ∀ t, Sees w t qs → Calls Try.prog 17 #[.agg #[.int .i64 n, .int .i64 n, s], .agg #[.int .i64 n, .int .i64 n, t]] w fun e b => e = .returned (.bool true) ∧ Below w.heap.size w b)
    (k4 : ∀ w, Mod (fun _ => False) w0 w → Calls Try.prog 20 #[.agg #[.int .i64 n, .int .i64 1, .slice xo xs.length xc, .int .i64 n, .int .i64 n, .slice po ps.length pc], .agg #[.int .i64 m, .int .i64 1, .slice yo ys.length yc, .int .i64 m, .int .i64 m, .slice qo us.length qc]] w fun e b => e = .returned (.bool sB) ∧ Below w.heap.size w b)
    (k5 : ∀ w, Mod (fun _ => False) w0 w → Calls Try.prog 14 #[.agg #[.int .i64 n, .int .i64 1, .slice xo xs.length xc, .int .i64 n, .int .i64 n, .slice po ps.length pc], .agg #[.int .i64 m, .int .i64 1, .slice yo ys.length yc, .int .i64 m, .int .i64 m, .slice qo us.length qc]] w fun e b => e = .returned (.bool sB) ∧ Below w.heap.size w b)
    (hQ : ∀ vs w, Mod (fun _ => False) w0 w → vs 2 = .bool true → Q .normal (amkFr D5 D6 u0 u1 u3 u4 u8 u9 u10 u11 u12 u13 u14 u15 u16 u17 u18 u19 u20 u21 u22 u23 u24 u25 u26 u27 u28 u29 u30 u31 u32 u33 u34 u35 u36 u37 u38 u39 u40 u41 u42 u43 u44 u45 u46 u47 u48 u49 u50 u51 u52 u53 u54 u55 u56 u57 u58 u59 u60 u61 u62 u63 u64 u65 u66 u67 u68 u69 u70 u71 u72 u73 u74 u75 u76 u77 u78 u79 u80 u81 u82 u83 u84 u85 u86 u87 u88 u89 u90 u91 u92 u93 u94 u95 u96 u97 u98 u99 u100 u101 u102 vs) w) :
    (Code.region 15 amkOps true).wp Try.prog Q (amkFr D5 D6 u0 u1 u3 u4 u8 u9 u10 u11 u12 u13 u14 u15 u16 u17 u18 u19 u20 u21 u22 u23 u24 u25 u26 u27 u28 u29 u30 u31 u32 u33 u34 u35 u36 u37 u38 u39 u40 u41 u42 u43 u44 u45 u46 u47 u48 u49 u50 u51 u52 u53 u54 u55 u56 u57 u58 u59 u60 u61 u62 u63 u64 u65 u66 u67 u68 u69 u70 u71 u72 u73 u74 u75 u76 u77 u78 u79 u80 u81 u82 u83 u84 u85 u86 u87 u88 u89 u90 u91 u92 u93 u94 u95 u96 u97 u98 u99 u100 u101 u102 (fun k => if k = 2 then u2 else undef)) w0 := by
  refine wp_region_own3 (by kernel_rfl) (by decide) amkDst (by decide) (amkFr D5 D6 u0 u1 u3 u4 u8 u9 u10 u11 u12 u13 u14 u15 u16 u17 u18 u19 u20 u21 u22 u23 u24 u25 u26 u27 u28 u29 u30 u31 u32 u33 u34 u35 u36 u37 u38 u39 u40 u41 u42 u43 u44 u45 u46 u47 u48 u49 u50 u51 u52 u53 u54 u55 u56 u57 u58 u59 u60 u61 u62 u63 u64 u65 u66 u67 u68 u69 u70 u71 u72 u73 u74 u75 u76 u77 u78 u79 u80 u81 u82 u83 u84 u85 u86 u87 u88 u89 u90 u91 u92 u93 u94 u95 u96 u97 u98 u99 u100 u101 u102) (fun k => if k = 2 then u2 else undef) (fun i => i) (by decide) (fun _ => False) (fun q hq => hq.elim) (fun _ _ => False) (fun _ _ h => h.elim) (fun _ _ _ h _ => h.elim)
    (fun _ _ => False) (fun s j h => h.elim) (fun s s2 j h => h.elim) (amkT w0.heap.size D5 n m xc pc yc qc xo po yo qo xs ps ys us gs qs sB) ?_ ?_ ?_
  · intro i v u S w w' hi h hw hw' hz hS
    have hi' : i < 20 := hi
    rcases (by omega : i = 0 ∨ i = 1 ∨ i = 2 ∨ i = 3 ∨ i = 4 ∨ i = 5 ∨ i = 6 ∨ i = 7 ∨ i = 8 ∨ i = 9 ∨ i = 10 ∨ i = 11 ∨ i = 12 ∨ i = 13 ∨ i = 14 ∨ i = 15 ∨ i = 16 ∨ i = 17 ∨ i = 18 ∨ i = 19) with rfl | rfl | rfl | rfl | rfl | rfl | rfl | rfl | rfl | rfl | rfl | rfl | rfl | rfl | rfl | rfl | rfl | rfl | rfl | rfl
    · exact h
    · exact h
    · exact h
    · exact h
    · exact TV1.stab (show TV1 w0.heap.size w0.heap.size (fun s => .agg #[.int .i64 n, .int .i64 n, s]) gs v S w from h) (agr_none hw hw' hz hS)
    · exact h
    · exact h
    · exact TV1.stab (show TV1 w0.heap.size w0.heap.size (fun s => .agg #[.int .i64 n, .int .i64 n, s]) qs v S w from h) (agr_none hw hw' hz hS)
    · exact h
    · exact h
    · exact h
    · exact h
    · exact h
    · exact h
    · exact h
    · exact h
    · exact h
    · exact h
    · exact h
    · exact h
  · intro i hi vs w S hb hp hbd hwr hkl _
    have hi' : i < 20 := hi
    rcases (by omega : i = 0 ∨ i = 1 ∨ i = 2 ∨ i = 3 ∨ i = 4 ∨ i = 5 ∨ i = 6 ∨ i = 7 ∨ i = 8 ∨ i = 9 ∨ i = 10 ∨ i = 11 ∨ i = 12 ∨ i = 13 ∨ i = 14 ∨ i = 15 ∨ i = 16 ∨ i = 17 ∨ i = 18 ∨ i = 19) with rfl | rfl | rfl | rfl | rfl | rfl | rfl | rfl | rfl | rfl | rfl | rfl | rfl | rfl | rfl | rfl | rfl | rfl | rfl | rfl
    · exact wpOp_of _ rfl rfl (op_move rfl rfl ⟨_, fun _ => False, rfl, rfl, fun _ h => h.elim, fun h => h.elim fun _ h9 => h9.elim, Mod.refl _ _⟩)
    · have h0 : vs 103 = .bool true := hp 0 (by decide) (fun _ h9 => h9.elim)
      exact wpOp_of _ rfl rfl (op_move rfl h0 ⟨_, fun _ => False, rfl, rfl, fun _ h => h.elim, fun h => h.elim fun _ h9 => h9.elim, Mod.refl _ _⟩)
    · have hg : vs 104 = .bool true := hp 1 (by decide) (fun _ h9 => h9.elim)
      exact wpOp_want _ rfl 1 true rfl 104 rfl (by show some (vs 104) = _; rw [hg]) (op_fieldT (i := 1) (by decide) rfl rfl ⟨_, fun _ => False, rfl, rfl, fun _ h => h.elim, fun h => h.elim fun _ h9 => h9.elim, Mod.refl _ _⟩)
    · have hg : vs 104 = .bool true := hp 1 (by decide) (fun _ h9 => h9.elim)
      have h2 : vs 105 = .pointer (some ⟨D5, 3, none⟩) := hp 2 (by decide) (fun _ h9 => h9.elim)
      exact wpOp_want _ rfl 1 true rfl 104 rfl (by show some (vs 104) = _; rw [hg]) (op_loadM rfl h2 (cP w hb).1 (cP w hb).2.1 (cP w hb).2.2 ⟨_, fun _ => False, rfl, rfl, fun _ h => h.elim, fun h => h.elim fun _ h9 => h9.elim, Mod.refl _ _⟩)
    · have hg : vs 104 = .bool true := hp 1 (by decide) (fun _ h9 => h9.elim)
      have h3 : vs 106 = .agg #[.int .i64 n, .int .i64 n, .slice po ps.length pc] := hp 3 (by decide) (fun _ h9 => h9.elim)
      exact wpOp_want _ rfl 1 true rfl 104 rfl (by show some (vs 104) = _; rw [hg]) (op_call1 enters_kg rfl h3 (k1 w hb) (by rintro e b ⟨v, rfl, s', n', b'⟩; have hl := s'.lt z_gs; obtain ⟨so, sc, rfl⟩ := s'.slice; exact ⟨_, rfl, _, fun q => (Value.slice so gs.length sc).ownBlock = some q, rfl, ⟨so, sc, rfl, s', fun q hq => .inl hq⟩, fun q hq => .inr (.inl ⟨n' q hq, hl q hq⟩), fun h => h.elim fun _ h9 => h9.elim, Mod.of b'⟩))
    · have hg : vs 104 = .bool true := hp 1 (by decide) (fun _ h9 => h9.elim)
      exact wpOp_want _ rfl 1 true rfl 104 rfl (by show some (vs 104) = _; rw [hg]) (op_fieldT (i := 1) (by decide) rfl rfl ⟨_, fun _ => False, rfl, rfl, fun _ h => h.elim, fun h => h.elim fun _ h9 => h9.elim, Mod.refl _ _⟩)
    · have hg : vs 104 = .bool true := hp 1 (by decide) (fun _ h9 => h9.elim)
      have h5 : vs 108 = .pointer (some ⟨D5, 3, none⟩) := hp 5 (by decide) (fun _ h9 => h9.elim)
      exact wpOp_want _ rfl 1 true rfl 104 rfl (by show some (vs 104) = _; rw [hg]) (op_loadM rfl h5 (cP w hb).1 (cP w hb).2.1 (cP w hb).2.2 ⟨_, fun _ => False, rfl, rfl, fun _ h => h.elim, fun h => h.elim fun _ h9 => h9.elim, Mod.refl _ _⟩)
    · have hg : vs 104 = .bool true := hp 1 (by decide) (fun _ h9 => h9.elim)
      have h6 : vs 109 = .agg #[.int .i64 n, .int .i64 n, .slice po ps.length pc] := hp 6 (by decide) (fun _ h9 => h9.elim)
      exact wpOp_want _ rfl 1 true rfl 104 rfl (by show some (vs 104) = _; rw [hg]) (op_call1 enters_rg rfl h6 (k2 w hb) (by rintro e b ⟨v, rfl, s', n', b'⟩; have hl := s'.lt z_qs; obtain ⟨so, sc, rfl⟩ := s'.slice; exact ⟨_, rfl, _, fun q => (Value.slice so qs.length sc).ownBlock = some q, rfl, ⟨so, sc, rfl, s', fun q hq => .inl hq⟩, fun q hq => .inr (.inl ⟨n' q hq, hl q hq⟩), fun h => h.elim fun _ h9 => h9.elim, Mod.of b'⟩))
    · have hg : vs 104 = .bool true := hp 1 (by decide) (fun _ h9 => h9.elim)
      obtain ⟨o4, p4, h4, s4, k4⟩ : TV1 w0.heap.size w0.heap.size (fun s => .agg #[.int .i64 n, .int .i64 n, s]) gs (vs 107) (S 4) w := hp 4 (by decide) (fun _ h9 => h9.elim)
      obtain ⟨o7, p7, h7, s7, k7⟩ : TV1 w0.heap.size w0.heap.size (fun s => .agg #[.int .i64 n, .int .i64 n, s]) qs (vs 110) (S 7) w := hp 7 (by decide) (fun _ h9 => h9.elim)
      exact wpOp_want _ rfl 1 true rfl 104 rfl (by show some (vs 104) = _; rw [hg]) (op_call2 enters_r3s rfl h4 h7 (k3 w hb _ s4 _ s7) (by rintro e b ⟨rfl, b'⟩; exact ⟨_, rfl, _, fun _ => False, rfl, rfl, fun _ h => h.elim, fun h => h.elim fun _ h9 => h9.elim, Mod.of b'⟩))
    · have h1 : vs 104 = .bool true := hp 1 (by decide) (fun _ h9 => h9.elim)
      have h8 : vs 111 = .bool true := hp 8 (by decide) (fun _ h9 => h9.elim)
      exact wpOp_of _ rfl rfl (op_pickT rfl h1 h8 ⟨_, fun _ => False, rfl, rfl, fun _ h => h.elim, fun h => h.elim fun _ h9 => h9.elim, Mod.refl _ _⟩)
    · have h9 : vs 112 = .bool true := hp 9 (by decide) (fun _ h9 => h9.elim)
      exact wpOp_of _ rfl rfl (op_move rfl h9 ⟨_, fun _ => False, rfl, rfl, fun _ h => h.elim, fun h => h.elim fun _ h9 => h9.elim, Mod.refl _ _⟩)
    · have hg : vs 113 = .bool true := hp 10 (by decide) (fun _ h9 => h9.elim)
      exact wpOp_want _ rfl 10 true rfl 113 rfl (by show some (vs 113) = _; rw [hg]) (op_loadT rfl rfl (cX w hb) ⟨_, fun _ => False, rfl, rfl, fun _ h => h.elim, fun h => h.elim fun _ h9 => h9.elim, Mod.refl _ _⟩)
    · have hg : vs 113 = .bool true := hp 10 (by decide) (fun _ h9 => h9.elim)
      exact wpOp_want _ rfl 10 true rfl 113 rfl (by show some (vs 113) = _; rw [hg]) (op_loadT rfl rfl (cY w hb) ⟨_, fun _ => False, rfl, rfl, fun _ h => h.elim, fun h => h.elim fun _ h9 => h9.elim, Mod.refl _ _⟩)
    · have hg : vs 113 = .bool true := hp 10 (by decide) (fun _ h9 => h9.elim)
      have h11 : vs 114 = .agg #[.int .i64 n, .int .i64 1, .slice xo xs.length xc, .int .i64 n, .int .i64 n, .slice po ps.length pc] := hp 11 (by decide) (fun _ h9 => h9.elim)
      have h12 : vs 115 = .agg #[.int .i64 m, .int .i64 1, .slice yo ys.length yc, .int .i64 m, .int .i64 m, .slice qo us.length qc] := hp 12 (by decide) (fun _ h9 => h9.elim)
      exact wpOp_want _ rfl 10 true rfl 113 rfl (by show some (vs 113) = _; rw [hg]) (op_call2 enters_ks rfl h11 h12 (k4 w hb) (by rintro e b ⟨rfl, b'⟩; exact ⟨_, rfl, _, fun _ => False, rfl, rfl, fun _ h => h.elim, fun h => h.elim fun _ h9 => h9.elim, Mod.of b'⟩))
    · have hg : vs 113 = .bool true := hp 10 (by decide) (fun _ h9 => h9.elim)
      exact wpOp_want _ rfl 10 true rfl 113 rfl (by show some (vs 113) = _; rw [hg]) (op_loadT rfl rfl (cX w hb) ⟨_, fun _ => False, rfl, rfl, fun _ h => h.elim, fun h => h.elim fun _ h9 => h9.elim, Mod.refl _ _⟩)
    · have hg : vs 113 = .bool true := hp 10 (by decide) (fun _ h9 => h9.elim)
      exact wpOp_want _ rfl 10 true rfl 113 rfl (by show some (vs 113) = _; rw [hg]) (op_loadT rfl rfl (cY w hb) ⟨_, fun _ => False, rfl, rfl, fun _ h => h.elim, fun h => h.elim fun _ h9 => h9.elim, Mod.refl _ _⟩)
    · have hg : vs 113 = .bool true := hp 10 (by decide) (fun _ h9 => h9.elim)
      have h14 : vs 117 = .agg #[.int .i64 n, .int .i64 1, .slice xo xs.length xc, .int .i64 n, .int .i64 n, .slice po ps.length pc] := hp 14 (by decide) (fun _ h9 => h9.elim)
      have h15 : vs 118 = .agg #[.int .i64 m, .int .i64 1, .slice yo ys.length yc, .int .i64 m, .int .i64 m, .slice qo us.length qc] := hp 15 (by decide) (fun _ h9 => h9.elim)
      exact wpOp_want _ rfl 10 true rfl 113 rfl (by show some (vs 113) = _; rw [hg]) (op_call2 enters_r5sm rfl h14 h15 (k5 w hb) (by rintro e b ⟨rfl, b'⟩; exact ⟨_, rfl, _, fun _ => False, rfl, rfl, fun _ h => h.elim, fun h => h.elim fun _ h9 => h9.elim, Mod.of b'⟩))
    · have hg : vs 113 = .bool true := hp 10 (by decide) (fun _ h9 => h9.elim)
      have h13 : vs 116 = .bool sB := hp 13 (by decide) (fun _ h9 => h9.elim)
      have h16 : vs 119 = .bool sB := hp 16 (by decide) (fun _ h9 => h9.elim)
      exact wpOp_want _ rfl 10 true rfl 113 rfl (by show some (vs 113) = _; rw [hg]) (op_eqlB rfl h13 h16 rfl ⟨_, fun _ => False, rfl, rfl, fun _ h => h.elim, fun h => h.elim fun _ h9 => h9.elim, Mod.refl _ _⟩)
    · have h10 : vs 113 = .bool true := hp 10 (by decide) (fun _ h9 => h9.elim)
      have h17 : vs 120 = .bool true := hp 17 (by decide) (fun _ h9 => h9.elim)
      exact wpOp_of _ rfl rfl (op_pickT rfl h10 h17 ⟨_, fun _ => False, rfl, rfl, fun _ h => h.elim, fun h => h.elim fun _ h9 => h9.elim, Mod.refl _ _⟩)
    · have h18 : vs 121 = .bool true := hp 18 (by decide) (fun _ h9 => h9.elim)
      exact wpOp_of _ rfl rfl (op_assign rfl h18 ⟨_, fun _ => False, rfl, rfl, fun _ h => h.elim, fun h => h.elim fun _ h9 => h9.elim, Mod.refl _ _⟩)
  · intro vs w S hb hT
    exact hQ vs w hb (hT 19 (by decide) (fun _ h => h))
end Go.Proofs.Ytiniobcknmaigaa
