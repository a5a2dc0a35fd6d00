/-
  Two statements of QuatConjs that call twice and more, in whatever order: 'x, _ := quat.Mul(p, quat.Conj(p))', 'z, _ := quat.Mul(quat.Conj(q), quat.Conj(p))': what they leave.
-/
import Derived.Test.YtgekignonjfaiaaDoorRegP
import Derived.Test.YtgekignonjfaiaaDoorQN
namespace Go.Proofs.YtgekignonjfaiaaDoor
open Go.RowKit Go.Sort Qm

theorem enters17 : ∀ (args : Array Value) (a : World), Sem.run Tryd.prog (callFunc 17 args) a = Result.ok (Next.enter 17 args) a := by
  intro args a; simp [callFunc, Tryd.func17, go_sem]; rfl
theorem enters11 : ∀ (args : Array Value) (a : World), Sem.run Tryd.prog (callFunc 11 args) a = Result.ok (Next.enter 11 args) a := by
  intro args a; simp [callFunc, Tryd.func11, go_sem]; rfl
theorem four_set {w : World} {D C k : Nat} {v : Value} {t : TypeId} (hk : k < 4) (h : ∃ x y z u, w.heap[D]? = some (.cells #[x, y, z, u] t (0, 0))) : ∃ x y z u, (w.setCell ⟨C, k, none⟩ v).heap[D]? = some (.cells #[x, y, z, u] t (0, 0)) := by
  obtain ⟨x, y, z, u, h⟩ := h
  by_cases e : D = C
  · subst e
    have := heap_setCell_same w D k _ t v h
    rcases (by omega : k = 0 ∨ k = 1 ∨ k = 2 ∨ k = 3) with rfl | rfl | rfl | rfl
    · exact ⟨_, _, _, _, this⟩
    · exact ⟨_, _, _, _, this⟩
    · exact ⟨_, _, _, _, this⟩
    · exact ⟨_, _, _, _, this⟩
  · exact ⟨x, y, z, u, set_other h e⟩
def cjAOps : Array Oper := #[
    { dst := some 41, op := Op.load 24 (Operand.tmp 6), type := 24, pos := "more.go:39", after := #[], guard := none },
    { dst := some 42, op := Op.load 24 (Operand.tmp 6), type := 24, pos := "more.go:39", after := #[], guard := none },
    { dst := some 43, op := Op.call { callee := Callee.value (Operand.func 17), args := #[Operand.tmp 42], argTypes := #[24] }, type := 24, pos := "more.go:39", after := #[{ on := 1, ground := Ground.data }], guard := none },
    { dst := some 44, op := Op.call { callee := Callee.value (Operand.func 11), args := #[Operand.tmp 41, Operand.tmp 43], argTypes := #[24, 24] }, type := 26, pos := "more.go:39", after := #[{ on := 0, ground := Ground.data }, { on := 2, ground := Ground.data }, { on := 2, ground := Ground.chain }], guard := none },
    { dst := some 40, op := Op.move (Operand.tmp 44), type := 26, pos := "more.go:39", after := #[{ on := 3, ground := Ground.data }], guard := none },
    { dst := some 45, op := Op.extract (Operand.tmp 40) 0, type := 24, pos := "more.go:39", after := #[{ on := 4, ground := Ground.data }], guard := none },
    { dst := some 46, op := Op.extract (Operand.tmp 40) 1, type := 4, pos := "more.go:39", after := #[{ on := 4, ground := Ground.data }, { on := 8, ground := Ground.gcOnly Departure.lateStores }], guard := none },
    { dst := some 9, op := Op.alloc 24, type := 0, pos := "more.go:39", after := #[], guard := none },
    { dst := none, op := Op.store 24 (Operand.tmp 9) (Operand.tmp 45), type := 0, pos := "more.go:39", after := #[{ on := 7, ground := Ground.data }, { on := 5, ground := Ground.data }, { on := 3, ground := Ground.chain }, { on := 0, ground := Ground.phase }, { on := 1, ground := Ground.phase }, { on := 2, ground := Ground.phase }, { on := 3, ground := Ground.phase }, { on := 4, ground := Ground.phase }, { on := 5, ground := Ground.phase }, { on := 6, ground := Ground.textOnly Departure.lateStores }, { on := 7, ground := Ground.phase }], guard := none },
    { dst := some 10, op := Op.assign (Operand.tmp 46), type := 4, pos := "more.go:39", after := #[{ on := 6, ground := Ground.data }, { on := 8, ground := Ground.chain }, { on := 0, ground := Ground.phase }, { on := 1, ground := Ground.phase }, { on := 2, ground := Ground.phase }, { on := 3, ground := Ground.phase }, { on := 4, ground := Ground.phase }, { on := 5, ground := Ground.phase }, { on := 6, ground := Ground.phase }, { on := 7, ground := Ground.phase }, { on := 8, ground := Ground.phase }], guard := none }]
def cjADst (i : Nat) : Nat := [41, 42, 43, 44, 40, 45, 46, 9, 1000, 10].getD i 0
def cjAFr (D6 : Nat) (u0 u1 u2 u3 u4 u5 u7 u8 u11 u12 u13 u14 u15 u16 u17 u18 u19 u20 u21 u22 u23 u24 u25 u26 u27 u28 u29 u30 u31 u32 u33 u34 u35 u36 u37 u38 u39 u47 u48 u49 u50 u51 u52 u53 u54 u55 u56 u57 u58 u59 u60 u61 u62 u63 u64 u65 u66 u67 u68 u69 u70 u71 u72 u73 u74 u75 u76 u77 u78 : Value) (vs : Nat → Value) : Act := ⟨#[u0, u1, u2, u3, u4, u5, .pointer (some ⟨D6, 0, none⟩), u7, u8, vs 9, vs 10, u11, u12, u13, u14, u15, u16, u17, u18, u19, u20, u21, u22, u23, u24, u25, u26, u27, u28, u29, u30, u31, u32, u33, u34, u35, u36, u37, u38, u39, vs 40, vs 41, vs 42, vs 43, vs 44, vs 45, vs 46, u47, u48, u49, u50, u51, u52, u53, u54, u55, u56, u57, u58, u59, u60, u61, u62, u63, u64, u65, u66, u67, u68, u69, u70, u71, u72, u73, u74, u75, u76, u77, u78], []⟩
def cjAT (B : Nat) (c0 c1 c2 c3 p0 p1 p2 p3 r0 r1 r2 r3 : Int) (X : Bool) : Nat → Value → World → Prop
  | 7, v, w => ∃ D, v = .pointer (some ⟨D, 0, none⟩) ∧ B ≤ D ∧ ∃ x y z u, w.heap[D]? = some (.cells #[x, y, z, u] 24 (0, 0))
  | i, v, _ => v = ([.agg #[.int .i64 p0, .int .i64 p1, .int .i64 p2, .int .i64 p3], .agg #[.int .i64 p0, .int .i64 p1, .int .i64 p2, .int .i64 p3], .agg #[.int .i64 c0, .int .i64 c1, .int .i64 c2, .int .i64 c3], .tuple #[.agg #[.int .i64 r0, .int .i64 r1, .int .i64 r2, .int .i64 r3], .bool X], .tuple #[.agg #[.int .i64 r0, .int .i64 r1, .int .i64 r2, .int .i64 r3], .bool X], .agg #[.int .i64 r0, .int .i64 r1, .int .i64 r2, .int .i64 r3], .bool X, undef, undef, .bool X] : List Value).getD i undef
theorem cjAT_mono (B : Nat) (c0 c1 c2 c3 p0 p1 p2 p3 r0 r1 r2 r3 : Int) (X : Bool) : ∀ i v w w', cjAT B c0 c1 c2 c3 p0 p1 p2 p3 r0 r1 r2 r3 X i v w → Below w.heap.size w w' → cjAT B c0 c1 c2 c3 p0 p1 p2 p3 r0 r1 r2 r3 X i v w' := by
  intro i v w w' h hb
  unfold cjAT at *
  split
  · obtain ⟨D, h1, h2, x, y, z, u, h3⟩ := h; exact ⟨D, h1, h2, x, y, z, u, keep hb h3⟩
  · simp_all
theorem cjAT_set (B : Nat) (c0 c1 c2 c3 p0 p1 p2 p3 r0 r1 r2 r3 : Int) (X : Bool) (C k : Nat) (hk : k < 4) (y : Value) : ∀ i v w, cjAT B c0 c1 c2 c3 p0 p1 p2 p3 r0 r1 r2 r3 X i v w → cjAT B c0 c1 c2 c3 p0 p1 p2 p3 r0 r1 r2 r3 X i v (w.setCell ⟨C, k, none⟩ y) := by
  intro i v w h
  unfold cjAT at *
  split
  · obtain ⟨D, h1, h2, h3⟩ := h; exact ⟨D, h1, h2, four_set hk h3⟩
  · simp_all
set_option maxRecDepth 40000 in
set_option maxHeartbeats 4000000 in
theorem cjA_region {Q : Exit → Act → World → Prop} {w0 : World} {D6 : Nat} {u0 u1 u2 u3 u4 u5 u7 u8 u11 u12 u13 u14 u15 u16 u17 u18 u19 u20 u21 u22 u23 u24 u25 u26 u27 u28 u29 u30 u31 u32 u33 u34 u35 u36 u37 u38 u39 u47 u48 u49 u50 u51 u52 u53 u54 u55 u56 u57 u58 u59 u60 u61 u62 u63 u64 u65 u66 u67 u68 u69 u70 u71 u72 u73 u74 u75 u76 u77 u78 : Value} {c0 c1 c2 c3 p0 p1 p2 p3 r0 r1 r2 r3 : Int} {X : Bool}
    (x6 : w0.heap[D6]? = some (.cells #[.int .i64 p0, .int .i64 p1, .int .i64 p2, .int .i64 p3] 24 (0, 0)))
    (cA : ∀ w, Below w0.heap.size w0 w → Calls Tryd.prog 17 #[.agg #[.int .i64 p0, .int .i64 p1, .int .i64 p2, .int .i64 p3]] w fun e b => e = .returned (.agg #[.int .i64 c0, .int .i64 c1, .int .i64 c2, .int .i64 c3]) ∧ Below w.heap.size w b)
    (cB : ∀ w, Below w0.heap.size w0 w → Calls Tryd.prog 11 #[.agg #[.int .i64 p0, .int .i64 p1, .int .i64 p2, .int .i64 p3], .agg #[.int .i64 c0, .int .i64 c1, .int .i64 c2, .int .i64 c3]] w fun e b => e = .returned (.tuple #[.agg #[.int .i64 r0, .int .i64 r1, .int .i64 r2, .int .i64 r3], .bool X]) ∧ Below w.heap.size w b)
    (hQ : ∀ vs D w, Below w0.heap.size w0 w → vs 9 = .pointer (some ⟨D, 0, none⟩) → vs 10 = .bool X → w.heap[D]? = some (.cells #[.int .i64 r0, .int .i64 r1, .int .i64 r2, .int .i64 r3] 24 (0, 0)) → Q .normal (cjAFr D6 u0 u1 u2 u3 u4 u5 u7 u8 u11 u12 u13 u14 u15 u16 u17 u18 u19 u20 u21 u22 u23 u24 u25 u26 u27 u28 u29 u30 u31 u32 u33 u34 u35 u36 u37 u38 u39 u47 u48 u49 u50 u51 u52 u53 u54 u55 u56 u57 u58 u59 u60 u61 u62 u63 u64 u65 u66 u67 u68 u69 u70 u71 u72 u73 u74 u75 u76 u77 u78 vs) w) :
    (Code.region 9 cjAOps true).wp Tryd.prog Q (cjAFr D6 u0 u1 u2 u3 u4 u5 u7 u8 u11 u12 u13 u14 u15 u16 u17 u18 u19 u20 u21 u22 u23 u24 u25 u26 u27 u28 u29 u30 u31 u32 u33 u34 u35 u36 u37 u38 u39 u47 u48 u49 u50 u51 u52 u53 u54 u55 u56 u57 u58 u59 u60 u61 u62 u63 u64 u65 u66 u67 u68 u69 u70 u71 u72 u73 u74 u75 u76 u77 u78 (fun _ => undef)) w0 := by
  refine wp_region_put (B := w0.heap.size) (Nat.le_refl _) (by kernel_rfl) (by decide) cjADst (by decide) (cjAFr D6 u0 u1 u2 u3 u4 u5 u7 u8 u11 u12 u13 u14 u15 u16 u17 u18 u19 u20 u21 u22 u23 u24 u25 u26 u27 u28 u29 u30 u31 u32 u33 u34 u35 u36 u37 u38 u39 u47 u48 u49 u50 u51 u52 u53 u54 u55 u56 u57 u58 u59 u60 u61 u62 u63 u64 u65 u66 u67 u68 u69 u70 u71 u72 u73 u74 u75 u76 u77 u78) (cjAT w0.heap.size c0 c1 c2 c3 p0 p1 p2 p3 r0 r1 r2 r3 X) (cjAT_mono w0.heap.size c0 c1 c2 c3 p0 p1 p2 p3 r0 r1 r2 r3 X) (fun _ => undef) 8 9 (fun v w => ∃ D, v = .pointer (some ⟨D, 0, none⟩) ∧ w.heap[D]? = some (.cells #[.int .i64 r0, .int .i64 r1, .int .i64 r2, .int .i64 r3] 24 (0, 0))) (fun v w w' ⟨D, h1, h2⟩ hb => ⟨D, h1, keep hb h2⟩) (by decide) (by decide) ?_ ?_ ?_
  · intro i hi his vs w hb hp _
    have hi' : i < 10 := hi
    rcases (by omega : i = 0 ∨ i = 1 ∨ i = 2 ∨ i = 3 ∨ i = 4 ∨ i = 5 ∨ i = 6 ∨ i = 7 ∨ i = 8 ∨ i = 9) with rfl | rfl | rfl | rfl | rfl | rfl | rfl | rfl | rfl | rfl
    · exact wpOp_of _ rfl rfl (op_load4 rfl rfl (keep hb x6) ⟨_, _, _, _, rfl, rfl, rfl, rfl⟩ ⟨_, rfl, rfl, Below.refl _ _⟩)
    · exact wpOp_of _ rfl rfl (op_load4 rfl rfl (keep hb x6) ⟨_, _, _, _, rfl, rfl, rfl, rfl⟩ ⟨_, rfl, rfl, Below.refl _ _⟩)
    · have h1 : vs 42 = .agg #[.int .i64 p0, .int .i64 p1, .int .i64 p2, .int .i64 p3] := hp 1 (by decide) (by decide)
      exact wpOp_of _ rfl rfl (op_call1 enters17 rfl h1 (cA w hb) (by rintro e b ⟨rfl, b'⟩; exact ⟨_, rfl, _, rfl, rfl, b'⟩))
    · have h0 : vs 41 = .agg #[.int .i64 p0, .int .i64 p1, .int .i64 p2, .int .i64 p3] := hp 0 (by decide) (by decide)
      have h2 : vs 43 = .agg #[.int .i64 c0, .int .i64 c1, .int .i64 c2, .int .i64 c3] := hp 2 (by decide) (by decide)
      exact wpOp_of _ rfl rfl (op_call2 enters11 rfl h0 h2 (cB w hb) (by rintro e b ⟨rfl, b'⟩; exact ⟨_, rfl, _, rfl, rfl, b'⟩))
    · have h3 : vs 44 = .tuple #[.agg #[.int .i64 r0, .int .i64 r1, .int .i64 r2, .int .i64 r3], .bool X] := hp 3 (by decide) (by decide)
      exact wpOp_of _ rfl rfl (op_move rfl h3 ⟨_, rfl, rfl, Below.refl _ _⟩)
    · have h4 : vs 40 = .tuple #[.agg #[.int .i64 r0, .int .i64 r1, .int .i64 r2, .int .i64 r3], .bool X] := hp 4 (by decide) (by decide)
      exact wpOp_of _ rfl rfl (op_extract rfl h4 rfl ⟨_, rfl, rfl, Below.refl _ _⟩)
    · have h4 : vs 40 = .tuple #[.agg #[.int .i64 r0, .int .i64 r1, .int .i64 r2, .int .i64 r3], .bool X] := hp 4 (by decide) (by decide)
      exact wpOp_of _ rfl rfl (op_extract rfl h4 rfl ⟨_, rfl, rfl, Below.refl _ _⟩)
    · exact wpOp_of _ rfl rfl (op_alloc4 rfl ⟨_, rfl, ⟨_, rfl, hb.size, _, _, _, _, heap_new _ _⟩, ball1 _ _⟩)
    · exact absurd rfl his
    · have h6 : vs 46 = .bool X := hp 6 (by decide) (by decide)
      exact wpOp_of _ rfl rfl (op_assign rfl h6 ⟨_, rfl, rfl, Below.refl _ _⟩)
  · intro vs w hb hp
    obtain ⟨D, hD, hDB, x, y, z, u, hbl⟩ := hp 7 (by decide)
    have hf : vs 45 = .agg #[.int .i64 r0, .int .i64 r1, .int .i64 r2, .int .i64 r3] := hp 5 (by decide)
    refine wpOp_of _ rfl rfl (op_store4 rfl rfl hD hf hbl ?_)
    exact ⟨undef, rfl, ⟨D, hD, put_four hbl⟩, (((hb.setCell (p := ⟨D, 0, none⟩) hDB _).setCell (p := ⟨D, 1, none⟩) hDB _).setCell (p := ⟨D, 2, none⟩) hDB _).setCell (p := ⟨D, 3, none⟩) hDB _, fun j v _ ht => cjAT_set w0.heap.size c0 c1 c2 c3 p0 p1 p2 p3 r0 r1 r2 r3 X D 3 (by omega) _ j v _ (cjAT_set w0.heap.size c0 c1 c2 c3 p0 p1 p2 p3 r0 r1 r2 r3 X D 2 (by omega) _ j v _ (cjAT_set w0.heap.size c0 c1 c2 c3 p0 p1 p2 p3 r0 r1 r2 r3 X D 1 (by omega) _ j v _ (cjAT_set w0.heap.size c0 c1 c2 c3 p0 p1 p2 p3 r0 r1 r2 r3 X D 0 (by omega) _ j v _ ht)))⟩
  · rintro vs w hb hT ⟨D, h1, h2⟩
    have hX : vs 10 = .bool X := hT 9 (by decide) (by decide)
    exact hQ vs D w hb h1 hX h2
def cjBOps : Array Oper := #[
    { dst := some 59, op := Op.load 24 (Operand.tmp 7), type := 24, pos := "more.go:42", after := #[], guard := none },
    { dst := some 60, op := Op.call { callee := Callee.value (Operand.func 17), args := #[Operand.tmp 59], argTypes := #[24] }, type := 24, pos := "more.go:42", after := #[{ on := 0, ground := Ground.data }], guard := none },
    { dst := some 61, op := Op.load 24 (Operand.tmp 6), type := 24, pos := "more.go:42", after := #[], guard := none },
    { dst := some 62, op := Op.call { callee := Callee.value (Operand.func 17), args := #[Operand.tmp 61], argTypes := #[24] }, type := 24, pos := "more.go:42", after := #[{ on := 2, ground := Ground.data }, { on := 1, ground := Ground.chain }], guard := none },
    { dst := some 63, op := Op.call { callee := Callee.value (Operand.func 11), args := #[Operand.tmp 60, Operand.tmp 62], argTypes := #[24, 24] }, type := 26, pos := "more.go:42", after := #[{ on := 1, ground := Ground.data }, { on := 3, ground := Ground.data }, { on := 3, ground := Ground.chain }], guard := none },
    { dst := some 58, op := Op.move (Operand.tmp 63), type := 26, pos := "more.go:42", after := #[{ on := 4, ground := Ground.data }], guard := none },
    { dst := some 64, op := Op.extract (Operand.tmp 58) 0, type := 24, pos := "more.go:42", after := #[{ on := 5, ground := Ground.data }], guard := none },
    { dst := some 65, op := Op.extract (Operand.tmp 58) 1, type := 4, pos := "more.go:42", after := #[{ on := 5, ground := Ground.data }, { on := 9, ground := Ground.gcOnly Departure.lateStores }], guard := none },
    { dst := some 15, op := Op.alloc 24, type := 0, pos := "more.go:42", after := #[], guard := none },
    { dst := none, op := Op.store 24 (Operand.tmp 15) (Operand.tmp 64), type := 0, pos := "more.go:42", after := #[{ on := 8, ground := Ground.data }, { on := 6, ground := Ground.data }, { on := 4, ground := Ground.chain }, { on := 0, ground := Ground.phase }, { on := 1, ground := Ground.phase }, { on := 2, ground := Ground.phase }, { on := 3, ground := Ground.phase }, { on := 4, ground := Ground.phase }, { on := 5, ground := Ground.phase }, { on := 6, ground := Ground.phase }, { on := 7, ground := Ground.textOnly Departure.lateStores }, { on := 8, ground := Ground.phase }], guard := none },
    { dst := some 16, op := Op.assign (Operand.tmp 65), type := 4, pos := "more.go:42", after := #[{ on := 7, ground := Ground.data }, { on := 9, ground := Ground.chain }, { on := 0, ground := Ground.phase }, { on := 1, ground := Ground.phase }, { on := 2, ground := Ground.phase }, { on := 3, ground := Ground.phase }, { on := 4, ground := Ground.phase }, { on := 5, ground := Ground.phase }, { on := 6, ground := Ground.phase }, { on := 7, ground := Ground.phase }, { on := 8, ground := Ground.phase }, { on := 9, ground := Ground.phase }], guard := none }]
def cjBDst (i : Nat) : Nat := [59, 60, 61, 62, 63, 58, 64, 65, 15, 1000, 16].getD i 0
def cjBFr (D6 D7 : Nat) (u0 u1 u2 u3 u4 u5 u8 u9 u10 u11 u12 u13 u14 u17 u18 u19 u20 u21 u22 u23 u24 u25 u26 u27 u28 u29 u30 u31 u32 u33 u34 u35 u36 u37 u38 u39 u40 u41 u42 u43 u44 u45 u46 u47 u48 u49 u50 u51 u52 u53 u54 u55 u56 u57 u66 u67 u68 u69 u70 u71 u72 u73 u74 u75 u76 u77 u78 : Value) (vs : Nat → Value) : Act := ⟨#[u0, u1, u2, u3, u4, u5, .pointer (some ⟨D6, 0, none⟩), .pointer (some ⟨D7, 0, none⟩), u8, u9, u10, u11, u12, u13, u14, vs 15, vs 16, u17, u18, u19, u20, u21, u22, u23, u24, u25, u26, u27, u28, u29, u30, u31, u32, u33, u34, u35, u36, u37, u38, u39, u40, u41, u42, u43, u44, u45, u46, u47, u48, u49, u50, u51, u52, u53, u54, u55, u56, u57, vs 58, vs 59, vs 60, vs 61, vs 62, vs 63, vs 64, vs 65, u66, u67, u68, u69, u70, u71, u72, u73, u74, u75, u76, u77, u78], []⟩
def cjBT (B : Nat) (c0 c1 c2 c3 d0 d1 d2 d3 p0 p1 p2 p3 q0 q1 q2 q3 r0 r1 r2 r3 : Int) (X : Bool) : Nat → Value → World → Prop
  | 8, v, w => ∃ D, v = .pointer (some ⟨D, 0, none⟩) ∧ B ≤ D ∧ ∃ x y z u, w.heap[D]? = some (.cells #[x, y, z, u] 24 (0, 0))
  | i, v, _ => v = ([.agg #[.int .i64 q0, .int .i64 q1, .int .i64 q2, .int .i64 q3], .agg #[.int .i64 d0, .int .i64 d1, .int .i64 d2, .int .i64 d3], .agg #[.int .i64 p0, .int .i64 p1, .int .i64 p2, .int .i64 p3], .agg #[.int .i64 c0, .int .i64 c1, .int .i64 c2, .int .i64 c3], .tuple #[.agg #[.int .i64 r0, .int .i64 r1, .int .i64 r2, .int .i64 r3], .bool X], .tuple #[.agg #[.int .i64 r0, .int .i64 r1, .int .i64 r2, .int .i64 r3], .bool X], .agg #[.int .i64 r0, .int .i64 r1, .int .i64 r2, .int .i64 r3], .bool X, undef, undef, .bool X] : List Value).getD i undef
theorem cjBT_mono (B : Nat) (c0 c1 c2 c3 d0 d1 d2 d3 p0 p1 p2 p3 q0 q1 q2 q3 r0 r1 r2 r3 : Int) (X : Bool) : ∀ i v w w', cjBT B c0 c1 c2 c3 d0 d1 d2 d3 p0 p1 p2 p3 q0 q1 q2 q3 r0 r1 r2 r3 X i v w → Below w.heap.size w w' → cjBT B c0 c1 c2 c3 d0 d1 d2 d3 p0 p1 p2 p3 q0 q1 q2 q3 r0 r1 r2 r3 X i v w' := by
  intro i v w w' h hb
  unfold cjBT at *
  split
  · obtain ⟨D, h1, h2, x, y, z, u, h3⟩ := h; exact ⟨D, h1, h2, x, y, z, u, keep hb h3⟩
  · simp_all
theorem cjBT_set (B : Nat) (c0 c1 c2 c3 d0 d1 d2 d3 p0 p1 p2 p3 q0 q1 q2 q3 r0 r1 r2 r3 : Int) (X : Bool) (C k : Nat) (hk : k < 4) (y : Value) : ∀ i v w, cjBT B c0 c1 c2 c3 d0 d1 d2 d3 p0 p1 p2 p3 q0 q1 q2 q3 r0 r1 r2 r3 X i v w → cjBT B c0 c1 c2 c3 d0 d1 d2 d3 p0 p1 p2 p3 q0 q1 q2 q3 r0 r1 r2 r3 X i v (w.setCell ⟨C, k, none⟩ y) := by
  intro i v w h
  unfold cjBT at *
  split
  · obtain ⟨D, h1, h2, h3⟩ := h; exact ⟨D, h1, h2, four_set hk h3⟩
  · simp_all
set_option maxRecDepth 40000 in
set_option maxHeartbeats 4000000 in
theorem cjB_region {Q : Exit → Act → World → Prop} {w0 : World} {D6 D7 : Nat} {u0 u1 u2 u3 u4 u5 u8 u9 u10 u11 u12 u13 u14 u17 u18 u19 u20 u21 u22 u23 u24 u25 u26 u27 u28 u29 u30 u31 u32 u33 u34 u35 u36 u37 u38 u39 u40 u41 u42 u43 u44 u45 u46 u47 u48 u49 u50 u51 u52 u53 u54 u55 u56 u57 u66 u67 u68 u69 u70 u71 u72 u73 u74 u75 u76 u77 u78 : Value} {c0 c1 c2 c3 d0 d1 d2 d3 p0 p1 p2 p3 q0 q1 q2 q3 r0 r1 r2 r3 : Int} {X : Bool}
    (x6 : w0.heap[D6]? = some (.cells #[.int .i64 p0, .int .i64 p1, .int .i64 p2, .int .i64 p3] 24 (0, 0)))
    (x7 : w0.heap[D7]? = some (.cells #[.int .i64 q0, .int .i64 q1, .int .i64 q2, .int .i64 q3] 24 (0, 0)))
    (cA : ∀ w, Below w0.heap.size w0 w → Calls Tryd.prog 17 #[.agg #[.int .i64 q0, .int .i64 q1, .int .i64 q2, .int .i64 q3]] w fun e b => e = .returned (.agg #[.int .i64 d0, .int .i64 d1, .int .i64 d2, .int .i64 d3]) ∧ Below w.heap.size w b)
    (cB : ∀ w, Below w0.heap.size w0 w → Calls Tryd.prog 17 #[.agg #[.int .i64 p0, .int .i64 p1, .int .i64 p2, .int .i64 p3]] w fun e b => e = .returned (.agg #[.int .i64 c0, .int .i64 c1, .int .i64 c2, .int .i64 c3]) ∧ Below w.heap.size w b)
    (cC : ∀ w, Below w0.heap.size w0 w → Calls Tryd.prog 11 #[.agg #[.int .i64 d0, .int .i64 d1, .int .i64 d2, .int .i64 d3], .agg #[.int .i64 c0, .int .i64 c1, .int .i64 c2, .int .i64 c3]] w fun e b => e = .returned (.tuple #[.agg #[.int .i64 r0, .int .i64 r1, .int .i64 r2, .int .i64 r3], .bool X]) ∧ Below w.heap.size w b)
    (hQ : ∀ vs D w, Below w0.heap.size w0 w → vs 15 = .pointer (some ⟨D, 0, none⟩) → vs 16 = .bool X → w.heap[D]? = some (.cells #[.int .i64 r0, .int .i64 r1, .int .i64 r2, .int .i64 r3] 24 (0, 0)) → Q .normal (cjBFr D6 D7 u0 u1 u2 u3 u4 u5 u8 u9 u10 u11 u12 u13 u14 u17 u18 u19 u20 u21 u22 u23 u24 u25 u26 u27 u28 u29 u30 u31 u32 u33 u34 u35 u36 u37 u38 u39 u40 u41 u42 u43 u44 u45 u46 u47 u48 u49 u50 u51 u52 u53 u54 u55 u56 u57 u66 u67 u68 u69 u70 u71 u72 u73 u74 u75 u76 u77 u78 vs) w) :
    (Code.region 12 cjBOps true).wp Tryd.prog Q (cjBFr D6 D7 u0 u1 u2 u3 u4 u5 u8 u9 u10 u11 u12 u13 u14 u17 u18 u19 u20 u21 u22 u23 u24 u25 u26 u27 u28 u29 u30 u31 u32 u33 u34 u35 u36 u37 u38 u39 u40 u41 u42 u43 u44 u45 u46 u47 u48 u49 u50 u51 u52 u53 u54 u55 u56 u57 u66 u67 u68 u69 u70 u71 u72 u73 u74 u75 u76 u77 u78 (fun _ => undef)) w0 := by
  refine wp_region_put (B := w0.heap.size) (Nat.le_refl _) (by kernel_rfl) (by decide) cjBDst (by decide) (cjBFr D6 D7 u0 u1 u2 u3 u4 u5 u8 u9 u10 u11 u12 u13 u14 u17 u18 u19 u20 u21 u22 u23 u24 u25 u26 u27 u28 u29 u30 u31 u32 u33 u34 u35 u36 u37 u38 u39 u40 u41 u42 u43 u44 u45 u46 u47 u48 u49 u50 u51 u52 u53 u54 u55 u56 u57 u66 u67 u68 u69 u70 u71 u72 u73 u74 u75 u76 u77 u78) (cjBT w0.heap.size c0 c1 c2 c3 d0 d1 d2 d3 p0 p1 p2 p3 q0 q1 q2 q3 r0 r1 r2 r3 X) (cjBT_mono w0.heap.size c0 c1 c2 c3 d0 d1 d2 d3 p0 p1 p2 p3 q0 q1 q2 q3 r0 r1 r2 r3 X) (fun _ => undef) 9 15 (fun v w => ∃ D, v = .pointer (some ⟨D, 0, none⟩) ∧ w.heap[D]? = some (.cells #[.int .i64 r0, .int .i64 r1, .int .i64 r2, .int .i64 r3] 24 (0, 0))) (fun v w w' ⟨D, h1, h2⟩ hb => ⟨D, h1, keep hb h2⟩) (by decide) (by decide) ?_ ?_ ?_
  · intro i hi his vs w hb hp _
    have hi' : i < 11 := hi
    rcases (by omega : i = 0 ∨ i = 1 ∨ i = 2 ∨ i = 3 ∨ i = 4 ∨ i = 5 ∨ i = 6 ∨ i = 7 ∨ i = 8 ∨ i = 9 ∨ i = 10) with rfl | rfl | rfl | rfl | rfl | rfl | rfl | rfl | rfl | rfl | rfl
    · exact wpOp_of _ rfl rfl (op_load4 rfl rfl (keep hb x7) ⟨_, _, _, _, rfl, rfl, rfl, rfl⟩ ⟨_, rfl, rfl, Below.refl _ _⟩)
    · have h0 : vs 59 = .agg #[.int .i64 q0, .int .i64 q1, .int .i64 q2, .int .i64 q3] := hp 0 (by decide) (by decide)
      exact wpOp_of _ rfl rfl (op_call1 enters17 rfl h0 (cA w hb) (by rintro e b ⟨rfl, b'⟩; exact ⟨_, rfl, _, rfl, rfl, b'⟩))
    · exact wpOp_of _ rfl rfl (op_load4 rfl rfl (keep hb x6) ⟨_, _, _, _, rfl, rfl, rfl, rfl⟩ ⟨_, rfl, rfl, Below.refl _ _⟩)
    · have h2 : vs 61 = .agg #[.int .i64 p0, .int .i64 p1, .int .i64 p2, .int .i64 p3] := hp 2 (by decide) (by decide)
      exact wpOp_of _ rfl rfl (op_call1 enters17 rfl h2 (cB w hb) (by rintro e b ⟨rfl, b'⟩; exact ⟨_, rfl, _, rfl, rfl, b'⟩))
    · have h1 : vs 60 = .agg #[.int .i64 d0, .int .i64 d1, .int .i64 d2, .int .i64 d3] := hp 1 (by decide) (by decide)
      have h3 : vs 62 = .agg #[.int .i64 c0, .int .i64 c1, .int .i64 c2, .int .i64 c3] := hp 3 (by decide) (by decide)
      exact wpOp_of _ rfl rfl (op_call2 enters11 rfl h1 h3 (cC w hb) (by rintro e b ⟨rfl, b'⟩; exact ⟨_, rfl, _, rfl, rfl, b'⟩))
    · have h4 : vs 63 = .tuple #[.agg #[.int .i64 r0, .int .i64 r1, .int .i64 r2, .int .i64 r3], .bool X] := hp 4 (by decide) (by decide)
      exact wpOp_of _ rfl rfl (op_move rfl h4 ⟨_, rfl, rfl, Below.refl _ _⟩)
    · have h5 : vs 58 = .tuple #[.agg #[.int .i64 r0, .int .i64 r1, .int .i64 r2, .int .i64 r3], .bool X] := hp 5 (by decide) (by decide)
      exact wpOp_of _ rfl rfl (op_extract rfl h5 rfl ⟨_, rfl, rfl, Below.refl _ _⟩)
    · have h5 : vs 58 = .tuple #[.agg #[.int .i64 r0, .int .i64 r1, .int .i64 r2, .int .i64 r3], .bool X] := hp 5 (by decide) (by decide)
      exact wpOp_of _ rfl rfl (op_extract rfl h5 rfl ⟨_, rfl, rfl, Below.refl _ _⟩)
    · exact wpOp_of _ rfl rfl (op_alloc4 rfl ⟨_, rfl, ⟨_, rfl, hb.size, _, _, _, _, heap_new _ _⟩, ball1 _ _⟩)
    · exact absurd rfl his
    · have h7 : vs 65 = .bool X := hp 7 (by decide) (by decide)
      exact wpOp_of _ rfl rfl (op_assign rfl h7 ⟨_, rfl, rfl, Below.refl _ _⟩)
  · intro vs w hb hp
    obtain ⟨D, hD, hDB, x, y, z, u, hbl⟩ := hp 8 (by decide)
    have hf : vs 64 = .agg #[.int .i64 r0, .int .i64 r1, .int .i64 r2, .int .i64 r3] := hp 6 (by decide)
    refine wpOp_of _ rfl rfl (op_store4 rfl rfl hD hf hbl ?_)
    exact ⟨undef, rfl, ⟨D, hD, put_four hbl⟩, (((hb.setCell (p := ⟨D, 0, none⟩) hDB _).setCell (p := ⟨D, 1, none⟩) hDB _).setCell (p := ⟨D, 2, none⟩) hDB _).setCell (p := ⟨D, 3, none⟩) hDB _, fun j v _ ht => cjBT_set w0.heap.size c0 c1 c2 c3 d0 d1 d2 d3 p0 p1 p2 p3 q0 q1 q2 q3 r0 r1 r2 r3 X D 3 (by omega) _ j v _ (cjBT_set w0.heap.size c0 c1 c2 c3 d0 d1 d2 d3 p0 p1 p2 p3 q0 q1 q2 q3 r0 r1 r2 r3 X D 2 (by omega) _ j v _ (cjBT_set w0.heap.size c0 c1 c2 c3 d0 d1 d2 d3 p0 p1 p2 p3 q0 q1 q2 q3 r0 r1 r2 r3 X D 1 (by omega) _ j v _ (cjBT_set w0.heap.size c0 c1 c2 c3 d0 d1 d2 d3 p0 p1 p2 p3 q0 q1 q2 q3 r0 r1 r2 r3 X D 0 (by omega) _ j v _ ht)))⟩
  · rintro vs w hb hT ⟨D, h1, h2⟩
    have hX : vs 16 = .bool X := hT 10 (by decide) (by decide)
    exact hQ vs D w hb h1 hX h2
end Go.Proofs.YtgekignonjfaiaaDoor
