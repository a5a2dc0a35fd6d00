/-
  The last region of MatEvens: whatever its order, it leaves true.
-/
import Derived.Test.YteohdhmimpajmaaRegV
namespace Go.Proofs.Yteohdhmimpajmaa
open Go.RowKit Go.Sort Qm

theorem enters11 : ∀ (args : Array Value) (a : World), Sem.run Try.prog (callFunc 11 args) a = Result.ok (Next.enter 11 args) a := by
  intro args a
  simp [callFunc, Try.func11, go_sem]
  rfl
theorem enters18 : ∀ (args : Array Value) (a : World), Sem.run Try.prog (callFunc 18 args) a = Result.ok (Next.enter 18 args) a := by
  intro args a
  simp [callFunc, Try.func18, go_sem]
  rfl
def evOps : Array Oper := #[
    { dst := some 37, op := Op.move (Operand.tmp 3), type := 4, pos := "law.go:99", after := #[], guard := none },
    { dst := some 38, op := Op.move (Operand.tmp 37), type := 4, pos := "law.go:99", after := #[{ on := 0, ground := Ground.data }], guard := none },
    { dst := some 39, op := Op.move (Operand.tmp 6), type := 27, pos := "law.go:99", after := #[{ on := 1, ground := Ground.guard }], guard := some (1, true) },
    { dst := some 40, op := Op.binOp BinOp.eql 27 (Operand.tmp 39) (Operand.const (Value.int IntKind.i64 0)) 27, type := 4, pos := "law.go:99", after := #[{ on := 2, ground := Ground.data }, { on := 1, ground := Ground.guard }], guard := some (1, true) },
    { dst := some 41, op := Op.pick (Operand.tmp 38) (Operand.tmp 40) (Operand.const (Value.bool false)), type := 4, pos := "law.go:99", after := #[{ on := 1, ground := Ground.data }, { on := 3, ground := Ground.data }], guard := none },
    { dst := some 42, op := Op.move (Operand.tmp 41), type := 4, pos := "law.go:99", after := #[{ on := 4, ground := Ground.data }, { on := 1, ground := Ground.chain }], guard := none },
    { dst := some 43, op := Op.move (Operand.tmp 9), type := 27, pos := "law.go:99", after := #[{ on := 5, ground := Ground.guard }], guard := some (5, true) },
    { dst := some 44, op := Op.binOp BinOp.eql 27 (Operand.tmp 43) (Operand.const (Value.int IntKind.i64 0)) 27, type := 4, pos := "law.go:99", after := #[{ on := 6, ground := Ground.data }, { on := 5, ground := Ground.guard }], guard := some (5, true) },
    { dst := some 45, op := Op.pick (Operand.tmp 42) (Operand.tmp 44) (Operand.const (Value.bool false)), type := 4, pos := "law.go:99", after := #[{ on := 5, ground := Ground.data }, { on := 7, ground := Ground.data }], guard := none },
    { dst := some 46, op := Op.move (Operand.tmp 45), type := 4, pos := "law.go:99", after := #[{ on := 8, ground := Ground.data }, { on := 5, ground := Ground.chain }], guard := none },
    { dst := some 47, op := Op.move (Operand.tmp 5), type := 4, pos := "law.go:99", after := #[{ on := 9, ground := Ground.guard }], guard := some (9, true) },
    { dst := some 48, op := Op.unOp UnOp.not 4 (Operand.tmp 47), type := 4, pos := "law.go:99", after := #[{ on := 10, ground := Ground.data }, { on := 9, ground := Ground.guard }], guard := some (9, true) },
    { dst := some 49, op := Op.pick (Operand.tmp 46) (Operand.tmp 48) (Operand.const (Value.bool false)), type := 4, pos := "law.go:99", after := #[{ on := 9, ground := Ground.data }, { on := 11, ground := Ground.data }], guard := none },
    { dst := some 50, op := Op.move (Operand.tmp 49), type := 4, pos := "law.go:99", after := #[{ on := 12, ground := Ground.data }, { on := 9, ground := Ground.chain }], guard := none },
    { dst := some 51, op := Op.load 24 (Operand.tmp 4), type := 24, pos := "law.go:99", after := #[{ on := 13, ground := Ground.guard }], guard := some (13, true) },
    { dst := some 52, op := Op.call { callee := Callee.value (Operand.func 11), args := #[Operand.tmp 51], argTypes := #[24] }, type := 4, pos := "law.go:99", after := #[{ on := 14, ground := Ground.data }, { on := 13, ground := Ground.chain }, { on := 13, ground := Ground.guard }], guard := some (13, true) },
    { dst := some 53, op := Op.pick (Operand.tmp 50) (Operand.tmp 52) (Operand.const (Value.bool false)), type := 4, pos := "law.go:99", after := #[{ on := 13, ground := Ground.data }, { on := 15, ground := Ground.data }], guard := none },
    { dst := some 54, op := Op.move (Operand.tmp 53), type := 4, pos := "law.go:99", after := #[{ on := 16, ground := Ground.data }, { on := 15, ground := Ground.chain }], guard := none },
    { dst := some 55, op := Op.load 24 (Operand.tmp 4), type := 24, pos := "law.go:99", after := #[{ on := 17, ground := Ground.guard }], guard := some (17, true) },
    { dst := some 56, op := Op.call { callee := Callee.value (Operand.func 29), args := #[Operand.tmp 55], argTypes := #[24] }, type := 24, pos := "law.go:99", after := #[{ on := 18, ground := Ground.data }, { on := 17, ground := Ground.chain }, { on := 17, ground := Ground.guard }], guard := some (17, true) },
    { dst := some 57, op := Op.load 24 (Operand.tmp 4), type := 24, pos := "law.go:99", after := #[{ on := 17, ground := Ground.guard }], guard := some (17, true) },
    { dst := some 58, op := Op.call { callee := Callee.value (Operand.func 18), args := #[Operand.tmp 56, Operand.tmp 57], argTypes := #[24, 24] }, type := 4, pos := "law.go:99", after := #[{ on := 19, ground := Ground.data }, { on := 20, ground := Ground.data }, { on := 19, ground := Ground.chain }, { on := 17, ground := Ground.guard }], guard := some (17, true) },
    { dst := some 59, op := Op.pick (Operand.tmp 54) (Operand.tmp 58) (Operand.const (Value.bool false)), type := 4, pos := "law.go:99", after := #[{ on := 17, ground := Ground.data }, { on := 21, ground := Ground.data }], guard := none },
    { dst := some 60, op := Op.move (Operand.tmp 59), type := 4, pos := "law.go:99", after := #[{ on := 22, ground := Ground.data }, { on := 21, ground := Ground.chain }], guard := none },
    { dst := some 61, op := Op.load 24 (Operand.tmp 7), type := 24, pos := "law.go:99", after := #[{ on := 23, ground := Ground.guard }], guard := some (23, true) },
    { dst := some 62, op := Op.load 24 (Operand.tmp 4), type := 24, pos := "law.go:99", after := #[{ on := 23, ground := Ground.guard }], guard := some (23, true) },
    { dst := some 63, op := Op.call { callee := Callee.value (Operand.func 18), args := #[Operand.tmp 61, Operand.tmp 62], argTypes := #[24, 24] }, type := 4, pos := "law.go:99", after := #[{ on := 24, ground := Ground.data }, { on := 25, ground := Ground.data }, { on := 23, ground := Ground.chain }, { on := 23, ground := Ground.guard }], guard := some (23, true) },
    { dst := some 64, op := Op.pick (Operand.tmp 60) (Operand.tmp 63) (Operand.const (Value.bool false)), type := 4, pos := "law.go:99", after := #[{ on := 23, ground := Ground.data }, { on := 26, ground := Ground.data }], guard := none },
    { dst := some 2, op := Op.assign (Operand.tmp 64), type := 4, pos := "law.go:99", after := #[{ on := 27, ground := Ground.data }, { on := 26, ground := Ground.chain }, { on := 0, ground := Ground.phase }, { on := 1, ground := Ground.phase }, { on := 2, ground := Ground.phase }, { on := 3, ground := Ground.phase }, { on := 4, ground := Ground.phase }, { on := 5, ground := Ground.phase }, { on := 6, ground := Ground.phase }, { on := 7, ground := Ground.phase }, { on := 8, ground := Ground.phase }, { on := 9, ground := Ground.phase }, { on := 10, ground := Ground.phase }, { on := 11, ground := Ground.phase }, { on := 12, ground := Ground.phase }, { on := 13, ground := Ground.phase }, { on := 14, ground := Ground.phase }, { on := 15, ground := Ground.phase }, { on := 16, ground := Ground.phase }, { on := 17, ground := Ground.phase }, { on := 18, ground := Ground.phase }, { on := 19, ground := Ground.phase }, { on := 20, ground := Ground.phase }, { on := 21, ground := Ground.phase }, { on := 22, ground := Ground.phase }, { on := 23, ground := Ground.phase }, { on := 24, ground := Ground.phase }, { on := 25, ground := Ground.phase }, { on := 26, ground := Ground.phase }, { on := 27, ground := Ground.phase }], guard := none }]
def evDst (i : Nat) : Nat := [37, 38, 39, 40, 41, 42, 43, 44, 45, 46, 47, 48, 49, 50, 51, 52, 53, 54, 55, 56, 57, 58, 59, 60, 61, 62, 63, 64, 2].getD i 0
def evFr (D4 D7 : Nat) (u0 u1 u8 u10 u11 u12 u13 u14 u15 u16 u17 u18 u19 u20 u21 u22 u23 u24 u25 u26 u27 u28 u29 u30 u31 u32 u33 u34 u35 u36 : Value) (vs : Nat → Value) : Act := ⟨#[u0, u1, vs 2, .bool true, .pointer (some ⟨D4, 0, none⟩), .bool false, .int .i64 0, .pointer (some ⟨D7, 0, none⟩), u8, .int .i64 0, u10, u11, u12, u13, u14, u15, u16, u17, u18, u19, u20, u21, u22, u23, u24, u25, u26, u27, u28, u29, u30, u31, u32, u33, u34, u35, u36, vs 37, vs 38, vs 39, vs 40, vs 41, vs 42, vs 43, vs 44, vs 45, vs 46, vs 47, vs 48, vs 49, vs 50, vs 51, vs 52, vs 53, vs 54, vs 55, vs 56, vs 57, vs 58, vs 59, vs 60, vs 61, vs 62, vs 63, vs 64], []⟩
def evT (C : Int) (ao4 ao7 : Option Addr) (n4 cap4 n7 cap7 : Nat) (zs : List Int) : Nat → Value → World → Prop
  | 19, v, w => ∃ sl, v = .agg #[.int .i64 C, .int .i64 C, sl] ∧ Sees w sl zs
  | i, v, _ => v = ([.bool true, .bool true, .int .i64 0, .bool true, .bool true, .bool true, .int .i64 0, .bool true, .bool true, .bool true, .bool false, .bool true, .bool true, .bool true, .agg #[.int .i64 C, .int .i64 C, .slice ao4 n4 cap4], .bool true, .bool true, .bool true, .agg #[.int .i64 C, .int .i64 C, .slice ao4 n4 cap4], undef, .agg #[.int .i64 C, .int .i64 C, .slice ao4 n4 cap4], .bool true, .bool true, .bool true, .agg #[.int .i64 C, .int .i64 C, .slice ao7 n7 cap7], .agg #[.int .i64 C, .int .i64 C, .slice ao4 n4 cap4], .bool true, .bool true, .bool true] : List Value).getD i undef
theorem evT_mono (C : Int) (ao4 ao7 : Option Addr) (n4 cap4 n7 cap7 : Nat) (zs : List Int) : ∀ i v w w', evT C ao4 ao7 n4 cap4 n7 cap7 zs i v w → Below w.heap.size w w' → evT C ao4 ao7 n4 cap4 n7 cap7 zs i v w' := by
  intro i v w w' h hb
  unfold evT at *
  split
  · obtain ⟨sl, h1, h2⟩ := h; exact ⟨sl, h1, h2.below hb⟩
  · simp_all
set_option maxRecDepth 40000 in
set_option maxHeartbeats 4000000 in
theorem ev_region {Q : Exit → Act → World → Prop} {w0 : World} {D4 D7 : Nat} {u0 u1 u8 u10 u11 u12 u13 u14 u15 u16 u17 u18 u19 u20 u21 u22 u23 u24 u25 u26 u27 u28 u29 u30 u31 u32 u33 u34 u35 u36 : Value} {C : Int} {ao4 ao7 : Option Addr} {n4 cap4 n7 cap7 : Nat} {zs : List Int}
    (x4 : w0.heap[D4]? = some (.cells #[.int .i64 C, .int .i64 C, .slice ao4 n4 cap4] 24 (0, 0)))
    (x7 : w0.heap[D7]? = some (.cells #[.int .i64 C, .int .i64 C, .slice ao7 n7 cap7] 24 (0, 0)))
    (c15 : ∀ w, Below w0.heap.size w0 w → Calls Try.prog 11 #[.agg #[.int .i64 C, .int .i64 C, .slice ao4 n4 cap4]] w fun e b => e = .returned (.bool true) ∧ Below w.heap.size w b)
    (c19 : ∀ w, Below w0.heap.size w0 w → Calls Try.prog 29 #[.agg #[.int .i64 C, .int .i64 C, .slice ao4 n4 cap4]] w fun e b => ∃ sl, e = .returned (.agg #[.int .i64 C, .int .i64 C, sl]) ∧ Sees b sl zs ∧ Below w.heap.size w b)
    (c21 : ∀ w sl, Below w0.heap.size w0 w → Sees w sl zs → Calls Try.prog 18 #[.agg #[.int .i64 C, .int .i64 C, sl], .agg #[.int .i64 C, .int .i64 C, .slice ao4 n4 cap4]] w fun e b => e = .returned (.bool true) ∧ Below w.heap.size w b)
    (c26 : ∀ w, Below w0.heap.size w0 w → Calls Try.prog 18 #[.agg #[.int .i64 C, .int .i64 C, .slice ao7 n7 cap7], .agg #[.int .i64 C, .int .i64 C, .slice ao4 n4 cap4]] w fun e b => e = .returned (.bool true) ∧ Below w.heap.size w b)
    (hQ : ∀ vs w, Below w0.heap.size w0 w → vs 2 = .bool true → Q .normal (evFr D4 D7 u0 u1 u8 u10 u11 u12 u13 u14 u15 u16 u17 u18 u19 u20 u21 u22 u23 u24 u25 u26 u27 u28 u29 u30 u31 u32 u33 u34 u35 u36 vs) w) : (Code.region 8 evOps true).wp Try.prog Q (evFr D4 D7 u0 u1 u8 u10 u11 u12 u13 u14 u15 u16 u17 u18 u19 u20 u21 u22 u23 u24 u25 u26 u27 u28 u29 u30 u31 u32 u33 u34 u35 u36 (fun k => if k = 2 then .bool false else undef)) w0 := by
  refine wp_region_vals (by kernel_rfl) (by decide) evDst (by decide) (evFr D4 D7 u0 u1 u8 u10 u11 u12 u13 u14 u15 u16 u17 u18 u19 u20 u21 u22 u23 u24 u25 u26 u27 u28 u29 u30 u31 u32 u33 u34 u35 u36) (evT C ao4 ao7 n4 cap4 n7 cap7 zs) (evT_mono C ao4 ao7 n4 cap4 n7 cap7 zs) _ ?_ ?_
  · intro i hi vs w hb hp
    have hi' : i < 29 := hi
    rcases (by omega : i = 0 ∨ i = 1 ∨ i = 2 ∨ i = 3 ∨ i = 4 ∨ i = 5 ∨ i = 6 ∨ i = 7 ∨ i = 8 ∨ i = 9 ∨ i = 10 ∨ i = 11 ∨ i = 12 ∨ i = 13 ∨ i = 14 ∨ i = 15 ∨ i = 16 ∨ i = 17 ∨ i = 18 ∨ i = 19 ∨ i = 20 ∨ i = 21 ∨ i = 22 ∨ i = 23 ∨ i = 24 ∨ i = 25 ∨ i = 26 ∨ i = 27 ∨ i = 28) with rfl | rfl | rfl | rfl | rfl | rfl | rfl | rfl | rfl | rfl | rfl | rfl | rfl | rfl | rfl | rfl | rfl | rfl | rfl | rfl | rfl | rfl | rfl | rfl | rfl | rfl | rfl | rfl | rfl
    · exact wpOp_of _ rfl rfl (op_move rfl rfl ⟨_, rfl, rfl, Below.refl _ _⟩)
    · have h0 : vs 37 = .bool true := hp 0 (by decide)
      exact wpOp_of _ rfl rfl (op_move rfl h0 ⟨_, rfl, rfl, Below.refl _ _⟩)
    · have h1 : vs 38 = .bool true := hp 1 (by decide)
      exact wpOp_guard _ rfl 1 true rfl 38 rfl (congrArg some h1) (op_move rfl rfl ⟨_, rfl, rfl, Below.refl _ _⟩)
    · have h1 : vs 38 = .bool true := hp 1 (by decide)
      have h2 : vs 39 = .int .i64 0 := hp 2 (by decide)
      exact wpOp_guard _ rfl 1 true rfl 38 rfl (congrArg some h1) (op_eql27 rfl h2 ⟨_, rfl, rfl, Below.refl _ _⟩)
    · have h1 : vs 38 = .bool true := hp 1 (by decide)
      have h3 : vs 40 = .bool true := hp 3 (by decide)
      exact wpOp_of _ rfl rfl (op_pick_t rfl h1 h3 ⟨_, rfl, rfl, Below.refl _ _⟩)
    · have h4 : vs 41 = .bool true := hp 4 (by decide)
      exact wpOp_of _ rfl rfl (op_move rfl h4 ⟨_, rfl, rfl, Below.refl _ _⟩)
    · have h5 : vs 42 = .bool true := hp 5 (by decide)
      exact wpOp_guard _ rfl 5 true rfl 42 rfl (congrArg some h5) (op_move rfl rfl ⟨_, rfl, rfl, Below.refl _ _⟩)
    · have h5 : vs 42 = .bool true := hp 5 (by decide)
      have h6 : vs 43 = .int .i64 0 := hp 6 (by decide)
      exact wpOp_guard _ rfl 5 true rfl 42 rfl (congrArg some h5) (op_eql27 rfl h6 ⟨_, rfl, rfl, Below.refl _ _⟩)
    · have h5 : vs 42 = .bool true := hp 5 (by decide)
      have h7 : vs 44 = .bool true := hp 7 (by decide)
      exact wpOp_of _ rfl rfl (op_pick_t rfl h5 h7 ⟨_, rfl, rfl, Below.refl _ _⟩)
    · have h8 : vs 45 = .bool true := hp 8 (by decide)
      exact wpOp_of _ rfl rfl (op_move rfl h8 ⟨_, rfl, rfl, Below.refl _ _⟩)
    · have h9 : vs 46 = .bool true := hp 9 (by decide)
      exact wpOp_guard _ rfl 9 true rfl 46 rfl (congrArg some h9) (op_move rfl rfl ⟨_, rfl, rfl, Below.refl _ _⟩)
    · have h9 : vs 46 = .bool true := hp 9 (by decide)
      have h10 : vs 47 = .bool false := hp 10 (by decide)
      exact wpOp_guard _ rfl 9 true rfl 46 rfl (congrArg some h9) (op_not rfl h10 ⟨_, rfl, rfl, Below.refl _ _⟩)
    · have h9 : vs 46 = .bool true := hp 9 (by decide)
      have h11 : vs 48 = .bool true := hp 11 (by decide)
      exact wpOp_of _ rfl rfl (op_pick_t rfl h9 h11 ⟨_, rfl, rfl, Below.refl _ _⟩)
    · have h12 : vs 49 = .bool true := hp 12 (by decide)
      exact wpOp_of _ rfl rfl (op_move rfl h12 ⟨_, rfl, rfl, Below.refl _ _⟩)
    · have h13 : vs 50 = .bool true := hp 13 (by decide)
      exact wpOp_guard _ rfl 13 true rfl 50 rfl (congrArg some h13) (op_load rfl rfl (keep hb x4) ⟨_, rfl, rfl, Below.refl _ _⟩)
    · have h13 : vs 50 = .bool true := hp 13 (by decide)
      have h14 : vs 51 = .agg #[.int .i64 C, .int .i64 C, .slice ao4 n4 cap4] := hp 14 (by decide)
      exact wpOp_guard _ rfl 13 true rfl 50 rfl (congrArg some h13) (op_call1 enters11 rfl h14 (c15 w hb) (fun e w' h => ⟨_, h.1, _, rfl, rfl, h.2⟩))
    · have h13 : vs 50 = .bool true := hp 13 (by decide)
      have h15 : vs 52 = .bool true := hp 15 (by decide)
      exact wpOp_of _ rfl rfl (op_pick_t rfl h13 h15 ⟨_, rfl, rfl, Below.refl _ _⟩)
    · have h16 : vs 53 = .bool true := hp 16 (by decide)
      exact wpOp_of _ rfl rfl (op_move rfl h16 ⟨_, rfl, rfl, Below.refl _ _⟩)
    · have h17 : vs 54 = .bool true := hp 17 (by decide)
      exact wpOp_guard _ rfl 17 true rfl 54 rfl (congrArg some h17) (op_load rfl rfl (keep hb x4) ⟨_, rfl, rfl, Below.refl _ _⟩)
    · have h17 : vs 54 = .bool true := hp 17 (by decide)
      have h18 : vs 55 = .agg #[.int .i64 C, .int .i64 C, .slice ao4 n4 cap4] := hp 18 (by decide)
      exact wpOp_guard _ rfl 17 true rfl 54 rfl (congrArg some h17) (op_call1 enters29 rfl h18 (c19 w hb) (fun e w' ⟨sl, h1, h2, h3⟩ => ⟨_, h1, _, rfl, ⟨sl, rfl, h2⟩, h3⟩))
    · have h17 : vs 54 = .bool true := hp 17 (by decide)
      exact wpOp_guard _ rfl 17 true rfl 54 rfl (congrArg some h17) (op_load rfl rfl (keep hb x4) ⟨_, rfl, rfl, Below.refl _ _⟩)
    · have h17 : vs 54 = .bool true := hp 17 (by decide)
      obtain ⟨sl19, h19, s19⟩ : ∃ sl, vs 56 = .agg #[.int .i64 C, .int .i64 C, sl] ∧ Sees w sl zs := hp 19 (by decide)
      have h20 : vs 57 = .agg #[.int .i64 C, .int .i64 C, .slice ao4 n4 cap4] := hp 20 (by decide)
      exact wpOp_guard _ rfl 17 true rfl 54 rfl (congrArg some h17) (op_call2 enters18 rfl h19 h20 (c21 w sl19 hb s19) (fun e w' h => ⟨_, h.1, _, rfl, rfl, h.2⟩))
    · have h17 : vs 54 = .bool true := hp 17 (by decide)
      have h21 : vs 58 = .bool true := hp 21 (by decide)
      exact wpOp_of _ rfl rfl (op_pick_t rfl h17 h21 ⟨_, rfl, rfl, Below.refl _ _⟩)
    · have h22 : vs 59 = .bool true := hp 22 (by decide)
      exact wpOp_of _ rfl rfl (op_move rfl h22 ⟨_, rfl, rfl, Below.refl _ _⟩)
    · have h23 : vs 60 = .bool true := hp 23 (by decide)
      exact wpOp_guard _ rfl 23 true rfl 60 rfl (congrArg some h23) (op_load rfl rfl (keep hb x7) ⟨_, rfl, rfl, Below.refl _ _⟩)
    · have h23 : vs 60 = .bool true := hp 23 (by decide)
      exact wpOp_guard _ rfl 23 true rfl 60 rfl (congrArg some h23) (op_load rfl rfl (keep hb x4) ⟨_, rfl, rfl, Below.refl _ _⟩)
    · have h23 : vs 60 = .bool true := hp 23 (by decide)
      have h24 : vs 61 = .agg #[.int .i64 C, .int .i64 C, .slice ao7 n7 cap7] := hp 24 (by decide)
      have h25 : vs 62 = .agg #[.int .i64 C, .int .i64 C, .slice ao4 n4 cap4] := hp 25 (by decide)
      exact wpOp_guard _ rfl 23 true rfl 60 rfl (congrArg some h23) (op_call2 enters18 rfl h24 h25 (c26 w hb) (fun e w' h => ⟨_, h.1, _, rfl, rfl, h.2⟩))
    · have h23 : vs 60 = .bool true := hp 23 (by decide)
      have h26 : vs 63 = .bool true := hp 26 (by decide)
      exact wpOp_of _ rfl rfl (op_pick_t rfl h23 h26 ⟨_, rfl, rfl, Below.refl _ _⟩)
    · have h27 : vs 64 = .bool true := hp 27 (by decide)
      exact wpOp_of _ rfl rfl (op_assign rfl h27 ⟨_, rfl, rfl, Below.refl _ _⟩)
  · intro vs w hb hT
    exact hQ vs w hb (hT 28 (by decide))
end Go.Proofs.Yteohdhmimpajmaa
