/-
  The regions of MatTurns that draw their order and write nothing: what they leave, whatever the order.
-/
import Derived.Test.YteohdhmimpajmaaEvR
namespace Go.Proofs.Yteohdhmimpajmaa
open Go.RowKit Go.Sort Qm

theorem enters24 : ∀ (args : Array Value) (a : World), Sem.run Try.prog (callFunc 24 args) a = Result.ok (Next.enter 24 args) a := by
  intro args a
  simp [callFunc, Try.func24, go_sem]
  rfl
def tuOps : Array Oper := #[
    { dst := some 40, op := Op.load 24 (Operand.tmp 2), type := 24, pos := "law.go:77", after := #[], guard := none },
    { dst := some 41, op := Op.call { callee := Callee.value (Operand.func 29), args := #[Operand.tmp 40], argTypes := #[24] }, type := 24, pos := "law.go:77", after := #[{ on := 0, ground := Ground.data }], guard := none },
    { dst := some 42, op := Op.call { callee := Callee.value (Operand.func 29), args := #[Operand.tmp 41], argTypes := #[24] }, type := 24, pos := "law.go:77", after := #[{ on := 1, ground := Ground.data }, { on := 1, ground := Ground.chain }], guard := none },
    { dst := some 43, op := Op.load 24 (Operand.tmp 2), type := 24, pos := "law.go:77", after := #[], guard := none },
    { dst := some 44, op := Op.call { callee := Callee.value (Operand.func 18), args := #[Operand.tmp 42, Operand.tmp 43], argTypes := #[24, 24] }, type := 4, pos := "law.go:77", after := #[{ on := 2, ground := Ground.data }, { on := 3, ground := Ground.data }, { on := 2, ground := Ground.chain }], guard := none },
    { dst := some 45, op := Op.unOp UnOp.not 4 (Operand.tmp 44), type := 4, pos := "law.go:77", after := #[{ on := 4, ground := Ground.data }], guard := none },
    { dst := some 46, op := Op.move (Operand.tmp 45), type := 4, pos := "law.go:77", after := #[{ on := 5, ground := Ground.data }, { on := 4, ground := Ground.chain }], guard := none },
    { dst := some 47, op := Op.move (Operand.tmp 10), type := 27, pos := "law.go:77", after := #[{ on := 6, ground := Ground.guard }], guard := some (6, false) },
    { dst := some 48, op := Op.binOp BinOp.neq 27 (Operand.tmp 47) (Operand.const (Value.int IntKind.i64 0)) 27, type := 4, pos := "law.go:77", after := #[{ on := 7, ground := Ground.data }, { on := 6, ground := Ground.guard }], guard := some (6, false) },
    { dst := some 49, op := Op.pick (Operand.tmp 46) (Operand.const (Value.bool true)) (Operand.tmp 48), type := 4, pos := "law.go:77", after := #[{ on := 6, ground := Ground.data }, { on := 8, ground := Ground.data }], guard := none },
    { dst := some 50, op := Op.move (Operand.tmp 49), type := 4, pos := "law.go:77", after := #[{ on := 9, ground := Ground.data }, { on := 6, ground := Ground.chain }], guard := none },
    { dst := some 51, op := Op.move (Operand.tmp 9), type := 4, pos := "law.go:77", after := #[{ on := 10, ground := Ground.guard }], guard := some (10, false) },
    { dst := some 52, op := Op.pick (Operand.tmp 50) (Operand.const (Value.bool true)) (Operand.tmp 51), type := 4, pos := "law.go:77", after := #[{ on := 10, ground := Ground.data }, { on := 11, ground := Ground.data }], guard := none },
    { dst := some 53, op := Op.move (Operand.tmp 52), type := 4, pos := "law.go:77", after := #[{ on := 12, ground := Ground.data }, { on := 10, ground := Ground.chain }], guard := none },
    { dst := some 54, op := Op.load 24 (Operand.tmp 8), type := 24, pos := "law.go:77", after := #[{ on := 13, ground := Ground.guard }], guard := some (13, false) },
    { dst := some 55, op := Op.load 24 (Operand.tmp 2), type := 24, pos := "law.go:77", after := #[{ on := 13, ground := Ground.guard }], guard := some (13, false) },
    { dst := some 56, op := Op.call { callee := Callee.value (Operand.func 18), args := #[Operand.tmp 54, Operand.tmp 55], argTypes := #[24, 24] }, type := 4, pos := "law.go:77", after := #[{ on := 14, ground := Ground.data }, { on := 15, ground := Ground.data }, { on := 13, ground := Ground.chain }, { on := 13, ground := Ground.guard }], guard := some (13, false) },
    { dst := some 57, op := Op.unOp UnOp.not 4 (Operand.tmp 56), type := 4, pos := "law.go:77", after := #[{ on := 16, ground := Ground.data }, { on := 13, ground := Ground.guard }], guard := some (13, false) },
    { dst := some 58, op := Op.pick (Operand.tmp 53) (Operand.const (Value.bool true)) (Operand.tmp 57), type := 4, pos := "law.go:77", after := #[{ on := 13, ground := Ground.data }, { on := 17, ground := Ground.data }], guard := none }]
def tuDst (i : Nat) : Nat := [40, 41, 42, 43, 44, 45, 46, 47, 48, 49, 50, 51, 52, 53, 54, 55, 56, 57, 58].getD i 0
def tuFr (D2 D8 : Nat) (u0 u1 u3 u4 u5 u6 u7 u11 u12 u13 u14 u15 u16 u17 u18 u19 u20 u21 u22 u23 u24 u25 u26 u27 u28 u29 u30 u31 u32 u33 u34 u35 u36 u37 u38 u39 u59 u60 u61 u62 u63 u64 u65 u66 u67 u68 u69 u70 u71 u72 u73 u74 u75 u76 u77 u78 u79 u80 u81 u82 u83 u84 u85 u86 u87 u88 u89 u90 u91 u92 u93 u94 u95 u96 u97 u98 u99 u100 u101 u102 u103 u104 : Value) (vs : Nat → Value) : Act := ⟨#[u0, u1, .pointer (some ⟨D2, 0, none⟩), u3, u4, u5, u6, u7, .pointer (some ⟨D8, 0, none⟩), .bool false, .int .i64 0, u11, u12, u13, u14, u15, u16, u17, u18, u19, u20, u21, u22, u23, u24, u25, u26, u27, u28, u29, u30, u31, u32, u33, u34, u35, u36, u37, u38, u39, vs 40, vs 41, vs 42, vs 43, vs 44, vs 45, vs 46, vs 47, vs 48, vs 49, vs 50, vs 51, vs 52, vs 53, vs 54, vs 55, vs 56, vs 57, vs 58, u59, u60, u61, u62, u63, u64, u65, u66, u67, u68, u69, u70, u71, u72, u73, u74, u75, u76, u77, u78, u79, u80, u81, u82, u83, u84, u85, u86, u87, u88, u89, u90, u91, u92, u93, u94, u95, u96, u97, u98, u99, u100, u101, u102, u103, u104], []⟩
def tuT (ra ca : Int) (ao2 ao8 : Option Addr) (n2 cap2 n8 cap8 : Nat) (zs xs : List Int) : Nat → Value → World → Prop
  | 1, v, w => ∃ sl, v = .agg #[.int .i64 ca, .int .i64 ra, sl] ∧ Sees w sl zs
  | 2, v, w => ∃ sl, v = .agg #[.int .i64 ra, .int .i64 ca, sl] ∧ Sees w sl xs
  | i, v, _ => v = ([.agg #[.int .i64 ra, .int .i64 ca, .slice ao2 n2 cap2], undef, undef, .agg #[.int .i64 ra, .int .i64 ca, .slice ao2 n2 cap2], .bool true, .bool false, .bool false, .int .i64 0, .bool false, .bool false, .bool false, .bool false, .bool false, .bool false, .agg #[.int .i64 ra, .int .i64 ca, .slice ao8 n8 cap8], .agg #[.int .i64 ra, .int .i64 ca, .slice ao2 n2 cap2], .bool true, .bool false, .bool false] : List Value).getD i undef
theorem tuT_mono (ra ca : Int) (ao2 ao8 : Option Addr) (n2 cap2 n8 cap8 : Nat) (zs xs : List Int) : ∀ i v w w', tuT ra ca ao2 ao8 n2 cap2 n8 cap8 zs xs i v w → Below w.heap.size w w' → tuT ra ca ao2 ao8 n2 cap2 n8 cap8 zs xs i v w' := by
  intro i v w w' h hb
  unfold tuT at *
  split
  · obtain ⟨sl, h1, h2⟩ := h; exact ⟨sl, h1, h2.below hb⟩
  · obtain ⟨sl, h1, h2⟩ := h; exact ⟨sl, h1, h2.below hb⟩
  · simp_all
set_option maxRecDepth 40000 in
set_option maxHeartbeats 4000000 in
theorem tu_region {Q : Exit → Act → World → Prop} {w0 : World} {D2 D8 : Nat} {u0 u1 u3 u4 u5 u6 u7 u11 u12 u13 u14 u15 u16 u17 u18 u19 u20 u21 u22 u23 u24 u25 u26 u27 u28 u29 u30 u31 u32 u33 u34 u35 u36 u37 u38 u39 u59 u60 u61 u62 u63 u64 u65 u66 u67 u68 u69 u70 u71 u72 u73 u74 u75 u76 u77 u78 u79 u80 u81 u82 u83 u84 u85 u86 u87 u88 u89 u90 u91 u92 u93 u94 u95 u96 u97 u98 u99 u100 u101 u102 u103 u104 : Value} {ra ca : Int} {ao2 ao8 : Option Addr} {n2 cap2 n8 cap8 : Nat} {zs xs : List Int}
    (x2 : w0.heap[D2]? = some (.cells #[.int .i64 ra, .int .i64 ca, .slice ao2 n2 cap2] 24 (0, 0)))
    (x8 : w0.heap[D8]? = some (.cells #[.int .i64 ra, .int .i64 ca, .slice ao8 n8 cap8] 24 (0, 0)))
    (cA : ∀ w, Below w0.heap.size w0 w → Calls Try.prog 29 #[.agg #[.int .i64 ra, .int .i64 ca, .slice ao2 n2 cap2]] w fun e b => ∃ sl, e = .returned (.agg #[.int .i64 ca, .int .i64 ra, sl]) ∧ Sees b sl zs ∧ Below w.heap.size w b)
    (cB : ∀ w sl, Below w0.heap.size w0 w → Sees w sl zs → Calls Try.prog 29 #[.agg #[.int .i64 ca, .int .i64 ra, sl]] w fun e b => ∃ sl, e = .returned (.agg #[.int .i64 ra, .int .i64 ca, sl]) ∧ Sees b sl xs ∧ Below w.heap.size w b)
    (cC : ∀ w sl, Below w0.heap.size w0 w → Sees w sl xs → Calls Try.prog 18 #[.agg #[.int .i64 ra, .int .i64 ca, sl], .agg #[.int .i64 ra, .int .i64 ca, .slice ao2 n2 cap2]] w fun e b => e = .returned (.bool true) ∧ Below w.heap.size w b)
    (cD : ∀ w, Below w0.heap.size w0 w → Calls Try.prog 18 #[.agg #[.int .i64 ra, .int .i64 ca, .slice ao8 n8 cap8], .agg #[.int .i64 ra, .int .i64 ca, .slice ao2 n2 cap2]] w fun e b => e = .returned (.bool true) ∧ Below w.heap.size w b)
    (hQ : ∀ vs w, Below w0.heap.size w0 w → vs 58 = .bool false → Q .normal (tuFr D2 D8 u0 u1 u3 u4 u5 u6 u7 u11 u12 u13 u14 u15 u16 u17 u18 u19 u20 u21 u22 u23 u24 u25 u26 u27 u28 u29 u30 u31 u32 u33 u34 u35 u36 u37 u38 u39 u59 u60 u61 u62 u63 u64 u65 u66 u67 u68 u69 u70 u71 u72 u73 u74 u75 u76 u77 u78 u79 u80 u81 u82 u83 u84 u85 u86 u87 u88 u89 u90 u91 u92 u93 u94 u95 u96 u97 u98 u99 u100 u101 u102 u103 u104 vs) w) : (Code.region 6 tuOps true).wp Try.prog Q (tuFr D2 D8 u0 u1 u3 u4 u5 u6 u7 u11 u12 u13 u14 u15 u16 u17 u18 u19 u20 u21 u22 u23 u24 u25 u26 u27 u28 u29 u30 u31 u32 u33 u34 u35 u36 u37 u38 u39 u59 u60 u61 u62 u63 u64 u65 u66 u67 u68 u69 u70 u71 u72 u73 u74 u75 u76 u77 u78 u79 u80 u81 u82 u83 u84 u85 u86 u87 u88 u89 u90 u91 u92 u93 u94 u95 u96 u97 u98 u99 u100 u101 u102 u103 u104 (fun _ => undef)) w0 := by
  refine wp_region_vals (by kernel_rfl) (by decide) tuDst (by decide) (tuFr D2 D8 u0 u1 u3 u4 u5 u6 u7 u11 u12 u13 u14 u15 u16 u17 u18 u19 u20 u21 u22 u23 u24 u25 u26 u27 u28 u29 u30 u31 u32 u33 u34 u35 u36 u37 u38 u39 u59 u60 u61 u62 u63 u64 u65 u66 u67 u68 u69 u70 u71 u72 u73 u74 u75 u76 u77 u78 u79 u80 u81 u82 u83 u84 u85 u86 u87 u88 u89 u90 u91 u92 u93 u94 u95 u96 u97 u98 u99 u100 u101 u102 u103 u104) (tuT ra ca ao2 ao8 n2 cap2 n8 cap8 zs xs) (tuT_mono ra ca ao2 ao8 n2 cap2 n8 cap8 zs xs) _ ?_ ?_
  · intro i hi vs w hb hp
    have hi' : i < 19 := hi
    rcases (by omega : i = 0 ∨ i = 1 ∨ i = 2 ∨ i = 3 ∨ i = 4 ∨ i = 5 ∨ i = 6 ∨ i = 7 ∨ i = 8 ∨ i = 9 ∨ i = 10 ∨ i = 11 ∨ i = 12 ∨ i = 13 ∨ i = 14 ∨ i = 15 ∨ i = 16 ∨ i = 17 ∨ i = 18) with rfl | rfl | rfl | rfl | rfl | rfl | rfl | rfl | rfl | rfl | rfl | rfl | rfl | rfl | rfl | rfl | rfl | rfl | rfl
    · exact wpOp_of _ rfl rfl (op_load rfl rfl (keep hb x2) ⟨_, rfl, rfl, Below.refl _ _⟩)
    · have h0 : vs 40 = .agg #[.int .i64 ra, .int .i64 ca, .slice ao2 n2 cap2] := hp 0 (by decide)
      exact wpOp_of _ rfl rfl (op_call1 enters29 rfl h0 (cA w hb) (fun e w' ⟨sl, h1, h2, h3⟩ => ⟨_, h1, _, rfl, ⟨sl, rfl, h2⟩, h3⟩))
    · obtain ⟨sl1, h1, s1⟩ : ∃ sl, vs 41 = .agg #[.int .i64 ca, .int .i64 ra, sl] ∧ Sees w sl zs := hp 1 (by decide)
      exact wpOp_of _ rfl rfl (op_call1 enters29 rfl h1 (cB w sl1 hb s1) (fun e w' ⟨sl, h1, h2, h3⟩ => ⟨_, h1, _, rfl, ⟨sl, rfl, h2⟩, h3⟩))
    · exact wpOp_of _ rfl rfl (op_load rfl rfl (keep hb x2) ⟨_, rfl, rfl, Below.refl _ _⟩)
    · obtain ⟨sl2, h2, s2⟩ : ∃ sl, vs 42 = .agg #[.int .i64 ra, .int .i64 ca, sl] ∧ Sees w sl xs := hp 2 (by decide)
      have h3 : vs 43 = .agg #[.int .i64 ra, .int .i64 ca, .slice ao2 n2 cap2] := hp 3 (by decide)
      exact wpOp_of _ rfl rfl (op_call2 enters18 rfl h2 h3 (cC w sl2 hb s2) (fun e w' h => ⟨_, h.1, _, rfl, rfl, h.2⟩))
    · have h4 : vs 44 = .bool true := hp 4 (by decide)
      exact wpOp_of _ rfl rfl (op_not rfl h4 ⟨_, rfl, rfl, Below.refl _ _⟩)
    · have h5 : vs 45 = .bool false := hp 5 (by decide)
      exact wpOp_of _ rfl rfl (op_move rfl h5 ⟨_, rfl, rfl, Below.refl _ _⟩)
    · have h6 : vs 46 = .bool false := hp 6 (by decide)
      exact wpOp_guard _ rfl 6 false rfl 46 rfl (congrArg some h6) (op_move rfl rfl ⟨_, rfl, rfl, Below.refl _ _⟩)
    · have h6 : vs 46 = .bool false := hp 6 (by decide)
      have h7 : vs 47 = .int .i64 0 := hp 7 (by decide)
      exact wpOp_guard _ rfl 6 false rfl 46 rfl (congrArg some h6) (op_neq27 rfl h7 ⟨_, rfl, rfl, Below.refl _ _⟩)
    · have h6 : vs 46 = .bool false := hp 6 (by decide)
      have h8 : vs 48 = .bool false := hp 8 (by decide)
      exact wpOp_of _ rfl rfl (op_pick_f rfl h6 h8 ⟨_, rfl, rfl, Below.refl _ _⟩)
    · have h9 : vs 49 = .bool false := hp 9 (by decide)
      exact wpOp_of _ rfl rfl (op_move rfl h9 ⟨_, rfl, rfl, Below.refl _ _⟩)
    · have h10 : vs 50 = .bool false := hp 10 (by decide)
      exact wpOp_guard _ rfl 10 false rfl 50 rfl (congrArg some h10) (op_move rfl rfl ⟨_, rfl, rfl, Below.refl _ _⟩)
    · have h10 : vs 50 = .bool false := hp 10 (by decide)
      have h11 : vs 51 = .bool false := hp 11 (by decide)
      exact wpOp_of _ rfl rfl (op_pick_f rfl h10 h11 ⟨_, rfl, rfl, Below.refl _ _⟩)
    · have h12 : vs 52 = .bool false := hp 12 (by decide)
      exact wpOp_of _ rfl rfl (op_move rfl h12 ⟨_, rfl, rfl, Below.refl _ _⟩)
    · have h13 : vs 53 = .bool false := hp 13 (by decide)
      exact wpOp_guard _ rfl 13 false rfl 53 rfl (congrArg some h13) (op_load rfl rfl (keep hb x8) ⟨_, rfl, rfl, Below.refl _ _⟩)
    · have h13 : vs 53 = .bool false := hp 13 (by decide)
      exact wpOp_guard _ rfl 13 false rfl 53 rfl (congrArg some h13) (op_load rfl rfl (keep hb x2) ⟨_, rfl, rfl, Below.refl _ _⟩)
    · have h13 : vs 53 = .bool false := hp 13 (by decide)
      have h14 : vs 54 = .agg #[.int .i64 ra, .int .i64 ca, .slice ao8 n8 cap8] := hp 14 (by decide)
      have h15 : vs 55 = .agg #[.int .i64 ra, .int .i64 ca, .slice ao2 n2 cap2] := hp 15 (by decide)
      exact wpOp_guard _ rfl 13 false rfl 53 rfl (congrArg some h13) (op_call2 enters18 rfl h14 h15 (cD w hb) (fun e w' h => ⟨_, h.1, _, rfl, rfl, h.2⟩))
    · have h13 : vs 53 = .bool false := hp 13 (by decide)
      have h16 : vs 56 = .bool true := hp 16 (by decide)
      exact wpOp_guard _ rfl 13 false rfl 53 rfl (congrArg some h13) (op_not rfl h16 ⟨_, rfl, rfl, Below.refl _ _⟩)
    · have h13 : vs 53 = .bool false := hp 13 (by decide)
      have h17 : vs 57 = .bool false := hp 17 (by decide)
      exact wpOp_of _ rfl rfl (op_pick_f rfl h13 h17 ⟨_, rfl, rfl, Below.refl _ _⟩)
  · intro vs w hb hT
    exact hQ vs w hb (hT 18 (by decide))
def tvOps : Array Oper := #[
    { dst := some 81, op := Op.move (Operand.tmp 5), type := 4, pos := "law.go:85", after := #[], guard := none },
    { dst := some 82, op := Op.move (Operand.tmp 81), type := 4, pos := "law.go:85", after := #[{ on := 0, ground := Ground.data }], guard := none },
    { dst := some 83, op := Op.move (Operand.tmp 13), type := 27, pos := "law.go:85", after := #[{ on := 1, ground := Ground.guard }], guard := some (1, true) },
    { dst := some 84, op := Op.binOp BinOp.eql 27 (Operand.tmp 83) (Operand.const (Value.int IntKind.i64 0)) 27, type := 4, pos := "law.go:85", after := #[{ on := 2, ground := Ground.data }, { on := 1, ground := Ground.guard }], guard := some (1, true) },
    { dst := some 85, op := Op.pick (Operand.tmp 82) (Operand.tmp 84) (Operand.const (Value.bool false)), type := 4, pos := "law.go:85", after := #[{ on := 1, ground := Ground.data }, { on := 3, ground := Ground.data }], guard := none },
    { dst := some 86, op := Op.move (Operand.tmp 85), type := 4, pos := "law.go:85", after := #[{ on := 4, ground := Ground.data }, { on := 1, ground := Ground.chain }], guard := none },
    { dst := some 87, op := Op.move (Operand.tmp 16), type := 27, pos := "law.go:85", after := #[{ on := 5, ground := Ground.guard }], guard := some (5, true) },
    { dst := some 88, op := Op.binOp BinOp.eql 27 (Operand.tmp 87) (Operand.const (Value.int IntKind.i64 0)) 27, type := 4, pos := "law.go:85", after := #[{ on := 6, ground := Ground.data }, { on := 5, ground := Ground.guard }], guard := some (5, true) },
    { dst := some 89, op := Op.pick (Operand.tmp 86) (Operand.tmp 88) (Operand.const (Value.bool false)), type := 4, pos := "law.go:85", after := #[{ on := 5, ground := Ground.data }, { on := 7, ground := Ground.data }], guard := none },
    { dst := some 90, op := Op.move (Operand.tmp 89), type := 4, pos := "law.go:85", after := #[{ on := 8, ground := Ground.data }, { on := 5, ground := Ground.chain }], guard := none },
    { dst := some 91, op := Op.move (Operand.tmp 12), type := 4, pos := "law.go:85", after := #[{ on := 9, ground := Ground.guard }], guard := some (9, true) },
    { dst := some 92, op := Op.move (Operand.tmp 15), type := 4, pos := "law.go:85", after := #[{ on := 9, ground := Ground.guard }], guard := some (9, true) },
    { dst := some 93, op := Op.binOp BinOp.eql 4 (Operand.tmp 91) (Operand.tmp 92) 4, type := 4, pos := "law.go:85", after := #[{ on := 10, ground := Ground.data }, { on := 11, ground := Ground.data }, { on := 9, ground := Ground.guard }], guard := some (9, true) },
    { dst := some 94, op := Op.pick (Operand.tmp 90) (Operand.tmp 93) (Operand.const (Value.bool false)), type := 4, pos := "law.go:85", after := #[{ on := 9, ground := Ground.data }, { on := 12, ground := Ground.data }], guard := none },
    { dst := some 95, op := Op.move (Operand.tmp 94), type := 4, pos := "law.go:85", after := #[{ on := 13, ground := Ground.data }, { on := 9, ground := Ground.chain }], guard := none },
    { dst := some 96, op := Op.load 24 (Operand.tmp 11), type := 24, pos := "law.go:85", after := #[{ on := 14, ground := Ground.guard }], guard := some (14, true) },
    { dst := some 97, op := Op.call { callee := Callee.value (Operand.func 29), args := #[Operand.tmp 96], argTypes := #[24] }, type := 24, pos := "law.go:85", after := #[{ on := 15, ground := Ground.data }, { on := 14, ground := Ground.chain }, { on := 14, ground := Ground.guard }], guard := some (14, true) },
    { dst := some 98, op := Op.load 24 (Operand.tmp 14), type := 24, pos := "law.go:85", after := #[{ on := 14, ground := Ground.guard }], guard := some (14, true) },
    { dst := some 99, op := Op.call { callee := Callee.value (Operand.func 18), args := #[Operand.tmp 97, Operand.tmp 98], argTypes := #[24, 24] }, type := 4, pos := "law.go:85", after := #[{ on := 16, ground := Ground.data }, { on := 17, ground := Ground.data }, { on := 16, ground := Ground.chain }, { on := 14, ground := Ground.guard }], guard := some (14, true) },
    { dst := some 100, op := Op.pick (Operand.tmp 95) (Operand.tmp 99) (Operand.const (Value.bool false)), type := 4, pos := "law.go:85", after := #[{ on := 14, ground := Ground.data }, { on := 18, ground := Ground.data }], guard := none },
    { dst := some 101, op := Op.move (Operand.tmp 100), type := 4, pos := "law.go:85", after := #[{ on := 19, ground := Ground.data }, { on := 18, ground := Ground.chain }], guard := none },
    { dst := some 102, op := Op.load 24 (Operand.tmp 11), type := 24, pos := "law.go:85", after := #[{ on := 20, ground := Ground.guard }], guard := some (20, true) },
    { dst := some 103, op := Op.call { callee := Callee.value (Operand.func 24), args := #[Operand.tmp 102], argTypes := #[24] }, type := 4, pos := "law.go:85", after := #[{ on := 21, ground := Ground.data }, { on := 20, ground := Ground.chain }, { on := 20, ground := Ground.guard }], guard := some (20, true) },
    { dst := some 104, op := Op.pick (Operand.tmp 101) (Operand.tmp 103) (Operand.const (Value.bool false)), type := 4, pos := "law.go:85", after := #[{ on := 20, ground := Ground.data }, { on := 22, ground := Ground.data }], guard := none },
    { dst := some 4, op := Op.assign (Operand.tmp 104), type := 4, pos := "law.go:85", after := #[{ on := 23, ground := Ground.data }, { on := 22, ground := Ground.chain }, { on := 0, ground := Ground.phase }, { on := 1, ground := Ground.phase }, { on := 2, ground := Ground.phase }, { on := 3, ground := Ground.phase }, { on := 4, ground := Ground.phase }, { on := 5, ground := Ground.phase }, { on := 6, ground := Ground.phase }, { on := 7, ground := Ground.phase }, { on := 8, ground := Ground.phase }, { on := 9, ground := Ground.phase }, { on := 10, ground := Ground.phase }, { on := 11, ground := Ground.phase }, { on := 12, ground := Ground.phase }, { on := 13, ground := Ground.phase }, { on := 14, ground := Ground.phase }, { on := 15, ground := Ground.phase }, { on := 16, ground := Ground.phase }, { on := 17, ground := Ground.phase }, { on := 18, ground := Ground.phase }, { on := 19, ground := Ground.phase }, { on := 20, ground := Ground.phase }, { on := 21, ground := Ground.phase }, { on := 22, ground := Ground.phase }, { on := 23, ground := Ground.phase }], guard := none }]
def tvDst (i : Nat) : Nat := [81, 82, 83, 84, 85, 86, 87, 88, 89, 90, 91, 92, 93, 94, 95, 96, 97, 98, 99, 100, 101, 102, 103, 104, 4].getD i 0
def tvFr (X : Bool) (D11 D14 : Nat) (u0 u1 u2 u3 u6 u7 u8 u9 u10 u17 u18 u19 u20 u21 u22 u23 u24 u25 u26 u27 u28 u29 u30 u31 u32 u33 u34 u35 u36 u37 u38 u39 u40 u41 u42 u43 u44 u45 u46 u47 u48 u49 u50 u51 u52 u53 u54 u55 u56 u57 u58 u59 u60 u61 u62 u63 u64 u65 u66 u67 u68 u69 u70 u71 u72 u73 u74 u75 u76 u77 u78 u79 u80 : Value) (vs : Nat → Value) : Act := ⟨#[u0, u1, u2, u3, vs 4, .bool true, u6, u7, u8, u9, u10, .pointer (some ⟨D11, 0, none⟩), .bool X, .int .i64 0, .pointer (some ⟨D14, 0, none⟩), .bool X, .int .i64 0, u17, u18, u19, u20, u21, u22, u23, u24, u25, u26, u27, u28, u29, u30, u31, u32, u33, u34, u35, u36, u37, u38, u39, u40, u41, u42, u43, u44, u45, u46, u47, u48, u49, u50, u51, u52, u53, u54, u55, u56, u57, u58, u59, u60, u61, u62, u63, u64, u65, u66, u67, u68, u69, u70, u71, u72, u73, u74, u75, u76, u77, u78, u79, u80, vs 81, vs 82, vs 83, vs 84, vs 85, vs 86, vs 87, vs 88, vs 89, vs 90, vs 91, vs 92, vs 93, vs 94, vs 95, vs 96, vs 97, vs 98, vs 99, vs 100, vs 101, vs 102, vs 103, vs 104], []⟩
def tvT (X : Bool) (r c : Int) (ao11 ao14 : Option Addr) (n11 cap11 n14 cap14 : Nat) (zs : List Int) : Nat → Value → World → Prop
  | 16, v, w => ∃ sl, v = .agg #[.int .i64 c, .int .i64 r, sl] ∧ Sees w sl zs
  | i, v, _ => v = ([.bool true, .bool true, .int .i64 0, .bool true, .bool true, .bool true, .int .i64 0, .bool true, .bool true, .bool true, .bool X, .bool X, .bool true, .bool true, .bool true, .agg #[.int .i64 r, .int .i64 c, .slice ao11 n11 cap11], undef, .agg #[.int .i64 c, .int .i64 r, .slice ao14 n14 cap14], .bool true, .bool true, .bool true, .agg #[.int .i64 r, .int .i64 c, .slice ao11 n11 cap11], .bool true, .bool true, .bool true] : List Value).getD i undef
theorem tvT_mono (X : Bool) (r c : Int) (ao11 ao14 : Option Addr) (n11 cap11 n14 cap14 : Nat) (zs : List Int) : ∀ i v w w', tvT X r c ao11 ao14 n11 cap11 n14 cap14 zs i v w → Below w.heap.size w w' → tvT X r c ao11 ao14 n11 cap11 n14 cap14 zs i v w' := by
  intro i v w w' h hb
  unfold tvT at *
  split
  · obtain ⟨sl, h1, h2⟩ := h; exact ⟨sl, h1, h2.below hb⟩
  · simp_all
set_option maxRecDepth 40000 in
set_option maxHeartbeats 4000000 in
theorem tv_region {Q : Exit → Act → World → Prop} {w0 : World} {D11 D14 : Nat} {u0 u1 u2 u3 u6 u7 u8 u9 u10 u17 u18 u19 u20 u21 u22 u23 u24 u25 u26 u27 u28 u29 u30 u31 u32 u33 u34 u35 u36 u37 u38 u39 u40 u41 u42 u43 u44 u45 u46 u47 u48 u49 u50 u51 u52 u53 u54 u55 u56 u57 u58 u59 u60 u61 u62 u63 u64 u65 u66 u67 u68 u69 u70 u71 u72 u73 u74 u75 u76 u77 u78 u79 u80 : Value} {X : Bool} {r c : Int} {ao11 ao14 : Option Addr} {n11 cap11 n14 cap14 : Nat} {zs : List Int}
    (x11 : w0.heap[D11]? = some (.cells #[.int .i64 r, .int .i64 c, .slice ao11 n11 cap11] 24 (0, 0)))
    (x14 : w0.heap[D14]? = some (.cells #[.int .i64 c, .int .i64 r, .slice ao14 n14 cap14] 24 (0, 0)))
    (cA : ∀ w, Below w0.heap.size w0 w → Calls Try.prog 29 #[.agg #[.int .i64 r, .int .i64 c, .slice ao11 n11 cap11]] w fun e b => ∃ sl, e = .returned (.agg #[.int .i64 c, .int .i64 r, sl]) ∧ Sees b sl zs ∧ Below w.heap.size w b)
    (cB : ∀ w sl, Below w0.heap.size w0 w → Sees w sl zs → Calls Try.prog 18 #[.agg #[.int .i64 c, .int .i64 r, sl], .agg #[.int .i64 c, .int .i64 r, .slice ao14 n14 cap14]] w fun e b => e = .returned (.bool true) ∧ Below w.heap.size w b)
    (cC : ∀ w, Below w0.heap.size w0 w → Calls Try.prog 24 #[.agg #[.int .i64 r, .int .i64 c, .slice ao11 n11 cap11]] w fun e b => e = .returned (.bool true) ∧ Below w.heap.size w b)
    (hQ : ∀ vs w, Below w0.heap.size w0 w → vs 4 = .bool true → Q .normal (tvFr X D11 D14 u0 u1 u2 u3 u6 u7 u8 u9 u10 u17 u18 u19 u20 u21 u22 u23 u24 u25 u26 u27 u28 u29 u30 u31 u32 u33 u34 u35 u36 u37 u38 u39 u40 u41 u42 u43 u44 u45 u46 u47 u48 u49 u50 u51 u52 u53 u54 u55 u56 u57 u58 u59 u60 u61 u62 u63 u64 u65 u66 u67 u68 u69 u70 u71 u72 u73 u74 u75 u76 u77 u78 u79 u80 vs) w) : (Code.region 12 tvOps true).wp Try.prog Q (tvFr X D11 D14 u0 u1 u2 u3 u6 u7 u8 u9 u10 u17 u18 u19 u20 u21 u22 u23 u24 u25 u26 u27 u28 u29 u30 u31 u32 u33 u34 u35 u36 u37 u38 u39 u40 u41 u42 u43 u44 u45 u46 u47 u48 u49 u50 u51 u52 u53 u54 u55 u56 u57 u58 u59 u60 u61 u62 u63 u64 u65 u66 u67 u68 u69 u70 u71 u72 u73 u74 u75 u76 u77 u78 u79 u80 (fun k => if k = 4 then .bool false else undef)) w0 := by
  refine wp_region_vals (by kernel_rfl) (by decide) tvDst (by decide) (tvFr X D11 D14 u0 u1 u2 u3 u6 u7 u8 u9 u10 u17 u18 u19 u20 u21 u22 u23 u24 u25 u26 u27 u28 u29 u30 u31 u32 u33 u34 u35 u36 u37 u38 u39 u40 u41 u42 u43 u44 u45 u46 u47 u48 u49 u50 u51 u52 u53 u54 u55 u56 u57 u58 u59 u60 u61 u62 u63 u64 u65 u66 u67 u68 u69 u70 u71 u72 u73 u74 u75 u76 u77 u78 u79 u80) (tvT X r c ao11 ao14 n11 cap11 n14 cap14 zs) (tvT_mono X r c ao11 ao14 n11 cap11 n14 cap14 zs) _ ?_ ?_
  · intro i hi vs w hb hp
    have hi' : i < 25 := hi
    rcases (by omega : i = 0 ∨ i = 1 ∨ i = 2 ∨ i = 3 ∨ i = 4 ∨ i = 5 ∨ i = 6 ∨ i = 7 ∨ i = 8 ∨ i = 9 ∨ i = 10 ∨ i = 11 ∨ i = 12 ∨ i = 13 ∨ i = 14 ∨ i = 15 ∨ i = 16 ∨ i = 17 ∨ i = 18 ∨ i = 19 ∨ i = 20 ∨ i = 21 ∨ i = 22 ∨ i = 23 ∨ i = 24) with rfl | rfl | rfl | rfl | rfl | rfl | rfl | rfl | rfl | rfl | rfl | rfl | rfl | rfl | rfl | rfl | rfl | rfl | rfl | rfl | rfl | rfl | rfl | rfl | rfl
    · exact wpOp_of _ rfl rfl (op_move rfl rfl ⟨_, rfl, rfl, Below.refl _ _⟩)
    · have h0 : vs 81 = .bool true := hp 0 (by decide)
      exact wpOp_of _ rfl rfl (op_move rfl h0 ⟨_, rfl, rfl, Below.refl _ _⟩)
    · have h1 : vs 82 = .bool true := hp 1 (by decide)
      exact wpOp_guard _ rfl 1 true rfl 82 rfl (congrArg some h1) (op_move rfl rfl ⟨_, rfl, rfl, Below.refl _ _⟩)
    · have h1 : vs 82 = .bool true := hp 1 (by decide)
      have h2 : vs 83 = .int .i64 0 := hp 2 (by decide)
      exact wpOp_guard _ rfl 1 true rfl 82 rfl (congrArg some h1) (op_eql27 rfl h2 ⟨_, rfl, rfl, Below.refl _ _⟩)
    · have h1 : vs 82 = .bool true := hp 1 (by decide)
      have h3 : vs 84 = .bool true := hp 3 (by decide)
      exact wpOp_of _ rfl rfl (op_pick_t rfl h1 h3 ⟨_, rfl, rfl, Below.refl _ _⟩)
    · have h4 : vs 85 = .bool true := hp 4 (by decide)
      exact wpOp_of _ rfl rfl (op_move rfl h4 ⟨_, rfl, rfl, Below.refl _ _⟩)
    · have h5 : vs 86 = .bool true := hp 5 (by decide)
      exact wpOp_guard _ rfl 5 true rfl 86 rfl (congrArg some h5) (op_move rfl rfl ⟨_, rfl, rfl, Below.refl _ _⟩)
    · have h5 : vs 86 = .bool true := hp 5 (by decide)
      have h6 : vs 87 = .int .i64 0 := hp 6 (by decide)
      exact wpOp_guard _ rfl 5 true rfl 86 rfl (congrArg some h5) (op_eql27 rfl h6 ⟨_, rfl, rfl, Below.refl _ _⟩)
    · have h5 : vs 86 = .bool true := hp 5 (by decide)
      have h7 : vs 88 = .bool true := hp 7 (by decide)
      exact wpOp_of _ rfl rfl (op_pick_t rfl h5 h7 ⟨_, rfl, rfl, Below.refl _ _⟩)
    · have h8 : vs 89 = .bool true := hp 8 (by decide)
      exact wpOp_of _ rfl rfl (op_move rfl h8 ⟨_, rfl, rfl, Below.refl _ _⟩)
    · have h9 : vs 90 = .bool true := hp 9 (by decide)
      exact wpOp_guard _ rfl 9 true rfl 90 rfl (congrArg some h9) (op_move rfl rfl ⟨_, rfl, rfl, Below.refl _ _⟩)
    · have h9 : vs 90 = .bool true := hp 9 (by decide)
      exact wpOp_guard _ rfl 9 true rfl 90 rfl (congrArg some h9) (op_move rfl rfl ⟨_, rfl, rfl, Below.refl _ _⟩)
    · have h9 : vs 90 = .bool true := hp 9 (by decide)
      have h10 : vs 91 = .bool X := hp 10 (by decide)
      have h11 : vs 92 = .bool X := hp 11 (by decide)
      exact wpOp_guard _ rfl 9 true rfl 90 rfl (congrArg some h9) (op_eql4 rfl h10 h11 ⟨_, rfl, rfl, Below.refl _ _⟩)
    · have h9 : vs 90 = .bool true := hp 9 (by decide)
      have h12 : vs 93 = .bool true := hp 12 (by decide)
      exact wpOp_of _ rfl rfl (op_pick_t rfl h9 h12 ⟨_, rfl, rfl, Below.refl _ _⟩)
    · have h13 : vs 94 = .bool true := hp 13 (by decide)
      exact wpOp_of _ rfl rfl (op_move rfl h13 ⟨_, rfl, rfl, Below.refl _ _⟩)
    · have h14 : vs 95 = .bool true := hp 14 (by decide)
      exact wpOp_guard _ rfl 14 true rfl 95 rfl (congrArg some h14) (op_load rfl rfl (keep hb x11) ⟨_, rfl, rfl, Below.refl _ _⟩)
    · have h14 : vs 95 = .bool true := hp 14 (by decide)
      have h15 : vs 96 = .agg #[.int .i64 r, .int .i64 c, .slice ao11 n11 cap11] := hp 15 (by decide)
      exact wpOp_guard _ rfl 14 true rfl 95 rfl (congrArg some h14) (op_call1 enters29 rfl h15 (cA w hb) (fun e w' ⟨sl, h1, h2, h3⟩ => ⟨_, h1, _, rfl, ⟨sl, rfl, h2⟩, h3⟩))
    · have h14 : vs 95 = .bool true := hp 14 (by decide)
      exact wpOp_guard _ rfl 14 true rfl 95 rfl (congrArg some h14) (op_load rfl rfl (keep hb x14) ⟨_, rfl, rfl, Below.refl _ _⟩)
    · have h14 : vs 95 = .bool true := hp 14 (by decide)
      obtain ⟨sl16, h16, s16⟩ : ∃ sl, vs 97 = .agg #[.int .i64 c, .int .i64 r, sl] ∧ Sees w sl zs := hp 16 (by decide)
      have h17 : vs 98 = .agg #[.int .i64 c, .int .i64 r, .slice ao14 n14 cap14] := hp 17 (by decide)
      exact wpOp_guard _ rfl 14 true rfl 95 rfl (congrArg some h14) (op_call2 enters18 rfl h16 h17 (cB w sl16 hb s16) (fun e w' h => ⟨_, h.1, _, rfl, rfl, h.2⟩))
    · have h14 : vs 95 = .bool true := hp 14 (by decide)
      have h18 : vs 99 = .bool true := hp 18 (by decide)
      exact wpOp_of _ rfl rfl (op_pick_t rfl h14 h18 ⟨_, rfl, rfl, Below.refl _ _⟩)
    · have h19 : vs 100 = .bool true := hp 19 (by decide)
      exact wpOp_of _ rfl rfl (op_move rfl h19 ⟨_, rfl, rfl, Below.refl _ _⟩)
    · have h20 : vs 101 = .bool true := hp 20 (by decide)
      exact wpOp_guard _ rfl 20 true rfl 101 rfl (congrArg some h20) (op_load rfl rfl (keep hb x11) ⟨_, rfl, rfl, Below.refl _ _⟩)
    · have h20 : vs 101 = .bool true := hp 20 (by decide)
      have h21 : vs 102 = .agg #[.int .i64 r, .int .i64 c, .slice ao11 n11 cap11] := hp 21 (by decide)
      exact wpOp_guard _ rfl 20 true rfl 101 rfl (congrArg some h20) (op_call1 enters24 rfl h21 (cC w hb) (fun e w' h => ⟨_, h.1, _, rfl, rfl, h.2⟩))
    · have h20 : vs 101 = .bool true := hp 20 (by decide)
      have h22 : vs 103 = .bool true := hp 22 (by decide)
      exact wpOp_of _ rfl rfl (op_pick_t rfl h20 h22 ⟨_, rfl, rfl, Below.refl _ _⟩)
    · have h23 : vs 104 = .bool true := hp 23 (by decide)
      exact wpOp_of _ rfl rfl (op_assign rfl h23 ⟨_, rfl, rfl, Below.refl _ _⟩)
  · intro vs w hb hT
    exact hQ vs w hb (hT 24 (by decide))
end Go.Proofs.Yteohdhmimpajmaa
