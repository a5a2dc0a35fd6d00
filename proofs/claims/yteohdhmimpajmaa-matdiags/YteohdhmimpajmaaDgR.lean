/-
  'n = append(n, ..)' of MatDiags, in whatever order: what it leaves.
-/
import Derived.Test.YteohdhmimpajmaaRegO
namespace Go.Proofs.Yteohdhmimpajmaa
open Go.RowKit Go.Sort Qm

def dgOps : Array Oper := #[
    { dst := some 46, op := Op.move (Operand.tmp 8), type := 22, pos := "more.go:38", after := #[], guard := none },
    { dst := some 47, op := Op.move (Operand.tmp 10), type := 3, pos := "more.go:38", after := #[], guard := none },
    { dst := some 48, op := Op.indexAddr 49 (Operand.tmp 2) (Operand.tmp 47), type := 0, pos := "more.go:38", after := #[{ on := 1, ground := Ground.data }], guard := none },
    { dst := some 49, op := Op.load 48 (Operand.tmp 48), type := 48, pos := "more.go:38", after := #[{ on := 2, ground := Ground.data }], guard := none },
    { dst := some 50, op := Op.convert 48 3 (Operand.tmp 49), type := 3, pos := "more.go:38", after := #[{ on := 3, ground := Ground.data }], guard := none },
    { dst := some 51, op := Op.move (Operand.tmp 10), type := 3, pos := "more.go:38", after := #[], guard := none },
    { dst := some 52, op := Op.indexAddr 49 (Operand.tmp 3) (Operand.tmp 51), type := 0, pos := "more.go:38", after := #[{ on := 5, ground := Ground.data }], guard := none },
    { dst := some 53, op := Op.load 48 (Operand.tmp 52), type := 48, pos := "more.go:38", after := #[{ on := 6, ground := Ground.data }], guard := none },
    { dst := some 54, op := Op.convert 48 3 (Operand.tmp 53), type := 3, pos := "more.go:38", after := #[{ on := 7, ground := Ground.data }], guard := none },
    { dst := some 55, op := Op.binOp BinOp.mul 3 (Operand.tmp 50) (Operand.tmp 54) 3, type := 3, pos := "more.go:38", after := #[{ on := 4, ground := Ground.data }, { on := 8, ground := Ground.data }], guard := none },
    { dst := some 56, op := Op.binOp BinOp.mul 33 (Operand.tmp 55) (Operand.const (Value.int IntKind.i64 16777216)) 33, type := 33, pos := "more.go:38", after := #[{ on := 9, ground := Ground.data }], guard := none },
    { dst := some 57, op := Op.buildSlice 22 1 #[(0, Operand.tmp 56)], type := 22, pos := "more.go:38", after := #[{ on := 10, ground := Ground.data }], guard := none },
    { dst := some 58, op := Op.call { callee := Callee.builtin Builtin.append, args := #[Operand.tmp 46, Operand.tmp 57], argTypes := #[22, 22] }, type := 22, pos := "more.go:38", after := #[{ on := 0, ground := Ground.data }, { on := 11, ground := Ground.data }], guard := none },
    { dst := some 8, op := Op.assign (Operand.tmp 58), type := 22, pos := "more.go:38", after := #[{ on := 12, ground := Ground.data }, { on := 12, ground := Ground.chain }, { on := 0, ground := Ground.phase }, { on := 1, ground := Ground.phase }, { on := 2, ground := Ground.phase }, { on := 3, ground := Ground.phase }, { on := 4, ground := Ground.phase }, { on := 5, ground := Ground.phase }, { on := 6, ground := Ground.phase }, { on := 7, ground := Ground.phase }, { on := 8, ground := Ground.phase }, { on := 9, ground := Ground.phase }, { on := 10, ground := Ground.phase }, { on := 11, ground := Ground.phase }, { on := 12, ground := Ground.phase }], guard := none }]
def dgDst (i : Nat) : Nat := [46, 47, 48, 49, 50, 51, 52, 53, 54, 55, 56, 57, 58, 8].getD i 0
def dgFr (D2 D3 k : Nat) (u0 u1 u4 u5 u6 u7 u9 u11 u12 u13 u14 u15 u16 u17 u18 u19 u20 u21 u22 u23 u24 u25 u26 u27 u28 u29 u30 u31 u32 u33 u34 u35 u36 u37 u38 u39 u40 u41 u42 u43 u44 u45 u59 u60 u61 u62 u63 u64 u65 u66 u67 u68 u69 u70 u71 u72 u73 u74 u75 u76 u77 u78 u79 u80 u81 u82 u83 u84 u85 u86 u87 u88 u89 u90 u91 u92 u93 u94 u95 u96 u97 u98 u99 u100 u101 u102 u103 u104 u105 u106 u107 u108 u109 u110 u111 u112 u113 u114 u115 u116 u117 u118 u119 u120 u121 u122 u123 u124 u125 u126 u127 u128 u129 u130 u131 u132 : Value) (vs : Nat → Value) : Act := ⟨#[u0, u1, .pointer (some ⟨D2, 0, none⟩), .pointer (some ⟨D3, 0, none⟩), u4, u5, u6, u7, vs 8, u9, .int .i64 k, u11, u12, u13, u14, u15, u16, u17, u18, u19, u20, u21, u22, u23, u24, u25, u26, u27, u28, u29, u30, u31, u32, u33, u34, u35, u36, u37, u38, u39, u40, u41, u42, u43, u44, u45, vs 46, vs 47, vs 48, vs 49, vs 50, vs 51, vs 52, vs 53, vs 54, vs 55, vs 56, vs 57, vs 58, u59, u60, u61, u62, u63, u64, u65, u66, u67, u68, u69, u70, u71, u72, u73, u74, u75, u76, u77, u78, u79, u80, u81, u82, u83, u84, u85, u86, u87, u88, u89, u90, u91, u92, u93, u94, u95, u96, u97, u98, u99, u100, u101, u102, u103, u104, u105, u106, u107, u108, u109, u110, u111, u112, u113, u114, u115, u116, u117, u118, u119, u120, u121, u122, u123, u124, u125, u126, u127, u128, u129, u130, u131, u132], []⟩
/-- what the row and the three others are behind it -/
def dgU (B m : Nat) (q : Int) (xs : List Value) (l1 l2 l3 : Value) (n1 n2 n3 : Nat) (xs1 xs2 xs3 : List Value) : Value → World → Prop := fun v w => w.ownsRow B 33 1 v (m + 1) (xs ++ [.int .i64 q]) ∧ w.ownsRow B 33 1 l1 n1 xs1 ∧ w.ownsRow B 33 1 l2 n2 xs2 ∧ w.ownsRow B 33 1 l3 n3 xs3 ∧ Apart v l1 ∧ Apart v l2 ∧ Apart v l3 ∧ B ≤ w.heap.size
def dgT (W D2 D3 k : Nat) (x y z : Int) (y8 : Value) (B m : Nat) (q : Int) (xs : List Value) (l1 l2 l3 : Value) (n1 n2 n3 : Nat) (xs1 xs2 xs3 : List Value) : Nat → Value → World → Prop
  | 11, v, w => ∃ X, v = .slice (some ⟨X, 0, none⟩) 1 1 ∧ W ≤ X ∧ w.heap[X]? = some (.cells #[.int .i64 q] 33 (0, 0))
  | 13, v, w => dgU B m q xs l1 l2 l3 n1 n2 n3 xs1 xs2 xs3 v w
  | i, v, _ => v = ([y8, .int .i64 k, .pointer (some ⟨D2, k, none⟩), .int .i8 x, .int .i64 x, .int .i64 k, .pointer (some ⟨D3, k, none⟩), .int .i8 y, .int .i64 y, .int .i64 z, .int .i64 q] : List Value).getD i undef
theorem dgU_mono (B m : Nat) (q : Int) (xs : List Value) (l1 l2 l3 : Value) (n1 n2 n3 : Nat) (xs1 xs2 xs3 : List Value) : ∀ v w w', dgU B m q xs l1 l2 l3 n1 n2 n3 xs1 xs2 xs3 v w → Below w.heap.size w w' → dgU B m q xs l1 l2 l3 n1 n2 n3 xs1 xs2 xs3 v w' := by
  rintro v w w' ⟨h1, h2, h3, h4, h5, h6, h7, h8⟩ hb
  exact ⟨own_keep h1 hb, own_keep h2 hb, own_keep h3 hb, own_keep h4 hb, h5, h6, h7, Nat.le_trans h8 hb.size⟩
theorem dgT_mono (W D2 D3 k : Nat) (x y z : Int) (y8 : Value) (B m : Nat) (q : Int) (xs : List Value) (l1 l2 l3 : Value) (n1 n2 n3 : Nat) (xs1 xs2 xs3 : List Value) : ∀ i v w w', dgT W D2 D3 k x y z y8 B m q xs l1 l2 l3 n1 n2 n3 xs1 xs2 xs3 i v w → Below w.heap.size w w' → dgT W D2 D3 k x y z y8 B m q xs l1 l2 l3 n1 n2 n3 xs1 xs2 xs3 i v w' := by
  intro i v w w' h hb
  unfold dgT at *
  split
  · obtain ⟨X, h1, h2, h3⟩ := h; exact ⟨X, h1, h2, keep hb h3⟩
  · exact dgU_mono B m q xs l1 l2 l3 n1 n2 n3 xs1 xs2 xs3 _ _ _ h hb
  · simp_all

set_option maxRecDepth 40000 in
set_option maxHeartbeats 4000000 in
theorem dg_region {Q : Exit → Act → World → Prop} {w0 : World} {D2 D3 k : Nat} {u0 u1 u4 u5 u6 u7 u9 u11 u12 u13 u14 u15 u16 u17 u18 u19 u20 u21 u22 u23 u24 u25 u26 u27 u28 u29 u30 u31 u32 u33 u34 u35 u36 u37 u38 u39 u40 u41 u42 u43 u44 u45 u59 u60 u61 u62 u63 u64 u65 u66 u67 u68 u69 u70 u71 u72 u73 u74 u75 u76 u77 u78 u79 u80 u81 u82 u83 u84 u85 u86 u87 u88 u89 u90 u91 u92 u93 u94 u95 u96 u97 u98 u99 u100 u101 u102 u103 u104 u105 u106 u107 u108 u109 u110 u111 u112 u113 u114 u115 u116 u117 u118 u119 u120 u121 u122 u123 u124 u125 u126 u127 u128 u129 u130 u131 u132 : Value} {y8 y46 y47 y48 y49 y50 y51 y52 y53 y54 y55 y56 y57 y58 : Value} {x y z q : Int} {B m : Nat} {xs : List Value} {l1 l2 l3 : Value} {n1 n2 n3 : Nat} {xs1 xs2 xs3 : List Value} {i0 : TypeInfo}
    (hi : Try.prog.info? 33 = some i0) (hz0 : i0.zero = some (.int .i64 0)) (hz1 : i0.size = 1) (hz2 : i0.bytes = 8)
    (hk : k < 3) (hm : m ≤ 100) (hB : B ≤ w0.heap.size) (hD2 : D2 < B) (hD3 : D3 < B) (hx : w0.cell? ⟨D2, k, none⟩ = some (.int .i8 x)) (hy : w0.cell? ⟨D3, k, none⟩ = some (.int .i8 y))
    (iw0 : IntKind.i64.wrap x = x) (iw1 : IntKind.i64.wrap y = y) (hz : x * y = z) (iw2 : IntKind.i64.wrap z = z) (hq : z * 16777216 = q) (iw3 : IntKind.i64.wrap q = q)
    (o0 : w0.ownsRow B 33 1 y8 m xs) (o1 : w0.ownsRow B 33 1 l1 n1 xs1) (o2 : w0.ownsRow B 33 1 l2 n2 xs2) (o3 : w0.ownsRow B 33 1 l3 n3 xs3) (p1 : Apart y8 l1) (p2 : Apart y8 l2) (p3 : Apart y8 l3)
    (hQ : ∀ vs w, Below B w0 w → dgU B m q xs l1 l2 l3 n1 n2 n3 xs1 xs2 xs3 (vs 8) w → Q .normal (dgFr D2 D3 k u0 u1 u4 u5 u6 u7 u9 u11 u12 u13 u14 u15 u16 u17 u18 u19 u20 u21 u22 u23 u24 u25 u26 u27 u28 u29 u30 u31 u32 u33 u34 u35 u36 u37 u38 u39 u40 u41 u42 u43 u44 u45 u59 u60 u61 u62 u63 u64 u65 u66 u67 u68 u69 u70 u71 u72 u73 u74 u75 u76 u77 u78 u79 u80 u81 u82 u83 u84 u85 u86 u87 u88 u89 u90 u91 u92 u93 u94 u95 u96 u97 u98 u99 u100 u101 u102 u103 u104 u105 u106 u107 u108 u109 u110 u111 u112 u113 u114 u115 u116 u117 u118 u119 u120 u121 u122 u123 u124 u125 u126 u127 u128 u129 u130 u131 u132 vs) w) :
    (Code.region 11 dgOps true).wp Try.prog Q ⟨#[u0, u1, .pointer (some ⟨D2, 0, none⟩), .pointer (some ⟨D3, 0, none⟩), u4, u5, u6, u7, y8, u9, .int .i64 k, u11, u12, u13, u14, u15, u16, u17, u18, u19, u20, u21, u22, u23, u24, u25, u26, u27, u28, u29, u30, u31, u32, u33, u34, u35, u36, u37, u38, u39, u40, u41, u42, u43, u44, u45, y46, y47, y48, y49, y50, y51, y52, y53, y54, y55, y56, y57, y58, u59, u60, u61, u62, u63, u64, u65, u66, u67, u68, u69, u70, u71, u72, u73, u74, u75, u76, u77, u78, u79, u80, u81, u82, u83, u84, u85, u86, u87, u88, u89, u90, u91, u92, u93, u94, u95, u96, u97, u98, u99, u100, u101, u102, u103, u104, u105, u106, u107, u108, u109, u110, u111, u112, u113, u114, u115, u116, u117, u118, u119, u120, u121, u122, u123, u124, u125, u126, u127, u128, u129, u130, u131, u132], []⟩ w0 := by
  have cx : ∀ w, Below B w0 w → w.cell? ⟨D2, k, none⟩ = some (.int .i8 x) := fun w hb => by rw [hb.cell (p := ⟨D2, k, none⟩) hD2]; exact hx
  have cy : ∀ w, Below B w0 w → w.cell? ⟨D3, k, none⟩ = some (.int .i8 y) := fun w hb => by rw [hb.cell (p := ⟨D3, k, none⟩) hD3]; exact hy
  refine wp_region_one (B := B) hB (by kernel_rfl) (by decide) dgDst (by decide) (dgFr D2 D3 k u0 u1 u4 u5 u6 u7 u9 u11 u12 u13 u14 u15 u16 u17 u18 u19 u20 u21 u22 u23 u24 u25 u26 u27 u28 u29 u30 u31 u32 u33 u34 u35 u36 u37 u38 u39 u40 u41 u42 u43 u44 u45 u59 u60 u61 u62 u63 u64 u65 u66 u67 u68 u69 u70 u71 u72 u73 u74 u75 u76 u77 u78 u79 u80 u81 u82 u83 u84 u85 u86 u87 u88 u89 u90 u91 u92 u93 u94 u95 u96 u97 u98 u99 u100 u101 u102 u103 u104 u105 u106 u107 u108 u109 u110 u111 u112 u113 u114 u115 u116 u117 u118 u119 u120 u121 u122 u123 u124 u125 u126 u127 u128 u129 u130 u131 u132) (dgT w0.heap.size D2 D3 k x y z y8 B m q xs l1 l2 l3 n1 n2 n3 xs1 xs2 xs3) (dgT_mono w0.heap.size D2 D3 k x y z y8 B m q xs l1 l2 l3 n1 n2 n3 xs1 xs2 xs3) (fun k' => if k' = 8 then y8 else if k' = 46 then y46 else if k' = 47 then y47 else if k' = 48 then y48 else if k' = 49 then y49 else if k' = 50 then y50 else if k' = 51 then y51 else if k' = 52 then y52 else if k' = 53 then y53 else if k' = 54 then y54 else if k' = 55 then y55 else if k' = 56 then y56 else if k' = 57 then y57 else if k' = 58 then y58 else undef) 12 58 (dgU B m q xs l1 l2 l3 n1 n2 n3 xs1 xs2 xs3) (dgU_mono B m q xs l1 l2 l3 n1 n2 n3 xs1 xs2 xs3) (by decide) (by decide) ?_ ?_ ?_
  · intro i hi' his vs w hb hp hu hv
    have hi14 : i < 14 := hi'
    rcases (by omega : i = 0 ∨ i = 1 ∨ i = 2 ∨ i = 3 ∨ i = 4 ∨ i = 5 ∨ i = 6 ∨ i = 7 ∨ i = 8 ∨ i = 9 ∨ i = 10 ∨ i = 11 ∨ i = 12 ∨ i = 13) with rfl | rfl | rfl | rfl | rfl | rfl | rfl | rfl | rfl | rfl | rfl | rfl | rfl | rfl
    · have h0 : vs 8 = y8 := hv 8 (by decide)
      exact wpOp_of _ rfl rfl (op_move rfl h0 ⟨_, rfl, rfl, Below.refl _ _⟩)
    · exact wpOp_of _ rfl rfl (op_move rfl rfl ⟨_, rfl, rfl, Below.refl _ _⟩)
    · have h1 : vs 47 = .int .i64 k := hp 1 (by decide) (by decide)
      exact wpOp_of _ rfl rfl (op_index hk rfl rfl h1 ⟨_, rfl, rfl, Below.refl _ _⟩)
    · have h2 : vs 48 = .pointer (some ⟨D2, k, none⟩) := hp 2 (by decide) (by decide)
      exact wpOp_of _ rfl rfl (op_load8 rfl h2 (cx w hb) ⟨_, rfl, rfl, Below.refl _ _⟩)
    · have h3 : vs 49 = .int .i8 x := hp 3 (by decide) (by decide)
      exact wpOp_of _ rfl rfl (op_conv8 iw0 rfl h3 ⟨_, rfl, rfl, Below.refl _ _⟩)
    · exact wpOp_of _ rfl rfl (op_move rfl rfl ⟨_, rfl, rfl, Below.refl _ _⟩)
    · have h5 : vs 51 = .int .i64 k := hp 5 (by decide) (by decide)
      exact wpOp_of _ rfl rfl (op_index hk rfl rfl h5 ⟨_, rfl, rfl, Below.refl _ _⟩)
    · have h6 : vs 52 = .pointer (some ⟨D3, k, none⟩) := hp 6 (by decide) (by decide)
      exact wpOp_of _ rfl rfl (op_load8 rfl h6 (cy w hb) ⟨_, rfl, rfl, Below.refl _ _⟩)
    · have h7 : vs 53 = .int .i8 y := hp 7 (by decide) (by decide)
      exact wpOp_of _ rfl rfl (op_conv8 iw1 rfl h7 ⟨_, rfl, rfl, Below.refl _ _⟩)
    · have h4 : vs 50 = .int .i64 x := hp 4 (by decide) (by decide)
      have h8 : vs 54 = .int .i64 y := hp 8 (by decide) (by decide)
      exact wpOp_of _ rfl rfl (op_mul3 hz iw2 rfl h4 h8 ⟨_, rfl, rfl, Below.refl _ _⟩)
    · have h9 : vs 55 = .int .i64 z := hp 9 (by decide) (by decide)
      exact wpOp_of _ rfl rfl (op_mul33 hq iw3 rfl h9 ⟨_, rfl, rfl, Below.refl _ _⟩)
    · have h10 : vs 56 = .int .i64 q := hp 10 (by decide) (by decide)
      exact wpOp_of _ rfl rfl (op_build1 rfl h10 ⟨_, rfl, ⟨_, rfl, hb.size, heap_new _ _⟩, (Below.refl _ _).alloc (Nat.le_refl _) _⟩)
    · exact absurd rfl his
    · have hu' := hu (by decide)
      exact wpOp_of _ rfl rfl (op_assign rfl rfl ⟨_, rfl, hu', Below.refl _ _⟩)
  · intro vs w hb hp
    have h0 : vs 46 = y8 := hp 0 (by decide)
    obtain ⟨X, hX, hWX, hcX⟩ := hp 11 (by decide)
    refine wpOp_of _ rfl rfl (op_append1 hi hz0 hz1 hz2 rfl h0 hX (own_keep o0 hb) hcX hm (Nat.le_trans hB hb.size) ?_)
    intro v' w' h1 h2 h3
    obtain ⟨k1, q1⟩ := app_keep (own_keep o1 hb) p1 h2 h3
    obtain ⟨k2, q2⟩ := app_keep (own_keep o2 hb) p2 h2 h3
    obtain ⟨k3, q3⟩ := app_keep (own_keep o3 hb) p3 h2 h3
    refine ⟨v', rfl, ⟨h1, k1, k2, k3, q1, q2, q3, Nat.le_trans hB (Nat.le_trans hb.size h2.size)⟩, (hb.mono hB).grown h2 (Nat.le_trans hB hb.size) (fun g e => ((own_keep o0 hb).lt g e).1), fun j v hj hjp ht => ?_⟩
    unfold dgT at *
    split
    · obtain ⟨X', e1, e2, e3⟩ := ht
      refine ⟨X', e1, e2, ?_⟩
      rw [h2.block X' (lt_of_block e3) (fun e => ?_)]
      · exact e3
      · have := (o0.lt X' e.symm).2; omega
    · exact absurd (by decide) hjp
    · simp_all
  · intro vs w hb hT hu
    exact hQ vs w hb (hT 13 (by decide) (by decide))
end Go.Proofs.Yteohdhmimpajmaa
