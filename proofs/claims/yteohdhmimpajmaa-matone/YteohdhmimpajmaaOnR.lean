/-
  The last region of MatOne: whatever its order, it leaves true.
-/
import Derived.Test.YteohdhmimpajmaaEvR
namespace Go.Proofs.Yteohdhmimpajmaa
open Go.RowKit Go.Sort Qm

theorem enters30 : ∀ (args : Array Value) (a : World), Sem.run Try.prog (callFunc 30 args) a = Result.ok (Next.enter 30 args) a := by
  intro args a
  simp [callFunc, Try.func30, go_sem]
  rfl
def onOps : Array Oper := #[
    { dst := some 121, op := Op.move (Operand.tmp 7), type := 4, pos := "law.go:66", after := #[], guard := none },
    { dst := some 122, op := Op.move (Operand.tmp 121), type := 4, pos := "law.go:66", after := #[{ on := 0, ground := Ground.data }], guard := none },
    { dst := some 123, op := Op.load 24 (Operand.tmp 3), type := 24, pos := "law.go:66", after := #[{ on := 1, ground := Ground.guard }], guard := some (1, true) },
    { dst := some 124, op := Op.call { callee := Callee.value (Operand.func 29), args := #[Operand.tmp 123], argTypes := #[24] }, type := 24, pos := "law.go:66", after := #[{ on := 2, ground := Ground.data }, { on := 1, ground := Ground.chain }, { on := 1, ground := Ground.guard }], guard := some (1, true) },
    { dst := some 125, op := Op.load 24 (Operand.tmp 3), type := 24, pos := "law.go:66", after := #[{ on := 1, ground := Ground.guard }], guard := some (1, true) },
    { dst := some 126, op := Op.call { callee := Callee.value (Operand.func 30), args := #[Operand.tmp 125], argTypes := #[24] }, type := 24, pos := "law.go:66", after := #[{ on := 4, ground := Ground.data }, { on := 3, ground := Ground.chain }, { on := 1, ground := Ground.guard }], guard := some (1, true) },
    { dst := some 127, op := Op.call { callee := Callee.value (Operand.func 18), args := #[Operand.tmp 124, Operand.tmp 126], argTypes := #[24, 24] }, type := 4, pos := "law.go:66", after := #[{ on := 3, ground := Ground.data }, { on := 5, ground := Ground.data }, { on := 5, ground := Ground.chain }, { on := 1, ground := Ground.guard }], guard := some (1, true) },
    { dst := some 128, op := Op.pick (Operand.tmp 122) (Operand.tmp 127) (Operand.const (Value.bool false)), type := 4, pos := "law.go:66", after := #[{ on := 1, ground := Ground.data }, { on := 6, ground := Ground.data }], guard := none },
    { dst := some 129, op := Op.move (Operand.tmp 128), type := 4, pos := "law.go:66", after := #[{ on := 7, ground := Ground.data }, { on := 6, ground := Ground.chain }], guard := none },
    { dst := some 130, op := Op.load 24 (Operand.tmp 17), type := 24, pos := "law.go:66", after := #[{ on := 8, ground := Ground.guard }], guard := some (8, true) },
    { dst := some 131, op := Op.load 24 (Operand.tmp 19), type := 24, pos := "law.go:66", after := #[{ on := 8, ground := Ground.guard }], guard := some (8, true) },
    { dst := some 132, op := Op.call { callee := Callee.value (Operand.func 18), args := #[Operand.tmp 130, Operand.tmp 131], argTypes := #[24, 24] }, type := 4, pos := "law.go:66", after := #[{ on := 9, ground := Ground.data }, { on := 10, ground := Ground.data }, { on := 8, ground := Ground.chain }, { on := 8, ground := Ground.guard }], guard := some (8, true) },
    { dst := some 133, op := Op.pick (Operand.tmp 129) (Operand.tmp 132) (Operand.const (Value.bool false)), type := 4, pos := "law.go:66", after := #[{ on := 8, ground := Ground.data }, { on := 11, ground := Ground.data }], guard := none },
    { dst := some 134, op := Op.move (Operand.tmp 133), type := 4, pos := "law.go:66", after := #[{ on := 12, ground := Ground.data }, { on := 11, ground := Ground.chain }], guard := none },
    { dst := some 135, op := Op.move (Operand.tmp 18), type := 4, pos := "law.go:66", after := #[{ on := 13, ground := Ground.guard }], guard := some (13, true) },
    { dst := some 136, op := Op.move (Operand.tmp 20), type := 4, pos := "law.go:66", after := #[{ on := 13, ground := Ground.guard }], guard := some (13, true) },
    { dst := some 137, op := Op.binOp BinOp.eql 4 (Operand.tmp 135) (Operand.tmp 136) 4, type := 4, pos := "law.go:66", after := #[{ on := 14, ground := Ground.data }, { on := 15, ground := Ground.data }, { on := 13, ground := Ground.guard }], guard := some (13, true) },
    { dst := some 138, op := Op.pick (Operand.tmp 134) (Operand.tmp 137) (Operand.const (Value.bool false)), type := 4, pos := "law.go:66", after := #[{ on := 13, ground := Ground.data }, { on := 16, ground := Ground.data }], guard := none },
    { dst := some 139, op := Op.move (Operand.tmp 138), type := 4, pos := "law.go:66", after := #[{ on := 17, ground := Ground.data }, { on := 13, ground := Ground.chain }], guard := none },
    { dst := some 140, op := Op.load 24 (Operand.tmp 21), type := 24, pos := "law.go:66", after := #[{ on := 18, ground := Ground.guard }], guard := some (18, true) },
    { dst := some 141, op := Op.load 24 (Operand.tmp 24), type := 24, pos := "law.go:66", after := #[{ on := 18, ground := Ground.guard }], guard := some (18, true) },
    { dst := some 142, op := Op.call { callee := Callee.value (Operand.func 18), args := #[Operand.tmp 140, Operand.tmp 141], argTypes := #[24, 24] }, type := 4, pos := "law.go:66", after := #[{ on := 19, ground := Ground.data }, { on := 20, ground := Ground.data }, { on := 18, ground := Ground.chain }, { on := 18, ground := Ground.guard }], guard := some (18, true) },
    { dst := some 143, op := Op.pick (Operand.tmp 139) (Operand.tmp 142) (Operand.const (Value.bool false)), type := 4, pos := "law.go:66", after := #[{ on := 18, ground := Ground.data }, { on := 21, ground := Ground.data }], guard := none },
    { dst := some 144, op := Op.move (Operand.tmp 143), type := 4, pos := "law.go:66", after := #[{ on := 22, ground := Ground.data }, { on := 21, ground := Ground.chain }], guard := none },
    { dst := some 145, op := Op.move (Operand.tmp 22), type := 4, pos := "law.go:66", after := #[{ on := 23, ground := Ground.guard }], guard := some (23, true) },
    { dst := some 146, op := Op.move (Operand.tmp 25), type := 4, pos := "law.go:66", after := #[{ on := 23, ground := Ground.guard }], guard := some (23, true) },
    { dst := some 147, op := Op.binOp BinOp.eql 4 (Operand.tmp 145) (Operand.tmp 146) 4, type := 4, pos := "law.go:66", after := #[{ on := 24, ground := Ground.data }, { on := 25, ground := Ground.data }, { on := 23, ground := Ground.guard }], guard := some (23, true) },
    { dst := some 148, op := Op.pick (Operand.tmp 144) (Operand.tmp 147) (Operand.const (Value.bool false)), type := 4, pos := "law.go:66", after := #[{ on := 23, ground := Ground.data }, { on := 26, ground := Ground.data }], guard := none },
    { dst := some 149, op := Op.move (Operand.tmp 148), type := 4, pos := "law.go:66", after := #[{ on := 27, ground := Ground.data }, { on := 23, ground := Ground.chain }], guard := none },
    { dst := some 150, op := Op.move (Operand.tmp 23), type := 27, pos := "law.go:66", after := #[{ on := 28, ground := Ground.guard }], guard := some (28, true) },
    { dst := some 151, op := Op.move (Operand.tmp 26), type := 3, pos := "law.go:66", after := #[{ on := 28, ground := Ground.guard }], guard := some (28, true) },
    { dst := some 152, op := Op.binOp BinOp.eql 3 (Operand.tmp 150) (Operand.tmp 151) 3, type := 4, pos := "law.go:66", after := #[{ on := 29, ground := Ground.data }, { on := 30, ground := Ground.data }, { on := 28, ground := Ground.guard }], guard := some (28, true) },
    { dst := some 153, op := Op.pick (Operand.tmp 149) (Operand.tmp 152) (Operand.const (Value.bool false)), type := 4, pos := "law.go:66", after := #[{ on := 28, ground := Ground.data }, { on := 31, ground := Ground.data }], guard := none },
    { dst := some 2, op := Op.assign (Operand.tmp 153), type := 4, pos := "law.go:66", after := #[{ on := 32, ground := Ground.data }, { on := 28, ground := Ground.chain }, { on := 0, ground := Ground.phase }, { on := 1, ground := Ground.phase }, { on := 2, ground := Ground.phase }, { on := 3, ground := Ground.phase }, { on := 4, ground := Ground.phase }, { on := 5, ground := Ground.phase }, { on := 6, ground := Ground.phase }, { on := 7, ground := Ground.phase }, { on := 8, ground := Ground.phase }, { on := 9, ground := Ground.phase }, { on := 10, ground := Ground.phase }, { on := 11, ground := Ground.phase }, { on := 12, ground := Ground.phase }, { on := 13, ground := Ground.phase }, { on := 14, ground := Ground.phase }, { on := 15, ground := Ground.phase }, { on := 16, ground := Ground.phase }, { on := 17, ground := Ground.phase }, { on := 18, ground := Ground.phase }, { on := 19, ground := Ground.phase }, { on := 20, ground := Ground.phase }, { on := 21, ground := Ground.phase }, { on := 22, ground := Ground.phase }, { on := 23, ground := Ground.phase }, { on := 24, ground := Ground.phase }, { on := 25, ground := Ground.phase }, { on := 26, ground := Ground.phase }, { on := 27, ground := Ground.phase }, { on := 28, ground := Ground.phase }, { on := 29, ground := Ground.phase }, { on := 30, ground := Ground.phase }, { on := 31, ground := Ground.phase }, { on := 32, ground := Ground.phase }], guard := none }]
def onDst (i : Nat) : Nat := [121, 122, 123, 124, 125, 126, 127, 128, 129, 130, 131, 132, 133, 134, 135, 136, 137, 138, 139, 140, 141, 142, 143, 144, 145, 146, 147, 148, 149, 150, 151, 152, 153, 2].getD i 0
def onFr (E : Int) (S O : Bool) (D3 D17 D19 D21 D24 : Nat) (u0 u1 u4 u5 u6 u8 u9 u10 u11 u12 u13 u14 u15 u16 u27 u28 u29 u30 u31 u32 u33 u34 u35 u36 u37 u38 u39 u40 u41 u42 u43 u44 u45 u46 u47 u48 u49 u50 u51 u52 u53 u54 u55 u56 u57 u58 u59 u60 u61 u62 u63 u64 u65 u66 u67 u68 u69 u70 u71 u72 u73 u74 u75 u76 u77 u78 u79 u80 u81 u82 u83 u84 u85 u86 u87 u88 u89 u90 u91 u92 u93 u94 u95 u96 u97 u98 u99 u100 u101 u102 u103 u104 u105 u106 u107 u108 u109 u110 u111 u112 u113 u114 u115 u116 u117 u118 u119 u120 : Value) (vs : Nat → Value) : Act := ⟨#[u0, u1, vs 2, .pointer (some ⟨D3, 0, none⟩), u4, u5, u6, .bool true, u8, u9, u10, u11, u12, u13, u14, u15, u16, .pointer (some ⟨D17, 0, none⟩), .bool S, .pointer (some ⟨D19, 0, none⟩), .bool S, .pointer (some ⟨D21, 0, none⟩), .bool O, .int .i64 E, .pointer (some ⟨D24, 0, none⟩), .bool O, .int .i64 E, u27, u28, u29, u30, u31, u32, u33, u34, u35, u36, u37, u38, u39, u40, u41, u42, u43, u44, u45, u46, u47, u48, u49, u50, u51, u52, u53, u54, u55, u56, u57, u58, u59, u60, u61, u62, u63, u64, u65, u66, u67, u68, u69, u70, u71, u72, u73, u74, u75, u76, u77, u78, u79, u80, u81, u82, u83, u84, u85, u86, u87, u88, u89, u90, u91, u92, u93, u94, u95, u96, u97, u98, u99, u100, u101, u102, u103, u104, u105, u106, u107, u108, u109, u110, u111, u112, u113, u114, u115, u116, u117, u118, u119, u120, vs 121, vs 122, vs 123, vs 124, vs 125, vs 126, vs 127, vs 128, vs 129, vs 130, vs 131, vs 132, vs 133, vs 134, vs 135, vs 136, vs 137, vs 138, vs 139, vs 140, vs 141, vs 142, vs 143, vs 144, vs 145, vs 146, vs 147, vs 148, vs 149, vs 150, vs 151, vs 152, vs 153], []⟩
def onT (ra ca re ce E : Int) (S O : Bool) (ao3 ao17 ao19 ao21 ao24 : Option Addr) (n3 cap3 n17 cap17 n19 cap19 n21 cap21 n24 cap24 : Nat) (zs : List Int) : Nat → Value → World → Prop
  | 3, v, w => ∃ sl, v = .agg #[.int .i64 ca, .int .i64 ra, sl] ∧ Sees w sl zs
  | 5, v, w => ∃ sl, v = .agg #[.int .i64 ca, .int .i64 ra, sl] ∧ Sees w sl zs
  | i, v, _ => v = ([.bool true, .bool true, .agg #[.int .i64 ra, .int .i64 ca, .slice ao3 n3 cap3], undef, .agg #[.int .i64 ra, .int .i64 ca, .slice ao3 n3 cap3], undef, .bool true, .bool true, .bool true, .agg #[.int .i64 ra, .int .i64 ca, .slice ao17 n17 cap17], .agg #[.int .i64 ra, .int .i64 ca, .slice ao19 n19 cap19], .bool true, .bool true, .bool true, .bool S, .bool S, .bool true, .bool true, .bool true, .agg #[.int .i64 re, .int .i64 ce, .slice ao21 n21 cap21], .agg #[.int .i64 re, .int .i64 ce, .slice ao24 n24 cap24], .bool true, .bool true, .bool true, .bool O, .bool O, .bool true, .bool true, .bool true, .int .i64 E, .int .i64 E, .bool true, .bool true, .bool true] : List Value).getD i undef
theorem onT_mono (ra ca re ce E : Int) (S O : Bool) (ao3 ao17 ao19 ao21 ao24 : Option Addr) (n3 cap3 n17 cap17 n19 cap19 n21 cap21 n24 cap24 : Nat) (zs : List Int) : ∀ i v w w', onT ra ca re ce E S O ao3 ao17 ao19 ao21 ao24 n3 cap3 n17 cap17 n19 cap19 n21 cap21 n24 cap24 zs i v w → Below w.heap.size w w' → onT ra ca re ce E S O ao3 ao17 ao19 ao21 ao24 n3 cap3 n17 cap17 n19 cap19 n21 cap21 n24 cap24 zs i v w' := by
  intro i v w w' h hb
  unfold onT at *
  split
  · obtain ⟨sl, h1, h2⟩ := h; exact ⟨sl, h1, h2.below hb⟩
  · obtain ⟨sl, h1, h2⟩ := h; exact ⟨sl, h1, h2.below hb⟩
  · simp_all
set_option maxRecDepth 40000 in
set_option maxHeartbeats 4000000 in
theorem on_region {Q : Exit → Act → World → Prop} {w0 : World} {D3 D17 D19 D21 D24 : Nat} {u0 u1 u4 u5 u6 u8 u9 u10 u11 u12 u13 u14 u15 u16 u27 u28 u29 u30 u31 u32 u33 u34 u35 u36 u37 u38 u39 u40 u41 u42 u43 u44 u45 u46 u47 u48 u49 u50 u51 u52 u53 u54 u55 u56 u57 u58 u59 u60 u61 u62 u63 u64 u65 u66 u67 u68 u69 u70 u71 u72 u73 u74 u75 u76 u77 u78 u79 u80 u81 u82 u83 u84 u85 u86 u87 u88 u89 u90 u91 u92 u93 u94 u95 u96 u97 u98 u99 u100 u101 u102 u103 u104 u105 u106 u107 u108 u109 u110 u111 u112 u113 u114 u115 u116 u117 u118 u119 u120 : Value} {ra ca re ce E : Int} {S O : Bool} {ao3 ao17 ao19 ao21 ao24 : Option Addr} {n3 cap3 n17 cap17 n19 cap19 n21 cap21 n24 cap24 : Nat} {zs : List Int}
    (x3 : w0.heap[D3]? = some (.cells #[.int .i64 ra, .int .i64 ca, .slice ao3 n3 cap3] 24 (0, 0)))
    (x17 : w0.heap[D17]? = some (.cells #[.int .i64 ra, .int .i64 ca, .slice ao17 n17 cap17] 24 (0, 0)))
    (x19 : w0.heap[D19]? = some (.cells #[.int .i64 ra, .int .i64 ca, .slice ao19 n19 cap19] 24 (0, 0)))
    (x21 : w0.heap[D21]? = some (.cells #[.int .i64 re, .int .i64 ce, .slice ao21 n21 cap21] 24 (0, 0)))
    (x24 : w0.heap[D24]? = some (.cells #[.int .i64 re, .int .i64 ce, .slice ao24 n24 cap24] 24 (0, 0)))
    (cA : ∀ w, Below w0.heap.size w0 w → Calls Try.prog 29 #[.agg #[.int .i64 ra, .int .i64 ca, .slice ao3 n3 cap3]] w fun e b => ∃ sl, e = .returned (.agg #[.int .i64 ca, .int .i64 ra, sl]) ∧ Sees b sl zs ∧ Below w.heap.size w b)
    (cB : ∀ w, Below w0.heap.size w0 w → Calls Try.prog 30 #[.agg #[.int .i64 ra, .int .i64 ca, .slice ao3 n3 cap3]] w fun e b => ∃ sl, e = .returned (.agg #[.int .i64 ca, .int .i64 ra, sl]) ∧ Sees b sl zs ∧ Below w.heap.size w b)
    (cC : ∀ w sl sm, Below w0.heap.size w0 w → Sees w sl zs → Sees w sm zs → Calls Try.prog 18 #[.agg #[.int .i64 ca, .int .i64 ra, sl], .agg #[.int .i64 ca, .int .i64 ra, sm]] w fun e b => e = .returned (.bool true) ∧ Below w.heap.size w b)
    (cD : ∀ w, Below w0.heap.size w0 w → Calls Try.prog 18 #[.agg #[.int .i64 ra, .int .i64 ca, .slice ao17 n17 cap17], .agg #[.int .i64 ra, .int .i64 ca, .slice ao19 n19 cap19]] w fun e b => e = .returned (.bool true) ∧ Below w.heap.size w b)
    (cE : ∀ w, Below w0.heap.size w0 w → Calls Try.prog 18 #[.agg #[.int .i64 re, .int .i64 ce, .slice ao21 n21 cap21], .agg #[.int .i64 re, .int .i64 ce, .slice ao24 n24 cap24]] w fun e b => e = .returned (.bool true) ∧ Below w.heap.size w b)
    (hQ : ∀ vs w, Below w0.heap.size w0 w → vs 2 = .bool true → Q .normal (onFr E S O D3 D17 D19 D21 D24 u0 u1 u4 u5 u6 u8 u9 u10 u11 u12 u13 u14 u15 u16 u27 u28 u29 u30 u31 u32 u33 u34 u35 u36 u37 u38 u39 u40 u41 u42 u43 u44 u45 u46 u47 u48 u49 u50 u51 u52 u53 u54 u55 u56 u57 u58 u59 u60 u61 u62 u63 u64 u65 u66 u67 u68 u69 u70 u71 u72 u73 u74 u75 u76 u77 u78 u79 u80 u81 u82 u83 u84 u85 u86 u87 u88 u89 u90 u91 u92 u93 u94 u95 u96 u97 u98 u99 u100 u101 u102 u103 u104 u105 u106 u107 u108 u109 u110 u111 u112 u113 u114 u115 u116 u117 u118 u119 u120 vs) w) : (Code.region 21 onOps true).wp Try.prog Q (onFr E S O D3 D17 D19 D21 D24 u0 u1 u4 u5 u6 u8 u9 u10 u11 u12 u13 u14 u15 u16 u27 u28 u29 u30 u31 u32 u33 u34 u35 u36 u37 u38 u39 u40 u41 u42 u43 u44 u45 u46 u47 u48 u49 u50 u51 u52 u53 u54 u55 u56 u57 u58 u59 u60 u61 u62 u63 u64 u65 u66 u67 u68 u69 u70 u71 u72 u73 u74 u75 u76 u77 u78 u79 u80 u81 u82 u83 u84 u85 u86 u87 u88 u89 u90 u91 u92 u93 u94 u95 u96 u97 u98 u99 u100 u101 u102 u103 u104 u105 u106 u107 u108 u109 u110 u111 u112 u113 u114 u115 u116 u117 u118 u119 u120 (fun k => if k = 2 then .bool false else undef)) w0 := by
  refine wp_region_vals (by kernel_rfl) (by decide) onDst (by decide) (onFr E S O D3 D17 D19 D21 D24 u0 u1 u4 u5 u6 u8 u9 u10 u11 u12 u13 u14 u15 u16 u27 u28 u29 u30 u31 u32 u33 u34 u35 u36 u37 u38 u39 u40 u41 u42 u43 u44 u45 u46 u47 u48 u49 u50 u51 u52 u53 u54 u55 u56 u57 u58 u59 u60 u61 u62 u63 u64 u65 u66 u67 u68 u69 u70 u71 u72 u73 u74 u75 u76 u77 u78 u79 u80 u81 u82 u83 u84 u85 u86 u87 u88 u89 u90 u91 u92 u93 u94 u95 u96 u97 u98 u99 u100 u101 u102 u103 u104 u105 u106 u107 u108 u109 u110 u111 u112 u113 u114 u115 u116 u117 u118 u119 u120) (onT ra ca re ce E S O ao3 ao17 ao19 ao21 ao24 n3 cap3 n17 cap17 n19 cap19 n21 cap21 n24 cap24 zs) (onT_mono ra ca re ce E S O ao3 ao17 ao19 ao21 ao24 n3 cap3 n17 cap17 n19 cap19 n21 cap21 n24 cap24 zs) _ ?_ ?_
  · intro i hi vs w hb hp
    have hi' : i < 34 := hi
    rcases (by omega : i = 0 ∨ i = 1 ∨ i = 2 ∨ i = 3 ∨ i = 4 ∨ i = 5 ∨ i = 6 ∨ i = 7 ∨ i = 8 ∨ i = 9 ∨ i = 10 ∨ i = 11 ∨ i = 12 ∨ i = 13 ∨ i = 14 ∨ i = 15 ∨ i = 16 ∨ i = 17 ∨ i = 18 ∨ i = 19 ∨ i = 20 ∨ i = 21 ∨ i = 22 ∨ i = 23 ∨ i = 24 ∨ i = 25 ∨ i = 26 ∨ i = 27 ∨ i = 28 ∨ i = 29 ∨ i = 30 ∨ i = 31 ∨ i = 32 ∨ i = 33) with rfl | rfl | rfl | rfl | rfl | rfl | rfl | rfl | rfl | rfl | rfl | rfl | rfl | rfl | rfl | rfl | rfl | rfl | rfl | rfl | rfl | rfl | rfl | rfl | rfl | rfl | rfl | rfl | rfl | rfl | rfl | rfl | rfl | rfl
    · exact wpOp_of _ rfl rfl (op_move rfl rfl ⟨_, rfl, rfl, Below.refl _ _⟩)
    · have h0 : vs 121 = .bool true := hp 0 (by decide)
      exact wpOp_of _ rfl rfl (op_move rfl h0 ⟨_, rfl, rfl, Below.refl _ _⟩)
    · have h1 : vs 122 = .bool true := hp 1 (by decide)
      exact wpOp_guard _ rfl 1 true rfl 122 rfl (congrArg some h1) (op_load rfl rfl (keep hb x3) ⟨_, rfl, rfl, Below.refl _ _⟩)
    · have h1 : vs 122 = .bool true := hp 1 (by decide)
      have h2 : vs 123 = .agg #[.int .i64 ra, .int .i64 ca, .slice ao3 n3 cap3] := hp 2 (by decide)
      exact wpOp_guard _ rfl 1 true rfl 122 rfl (congrArg some h1) (op_call1 enters29 rfl h2 (cA w hb) (fun e w' ⟨sl, h1, h2, h3⟩ => ⟨_, h1, _, rfl, ⟨sl, rfl, h2⟩, h3⟩))
    · have h1 : vs 122 = .bool true := hp 1 (by decide)
      exact wpOp_guard _ rfl 1 true rfl 122 rfl (congrArg some h1) (op_load rfl rfl (keep hb x3) ⟨_, rfl, rfl, Below.refl _ _⟩)
    · have h1 : vs 122 = .bool true := hp 1 (by decide)
      have h4 : vs 125 = .agg #[.int .i64 ra, .int .i64 ca, .slice ao3 n3 cap3] := hp 4 (by decide)
      exact wpOp_guard _ rfl 1 true rfl 122 rfl (congrArg some h1) (op_call1 enters30 rfl h4 (cB w hb) (fun e w' ⟨sl, h1, h2, h3⟩ => ⟨_, h1, _, rfl, ⟨sl, rfl, h2⟩, h3⟩))
    · have h1 : vs 122 = .bool true := hp 1 (by decide)
      obtain ⟨sl3, h3, s3⟩ : ∃ sl, vs 124 = .agg #[.int .i64 ca, .int .i64 ra, sl] ∧ Sees w sl zs := hp 3 (by decide)
      obtain ⟨sl5, h5, s5⟩ : ∃ sl, vs 126 = .agg #[.int .i64 ca, .int .i64 ra, sl] ∧ Sees w sl zs := hp 5 (by decide)
      exact wpOp_guard _ rfl 1 true rfl 122 rfl (congrArg some h1) (op_call2 enters18 rfl h3 h5 (cC w sl3 sl5 hb s3 s5) (fun e w' h => ⟨_, h.1, _, rfl, rfl, h.2⟩))
    · have h1 : vs 122 = .bool true := hp 1 (by decide)
      have h6 : vs 127 = .bool true := hp 6 (by decide)
      exact wpOp_of _ rfl rfl (op_pick_t rfl h1 h6 ⟨_, rfl, rfl, Below.refl _ _⟩)
    · have h7 : vs 128 = .bool true := hp 7 (by decide)
      exact wpOp_of _ rfl rfl (op_move rfl h7 ⟨_, rfl, rfl, Below.refl _ _⟩)
    · have h8 : vs 129 = .bool true := hp 8 (by decide)
      exact wpOp_guard _ rfl 8 true rfl 129 rfl (congrArg some h8) (op_load rfl rfl (keep hb x17) ⟨_, rfl, rfl, Below.refl _ _⟩)
    · have h8 : vs 129 = .bool true := hp 8 (by decide)
      exact wpOp_guard _ rfl 8 true rfl 129 rfl (congrArg some h8) (op_load rfl rfl (keep hb x19) ⟨_, rfl, rfl, Below.refl _ _⟩)
    · have h8 : vs 129 = .bool true := hp 8 (by decide)
      have h9 : vs 130 = .agg #[.int .i64 ra, .int .i64 ca, .slice ao17 n17 cap17] := hp 9 (by decide)
      have h10 : vs 131 = .agg #[.int .i64 ra, .int .i64 ca, .slice ao19 n19 cap19] := hp 10 (by decide)
      exact wpOp_guard _ rfl 8 true rfl 129 rfl (congrArg some h8) (op_call2 enters18 rfl h9 h10 (cD w hb) (fun e w' h => ⟨_, h.1, _, rfl, rfl, h.2⟩))
    · have h8 : vs 129 = .bool true := hp 8 (by decide)
      have h11 : vs 132 = .bool true := hp 11 (by decide)
      exact wpOp_of _ rfl rfl (op_pick_t rfl h8 h11 ⟨_, rfl, rfl, Below.refl _ _⟩)
    · have h12 : vs 133 = .bool true := hp 12 (by decide)
      exact wpOp_of _ rfl rfl (op_move rfl h12 ⟨_, rfl, rfl, Below.refl _ _⟩)
    · have h13 : vs 134 = .bool true := hp 13 (by decide)
      exact wpOp_guard _ rfl 13 true rfl 134 rfl (congrArg some h13) (op_move rfl rfl ⟨_, rfl, rfl, Below.refl _ _⟩)
    · have h13 : vs 134 = .bool true := hp 13 (by decide)
      exact wpOp_guard _ rfl 13 true rfl 134 rfl (congrArg some h13) (op_move rfl rfl ⟨_, rfl, rfl, Below.refl _ _⟩)
    · have h13 : vs 134 = .bool true := hp 13 (by decide)
      have h14 : vs 135 = .bool S := hp 14 (by decide)
      have h15 : vs 136 = .bool S := hp 15 (by decide)
      exact wpOp_guard _ rfl 13 true rfl 134 rfl (congrArg some h13) (op_eql4 rfl h14 h15 ⟨_, rfl, rfl, Below.refl _ _⟩)
    · have h13 : vs 134 = .bool true := hp 13 (by decide)
      have h16 : vs 137 = .bool true := hp 16 (by decide)
      exact wpOp_of _ rfl rfl (op_pick_t rfl h13 h16 ⟨_, rfl, rfl, Below.refl _ _⟩)
    · have h17 : vs 138 = .bool true := hp 17 (by decide)
      exact wpOp_of _ rfl rfl (op_move rfl h17 ⟨_, rfl, rfl, Below.refl _ _⟩)
    · have h18 : vs 139 = .bool true := hp 18 (by decide)
      exact wpOp_guard _ rfl 18 true rfl 139 rfl (congrArg some h18) (op_load rfl rfl (keep hb x21) ⟨_, rfl, rfl, Below.refl _ _⟩)
    · have h18 : vs 139 = .bool true := hp 18 (by decide)
      exact wpOp_guard _ rfl 18 true rfl 139 rfl (congrArg some h18) (op_load rfl rfl (keep hb x24) ⟨_, rfl, rfl, Below.refl _ _⟩)
    · have h18 : vs 139 = .bool true := hp 18 (by decide)
      have h19 : vs 140 = .agg #[.int .i64 re, .int .i64 ce, .slice ao21 n21 cap21] := hp 19 (by decide)
      have h20 : vs 141 = .agg #[.int .i64 re, .int .i64 ce, .slice ao24 n24 cap24] := hp 20 (by decide)
      exact wpOp_guard _ rfl 18 true rfl 139 rfl (congrArg some h18) (op_call2 enters18 rfl h19 h20 (cE w hb) (fun e w' h => ⟨_, h.1, _, rfl, rfl, h.2⟩))
    · have h18 : vs 139 = .bool true := hp 18 (by decide)
      have h21 : vs 142 = .bool true := hp 21 (by decide)
      exact wpOp_of _ rfl rfl (op_pick_t rfl h18 h21 ⟨_, rfl, rfl, Below.refl _ _⟩)
    · have h22 : vs 143 = .bool true := hp 22 (by decide)
      exact wpOp_of _ rfl rfl (op_move rfl h22 ⟨_, rfl, rfl, Below.refl _ _⟩)
    · have h23 : vs 144 = .bool true := hp 23 (by decide)
      exact wpOp_guard _ rfl 23 true rfl 144 rfl (congrArg some h23) (op_move rfl rfl ⟨_, rfl, rfl, Below.refl _ _⟩)
    · have h23 : vs 144 = .bool true := hp 23 (by decide)
      exact wpOp_guard _ rfl 23 true rfl 144 rfl (congrArg some h23) (op_move rfl rfl ⟨_, rfl, rfl, Below.refl _ _⟩)
    · have h23 : vs 144 = .bool true := hp 23 (by decide)
      have h24 : vs 145 = .bool O := hp 24 (by decide)
      have h25 : vs 146 = .bool O := hp 25 (by decide)
      exact wpOp_guard _ rfl 23 true rfl 144 rfl (congrArg some h23) (op_eql4 rfl h24 h25 ⟨_, rfl, rfl, Below.refl _ _⟩)
    · have h23 : vs 144 = .bool true := hp 23 (by decide)
      have h26 : vs 147 = .bool true := hp 26 (by decide)
      exact wpOp_of _ rfl rfl (op_pick_t rfl h23 h26 ⟨_, rfl, rfl, Below.refl _ _⟩)
    · have h27 : vs 148 = .bool true := hp 27 (by decide)
      exact wpOp_of _ rfl rfl (op_move rfl h27 ⟨_, rfl, rfl, Below.refl _ _⟩)
    · have h28 : vs 149 = .bool true := hp 28 (by decide)
      exact wpOp_guard _ rfl 28 true rfl 149 rfl (congrArg some h28) (op_move rfl rfl ⟨_, rfl, rfl, Below.refl _ _⟩)
    · have h28 : vs 149 = .bool true := hp 28 (by decide)
      exact wpOp_guard _ rfl 28 true rfl 149 rfl (congrArg some h28) (op_move rfl rfl ⟨_, rfl, rfl, Below.refl _ _⟩)
    · have h28 : vs 149 = .bool true := hp 28 (by decide)
      have h29 : vs 150 = .int .i64 E := hp 29 (by decide)
      have h30 : vs 151 = .int .i64 E := hp 30 (by decide)
      exact wpOp_guard _ rfl 28 true rfl 149 rfl (congrArg some h28) (op_eql3 rfl h29 h30 ⟨_, rfl, rfl, Below.refl _ _⟩)
    · have h28 : vs 149 = .bool true := hp 28 (by decide)
      have h31 : vs 152 = .bool true := hp 31 (by decide)
      exact wpOp_of _ rfl rfl (op_pick_t rfl h28 h31 ⟨_, rfl, rfl, Below.refl _ _⟩)
    · have h32 : vs 153 = .bool true := hp 32 (by decide)
      exact wpOp_of _ rfl rfl (op_assign rfl h32 ⟨_, rfl, rfl, Below.refl _ _⟩)
  · intro vs w hb hT
    exact hQ vs w hb (hT 33 (by decide))
end Go.Proofs.Yteohdhmimpajmaa
