/- Parts of the proof. -/
import Derived.Test.YtoefekkdjcflmaaGreatDoorK48
namespace Go.Proofs.YtoefekkdjcflmaaGreatDoor.Et
open Go.RowKit Go.Sort Go.Proofs.YtoefekkdjcflmaaGreatDoor.Qm
set_option linter.unusedVariables false
theorem wpOp_skip {P : Program} {ops : Array Oper} {Q : Exit → Act → World → Prop} {i : Nat} {K : Act → World → Prop} {a : Act} {w : World} (o : Oper) (h : ops[i]? = some o) (j : Nat) (b : Bool) (hg : o.guard = some (j, b)) (d : Nat) (hd : (ops[j]?).bind (·.dst) = some d)
    (hv : a.tmps[d]? ≠ some (.bool b)) (hk : K (a.put o.dst undef) w) : wpOp P ops Q i K a w := by
  unfold wpOp
  rw [h]
  have : Region.wanted o (yielded ops a.tmps) = false := by
    simp only [Region.wanted, hg]
    simp [yielded, hd]
    revert hv
    cases a.tmps[d]? with
    | none => simp
    | some v => cases v <;> simp
  simp only [this]
  exact hk
section
variable {a : Act} {w : World} {K : Act → World → Prop} {Q : Exit → Act → World → Prop} {o : Oper}
theorem op_pickFC {c : Nat} {y : Operand} {v : Value} (hop : o.op = Op.pick (Operand.tmp c) y (Operand.const v)) (hc : a.tmps[c]?.getD undef = .bool false) (hk : K (a.put o.dst v) w) : o.wp Tryz.prog a w K Q := by
  unfold Oper.wp
  simp [execOp, hop, go_sem, hc]
  exact hk
theorem op_ixO {s t b i : Nat} (hi : i < 4) (hop : o.op = Op.indexAddr 33 (Operand.tmp s) (Operand.tmp t)) (he : a.tmps[s]?.getD undef = .pointer (some ⟨b, 24, none⟩)) (ht : a.tmps[t]?.getD undef = .int .i64 (i : Nat)) (hk : K (a.put o.dst (.pointer (some ⟨b, 24 + i, none⟩))) w) : o.wp Tryz.prog a w K Q := by
  rcases (by omega : i = 0 ∨ i = 1 ∨ i = 2 ∨ i = 3) with rfl | rfl | rfl | rfl
  all_goals
    unfold Oper.wp
    simp [execOp, hop, go_sem, he, ht]
    exact hk
theorem op_neqI {x y : Nat} {n : Int} (hop : o.op = Op.binOp BinOp.neq 3 (Operand.tmp x) (Operand.tmp y) 3) (hx : a.tmps[x]?.getD undef = .int .i64 n) (hy : a.tmps[y]?.getD undef = .int .i64 n) (hk : K (a.put o.dst (.bool false)) w) : o.wp Tryz.prog a w K Q := by
  unfold Oper.wp
  simp [execOp, hop, go_sem, hx, hy]
  exact hk
theorem op_neqC {x : Nat} {n c : Int} {B : Bool} (hB : (n != c) = B) (hop : o.op = Op.binOp BinOp.neq 3 (Operand.tmp x) (Operand.const (.int .i64 c)) 3) (hx : a.tmps[x]?.getD undef = .int .i64 n) (hk : K (a.put o.dst (.bool B)) w) : o.wp Tryz.prog a w K Q := by
  subst hB
  unfold Oper.wp
  simp [execOp, hop, go_sem, hx]
  exact hk
theorem op_addC {x : Nat} {n c : Int} (h0 : -9223372036854775808 ≤ n + c) (h1 : n + c ≤ 9223372036854775807) (hop : o.op = Op.binOp BinOp.add 3 (Operand.tmp x) (Operand.const (.int .i64 c)) 3) (hx : a.tmps[x]?.getD undef = .int .i64 n) (hk : K (a.put o.dst (.int .i64 (n + c))) w) : o.wp Tryz.prog a w K Q := by
  have hw : IntKind.i64.wrap (n + c) = n + c := wrap_in h0 h1
  unfold Oper.wp
  simp [execOp, hop, go_sem, hx, hw]
  exact hk
theorem op_minC {x : Nat} {n c m : Int} (hm : (if n ≤ c then n else c) = m) (hty : o.type = 3) (hop : o.op = Op.call { callee := Callee.builtin Builtin.min, args := #[Operand.tmp x, Operand.const (.int .i64 c)], argTypes := #[3, 3] }) (hx : a.tmps[x]?.getD undef = .int .i64 n) (hk : K (a.put o.dst (.int .i64 m)) w) : o.wp Tryz.prog a w K Q := by
  have hm' : (if c < n then c else n) = m := by rw [← hm]; split <;> split <;> omega
  unfold Oper.wp
  simp [execOp, hop, go_sem, hx, hty]
  rw [hm']
  exact hk
end
def cvAOps : Array Oper := #[
 ⟨some 91, .move (.tmp 12), 4, "more.go:49", #[], none⟩,
 ⟨some 92, .unOp .not 4 (.tmp 91), 4, "more.go:49", #[eD 0], none⟩,
 ⟨some 93, .move (.tmp 92), 4, "more.go:49", #[eD 1], none⟩,
 ⟨some 94, .move (.tmp 11), 3, "more.go:49", #[eG 2], some (2, true)⟩,
 ⟨some 95, .fieldAddr 35 (.tmp 8) 4, 0, "more.go:49", #[eG 2], some (2, true)⟩,
 ⟨some 96, .indexAddr 33 (.tmp 95) (.tmp 94), 0, "more.go:49", #[eD 4, eD 3, eG 2], some (2, true)⟩,
 ⟨some 97, .load 3 (.tmp 96), 3, "more.go:49", #[eD 5, eG 2], some (2, true)⟩,
 ⟨some 98, .move (.tmp 11), 3, "more.go:49", #[eG 2], some (2, true)⟩,
 ⟨some 99, .fieldAddr 35 (.tmp 4) 4, 0, "more.go:49", #[eG 2], some (2, true)⟩,
 ⟨some 100, .indexAddr 33 (.tmp 99) (.tmp 98), 0, "more.go:49", #[eD 8, eD 7, eG 2], some (2, true)⟩,
 ⟨some 101, .load 3 (.tmp 100), 3, "more.go:49", #[eD 9, eG 2], some (2, true)⟩,
 ⟨some 102, .binOp .neq 3 (.tmp 97) (.tmp 101) 3, 4, "more.go:49", #[eD 6, eD 10, eG 2], some (2, true)⟩,
 ⟨some 103, .pick (.tmp 93) (.tmp 102) (.const (.bool false)), 4, "more.go:49", #[eD 2, eD 11], none⟩,
 ⟨some 104, .move (.tmp 103), 4, "more.go:49", #[eD 12, eC 2], none⟩,
 ⟨some 105, .move (.tmp 12), 4, "more.go:49", #[eG 13], some (13, false)⟩,
 ⟨some 106, .move (.tmp 105), 4, "more.go:49", #[eD 14, eC 13, eG 13], some (13, false)⟩,
 ⟨some 107, .move (.tmp 11), 3, "more.go:49", #[eG 15], some (15, true)⟩,
 ⟨some 108, .fieldAddr 35 (.tmp 8) 4, 0, "more.go:49", #[eG 15], some (15, true)⟩,
 ⟨some 109, .indexAddr 33 (.tmp 108) (.tmp 107), 0, "more.go:49", #[eD 17, eD 16, eG 15], some (15, true)⟩,
 ⟨some 110, .load 3 (.tmp 109), 3, "more.go:49", #[eD 18, eG 15], some (15, true)⟩,
 ⟨some 111, .binOp .neq 3 (.tmp 110) (.const (.int .i64 0)) 3, 4, "more.go:49", #[eD 19, eG 15], some (15, true)⟩,
 ⟨some 112, .pick (.tmp 106) (.tmp 111) (.const (.bool false)), 4, "more.go:49", #[eD 15, eD 20, eG 13], some (13, false)⟩,
 ⟨some 113, .move (.tmp 112), 4, "more.go:49", #[eD 21, eC 15, eG 13], some (13, false)⟩,
 ⟨some 114, .move (.tmp 11), 3, "more.go:49", #[eG 22], some (22, true)⟩,
 ⟨some 115, .fieldAddr 35 (.tmp 8) 4, 0, "more.go:49", #[eG 22], some (22, true)⟩,
 ⟨some 116, .indexAddr 33 (.tmp 115) (.tmp 114), 0, "more.go:49", #[eD 24, eD 23, eG 22], some (22, true)⟩,
 ⟨some 117, .load 3 (.tmp 116), 3, "more.go:49", #[eD 25, eG 22], some (22, true)⟩,
 ⟨some 118, .move (.tmp 11), 3, "more.go:49", #[eG 22], some (22, true)⟩,
 ⟨some 119, .fieldAddr 35 (.tmp 4) 4, 0, "more.go:49", #[eG 22], some (22, true)⟩,
 ⟨some 120, .indexAddr 33 (.tmp 119) (.tmp 118), 0, "more.go:49", #[eD 28, eD 27, eG 22], some (22, true)⟩,
 ⟨some 121, .load 3 (.tmp 120), 3, "more.go:49", #[eD 29, eG 22], some (22, true)⟩,
 ⟨some 122, .binOp .add 3 (.tmp 121) (.const (.int .i64 1)) 3, 3, "more.go:49", #[eD 30, eG 22], some (22, true)⟩,
 ⟨some 123, .call ⟨.builtin .min, #[.tmp 122, .const (.int .i64 1000)], #[3, 3]⟩, 3, "more.go:49", #[eD 31, eG 22], some (22, true)⟩,
 ⟨some 124, .binOp .neq 3 (.tmp 117) (.tmp 123) 3, 4, "more.go:49", #[eD 26, eD 32, eG 22], some (22, true)⟩,
 ⟨some 125, .pick (.tmp 113) (.tmp 124) (.const (.bool false)), 4, "more.go:49", #[eD 22, eD 33, eG 13], some (13, false)⟩,
 ⟨some 126, .pick (.tmp 104) (.const (.bool true)) (.tmp 125), 4, "more.go:49", #[eD 13, eD 34], none⟩]
def cvADst (i : Nat) : Nat := [91, 92, 93, 94, 95, 96, 97, 98, 99, 100, 101, 102, 103, 104, 105, 106, 107, 108, 109, 110, 111, 112, 113, 114, 115, 116, 117, 118, 119, 120, 121, 122, 123, 124, 125, 126].getD i 0
def cvAFr (D : Nat) (DE : Nat) (k : Nat) (u0 u1 u2 u3 u5 u6 u7 u9 u10 u13 u14 u15 u16 u17 u18 u19 u20 u21 u22 u23 u24 u25 u26 u27 u28 u29 u30 u31 u32 u33 u34 u35 u36 u37 u38 u39 u40 u41 u42 u43 u44 u45 u46 u47 u48 u49 u50 u51 u52 u53 u54 u55 u56 u57 u58 u59 u60 u61 u62 u63 u64 u65 u66 u67 u68 u69 u70 u71 u72 u73 u74 u75 u76 u77 u78 u79 u80 u81 u82 u83 u84 u85 u86 u87 u88 u89 u90 u127 : Value) (vs : Nat → Value) : Act := ⟨(List.toArray (u0 :: u1 :: u2 :: u3 :: (.pointer (some ⟨DE, 0, none⟩)) :: u5 :: u6 :: u7 :: (.pointer (some ⟨D, 0, none⟩)) :: u9 :: u10 :: (.int .i64 (k : Nat)) :: (.bool false) :: u13 :: u14 :: u15 :: u16 :: u17 :: u18 :: u19 :: u20 :: u21 :: u22 :: u23 :: u24 :: u25 :: u26 :: u27 :: u28 :: u29 :: u30 :: u31 :: u32 :: u33 :: u34 :: u35 :: u36 :: u37 :: u38 :: u39 :: u40 :: u41 :: u42 :: u43 :: u44 :: u45 :: u46 :: u47 :: u48 :: u49 :: u50 :: u51 :: u52 :: u53 :: u54 :: u55 :: u56 :: u57 :: u58 :: u59 :: u60 :: u61 :: u62 :: u63 :: u64 :: u65 :: u66 :: u67 :: u68 :: u69 :: u70 :: u71 :: u72 :: u73 :: u74 :: u75 :: u76 :: u77 :: u78 :: u79 :: u80 :: u81 :: u82 :: u83 :: u84 :: u85 :: u86 :: u87 :: u88 :: u89 :: u90 :: (vs 91) :: (vs 92) :: (vs 93) :: (vs 94) :: (vs 95) :: (vs 96) :: (vs 97) :: (vs 98) :: (vs 99) :: (vs 100) :: (vs 101) :: (vs 102) :: (vs 103) :: (vs 104) :: (vs 105) :: (vs 106) :: (vs 107) :: (vs 108) :: (vs 109) :: (vs 110) :: (vs 111) :: (vs 112) :: (vs 113) :: (vs 114) :: (vs 115) :: (vs 116) :: (vs 117) :: (vs 118) :: (vs 119) :: (vs 120) :: (vs 121) :: (vs 122) :: (vs 123) :: (vs 124) :: (vs 125) :: (vs 126) :: u127 :: [])), []⟩
def cvAT (D : Nat) (DE : Nat) (k : Nat) (x : Int) (i : Nat) (v : Value) (_ : World) : Prop := v = ((.bool false) :: (.bool true) :: (.bool true) :: (.int .i64 (k : Nat)) :: (.pointer (some ⟨D, 24, none⟩)) :: (.pointer (some ⟨D, 24 + k, none⟩)) :: (.int .i64 x) :: (.int .i64 (k : Nat)) :: (.pointer (some ⟨DE, 24, none⟩)) :: (.pointer (some ⟨DE, 24 + k, none⟩)) :: (.int .i64 x) :: (.bool false) :: (.bool false) :: (.bool false) :: (.bool false) :: (.bool false) :: (undef) :: (undef) :: (undef) :: (undef) :: (undef) :: (.bool false) :: (.bool false) :: (undef) :: (undef) :: (undef) :: (undef) :: (undef) :: (undef) :: (undef) :: (undef) :: (undef) :: (undef) :: (undef) :: (.bool false) :: (.bool false) :: [] : List Value).getD i undef
set_option maxRecDepth 40000 in
set_option maxHeartbeats 4000000 in
theorem cvA_region {Q : Exit → Act → World → Prop} {w0 : World} {D : Nat} {DE : Nat} {k : Nat} {x : Int} {y : Int} {u0 u1 u2 u3 u5 u6 u7 u9 u10 u13 u14 u15 u16 u17 u18 u19 u20 u21 u22 u23 u24 u25 u26 u27 u28 u29 u30 u31 u32 u33 u34 u35 u36 u37 u38 u39 u40 u41 u42 u43 u44 u45 u46 u47 u48 u49 u50 u51 u52 u53 u54 u55 u56 u57 u58 u59 u60 u61 u62 u63 u64 u65 u66 u67 u68 u69 u70 u71 u72 u73 u74 u75 u76 u77 u78 u79 u80 u81 u82 u83 u84 u85 u86 u87 u88 u89 u90 u127 u91 u92 u93 u94 u95 u96 u97 u98 u99 u100 u101 u102 u103 u104 u105 u106 u107 u108 u109 u110 u111 u112 u113 u114 u115 u116 u117 u118 u119 u120 u121 u122 u123 u124 u125 u126 : Value}
    (hk4 : k < 4) (hf : ∀ w, Below w0.heap.size w0 w → w.cell? ⟨D, 24 + k, none⟩ = some (.int .i64 x)) (he : ∀ w, Below w0.heap.size w0 w → w.cell? ⟨DE, 24 + k, none⟩ = some (.int .i64 x))
    (hQ : ∀ vs w, Below w0.heap.size w0 w → vs 126 = .bool false → Q .normal (cvAFr D DE k u0 u1 u2 u3 u5 u6 u7 u9 u10 u13 u14 u15 u16 u17 u18 u19 u20 u21 u22 u23 u24 u25 u26 u27 u28 u29 u30 u31 u32 u33 u34 u35 u36 u37 u38 u39 u40 u41 u42 u43 u44 u45 u46 u47 u48 u49 u50 u51 u52 u53 u54 u55 u56 u57 u58 u59 u60 u61 u62 u63 u64 u65 u66 u67 u68 u69 u70 u71 u72 u73 u74 u75 u76 u77 u78 u79 u80 u81 u82 u83 u84 u85 u86 u87 u88 u89 u90 u127 vs) w) : (Code.region 16 cvAOps true).wp Tryz.prog Q (cvAFr D DE k u0 u1 u2 u3 u5 u6 u7 u9 u10 u13 u14 u15 u16 u17 u18 u19 u20 u21 u22 u23 u24 u25 u26 u27 u28 u29 u30 u31 u32 u33 u34 u35 u36 u37 u38 u39 u40 u41 u42 u43 u44 u45 u46 u47 u48 u49 u50 u51 u52 u53 u54 u55 u56 u57 u58 u59 u60 u61 u62 u63 u64 u65 u66 u67 u68 u69 u70 u71 u72 u73 u74 u75 u76 u77 u78 u79 u80 u81 u82 u83 u84 u85 u86 u87 u88 u89 u90 u127 (fun k => if k = 91 then u91 else if k = 92 then u92 else if k = 93 then u93 else if k = 94 then u94 else if k = 95 then u95 else if k = 96 then u96 else if k = 97 then u97 else if k = 98 then u98 else if k = 99 then u99 else if k = 100 then u100 else if k = 101 then u101 else if k = 102 then u102 else if k = 103 then u103 else if k = 104 then u104 else if k = 105 then u105 else if k = 106 then u106 else if k = 107 then u107 else if k = 108 then u108 else if k = 109 then u109 else if k = 110 then u110 else if k = 111 then u111 else if k = 112 then u112 else if k = 113 then u113 else if k = 114 then u114 else if k = 115 then u115 else if k = 116 then u116 else if k = 117 then u117 else if k = 118 then u118 else if k = 119 then u119 else if k = 120 then u120 else if k = 121 then u121 else if k = 122 then u122 else if k = 123 then u123 else if k = 124 then u124 else if k = 125 then u125 else if k = 126 then u126 else undef)) w0 := by
  refine wp_region_vals (by kernel_rfl) (by decide) cvADst (by decide) (cvAFr D DE k u0 u1 u2 u3 u5 u6 u7 u9 u10 u13 u14 u15 u16 u17 u18 u19 u20 u21 u22 u23 u24 u25 u26 u27 u28 u29 u30 u31 u32 u33 u34 u35 u36 u37 u38 u39 u40 u41 u42 u43 u44 u45 u46 u47 u48 u49 u50 u51 u52 u53 u54 u55 u56 u57 u58 u59 u60 u61 u62 u63 u64 u65 u66 u67 u68 u69 u70 u71 u72 u73 u74 u75 u76 u77 u78 u79 u80 u81 u82 u83 u84 u85 u86 u87 u88 u89 u90 u127) (cvAT D DE k x) (fun _ _ _ _ h _ => h) (fun k => if k = 91 then u91 else if k = 92 then u92 else if k = 93 then u93 else if k = 94 then u94 else if k = 95 then u95 else if k = 96 then u96 else if k = 97 then u97 else if k = 98 then u98 else if k = 99 then u99 else if k = 100 then u100 else if k = 101 then u101 else if k = 102 then u102 else if k = 103 then u103 else if k = 104 then u104 else if k = 105 then u105 else if k = 106 then u106 else if k = 107 then u107 else if k = 108 then u108 else if k = 109 then u109 else if k = 110 then u110 else if k = 111 then u111 else if k = 112 then u112 else if k = 113 then u113 else if k = 114 then u114 else if k = 115 then u115 else if k = 116 then u116 else if k = 117 then u117 else if k = 118 then u118 else if k = 119 then u119 else if k = 120 then u120 else if k = 121 then u121 else if k = 122 then u122 else if k = 123 then u123 else if k = 124 then u124 else if k = 125 then u125 else if k = 126 then u126 else undef) ?_ ?_
  · intro i hi vs w hb hp
    have hi' : i < 36 := hi
    rcases (by omega : i = 0 ∨ i = 1 ∨ i = 2 ∨ i = 3 ∨ i = 4 ∨ i = 5 ∨ i = 6 ∨ i = 7 ∨ i = 8 ∨ i = 9 ∨ i = 10 ∨ i = 11 ∨ i = 12 ∨ i = 13 ∨ i = 14 ∨ i = 15 ∨ i = 16 ∨ i = 17 ∨ i = 18 ∨ i = 19 ∨ i = 20 ∨ i = 21 ∨ i = 22 ∨ i = 23 ∨ i = 24 ∨ i = 25 ∨ i = 26 ∨ i = 27 ∨ i = 28 ∨ i = 29 ∨ i = 30 ∨ i = 31 ∨ i = 32 ∨ i = 33 ∨ i = 34 ∨ i = 35) with rfl | rfl | rfl | rfl | rfl | rfl | rfl | rfl | rfl | rfl | rfl | rfl | rfl | rfl | rfl | rfl | rfl | rfl | rfl | rfl | rfl | rfl | rfl | rfl | rfl | rfl | rfl | rfl | rfl | rfl | rfl | rfl | rfl | rfl | rfl | rfl
    · exact wpOp_of _ rfl rfl (op_move rfl rfl ⟨_, rfl, rfl, Below.refl _ _⟩)
    · have h0 : vs 91 = .bool false := hp 0 (by decide)
      exact wpOp_of _ rfl rfl (op_notB' rfl h0 ⟨_, rfl, rfl, Below.refl _ _⟩)
    · have h1 : vs 92 = .bool true := hp 1 (by decide)
      exact wpOp_of _ rfl rfl (op_move rfl h1 ⟨_, rfl, rfl, Below.refl _ _⟩)
    · have h2 : vs 93 = .bool true := hp 2 (by decide)
      exact wpOp_guard _ rfl 2 true rfl 93 rfl (congrArg some h2) (op_move rfl rfl ⟨_, rfl, rfl, Below.refl _ _⟩)
    · have h2 : vs 93 = .bool true := hp 2 (by decide)
      exact wpOp_guard _ rfl 2 true rfl 93 rfl (congrArg some h2) (op_fEst4 rfl rfl ⟨_, rfl, rfl, Below.refl _ _⟩)
    · have h2 : vs 93 = .bool true := hp 2 (by decide)
      have h4 : vs 95 = .pointer (some ⟨D, 24, none⟩) := hp 4 (by decide)
      have h3 : vs 94 = .int .i64 (k : Nat) := hp 3 (by decide)
      exact wpOp_guard _ rfl 2 true rfl 93 rfl (congrArg some h2) (op_ixO hk4 rfl h4 h3 ⟨_, rfl, rfl, Below.refl _ _⟩)
    · have h2 : vs 93 = .bool true := hp 2 (by decide)
      have h5 : vs 96 = .pointer (some ⟨D, 24 + k, none⟩) := hp 5 (by decide)
      exact wpOp_guard _ rfl 2 true rfl 93 rfl (congrArg some h2) (op_ldint rfl h5 (hf w hb) ⟨_, rfl, rfl, Below.refl _ _⟩)
    · have h2 : vs 93 = .bool true := hp 2 (by decide)
      exact wpOp_guard _ rfl 2 true rfl 93 rfl (congrArg some h2) (op_move rfl rfl ⟨_, rfl, rfl, Below.refl _ _⟩)
    · have h2 : vs 93 = .bool true := hp 2 (by decide)
      exact wpOp_guard _ rfl 2 true rfl 93 rfl (congrArg some h2) (op_fEst4 rfl rfl ⟨_, rfl, rfl, Below.refl _ _⟩)
    · have h2 : vs 93 = .bool true := hp 2 (by decide)
      have h8 : vs 99 = .pointer (some ⟨DE, 24, none⟩) := hp 8 (by decide)
      have h7 : vs 98 = .int .i64 (k : Nat) := hp 7 (by decide)
      exact wpOp_guard _ rfl 2 true rfl 93 rfl (congrArg some h2) (op_ixO hk4 rfl h8 h7 ⟨_, rfl, rfl, Below.refl _ _⟩)
    · have h2 : vs 93 = .bool true := hp 2 (by decide)
      have h9 : vs 100 = .pointer (some ⟨DE, 24 + k, none⟩) := hp 9 (by decide)
      exact wpOp_guard _ rfl 2 true rfl 93 rfl (congrArg some h2) (op_ldint rfl h9 (he w hb) ⟨_, rfl, rfl, Below.refl _ _⟩)
    · have h2 : vs 93 = .bool true := hp 2 (by decide)
      have h6 : vs 97 = .int .i64 x := hp 6 (by decide)
      have h10 : vs 101 = .int .i64 x := hp 10 (by decide)
      exact wpOp_guard _ rfl 2 true rfl 93 rfl (congrArg some h2) (op_neqI rfl h6 h10 ⟨_, rfl, rfl, Below.refl _ _⟩)
    · have h2 : vs 93 = .bool true := hp 2 (by decide)
      have h11 : vs 102 = .bool false := hp 11 (by decide)
      exact wpOp_of _ rfl rfl (op_pickT rfl h2 h11 ⟨_, rfl, rfl, Below.refl _ _⟩)
    · have h12 : vs 103 = .bool false := hp 12 (by decide)
      exact wpOp_of _ rfl rfl (op_move rfl h12 ⟨_, rfl, rfl, Below.refl _ _⟩)
    · have h13 : vs 104 = .bool false := hp 13 (by decide)
      exact wpOp_guard _ rfl 13 false rfl 104 rfl (congrArg some h13) (op_move rfl rfl ⟨_, rfl, rfl, Below.refl _ _⟩)
    · have h13 : vs 104 = .bool false := hp 13 (by decide)
      have h14 : vs 105 = .bool false := hp 14 (by decide)
      exact wpOp_guard _ rfl 13 false rfl 104 rfl (congrArg some h13) (op_move rfl h14 ⟨_, rfl, rfl, Below.refl _ _⟩)
    · have h15 : vs 106 = .bool false := hp 15 (by decide)
      exact wpOp_skip _ rfl 15 true rfl 106 rfl (show some (vs 106) ≠ some (.bool true) by rw [h15]; exact fun e => by simp at e) ⟨_, rfl, rfl, Below.refl _ _⟩
    · have h15 : vs 106 = .bool false := hp 15 (by decide)
      exact wpOp_skip _ rfl 15 true rfl 106 rfl (show some (vs 106) ≠ some (.bool true) by rw [h15]; exact fun e => by simp at e) ⟨_, rfl, rfl, Below.refl _ _⟩
    · have h15 : vs 106 = .bool false := hp 15 (by decide)
      exact wpOp_skip _ rfl 15 true rfl 106 rfl (show some (vs 106) ≠ some (.bool true) by rw [h15]; exact fun e => by simp at e) ⟨_, rfl, rfl, Below.refl _ _⟩
    · have h15 : vs 106 = .bool false := hp 15 (by decide)
      exact wpOp_skip _ rfl 15 true rfl 106 rfl (show some (vs 106) ≠ some (.bool true) by rw [h15]; exact fun e => by simp at e) ⟨_, rfl, rfl, Below.refl _ _⟩
    · have h15 : vs 106 = .bool false := hp 15 (by decide)
      exact wpOp_skip _ rfl 15 true rfl 106 rfl (show some (vs 106) ≠ some (.bool true) by rw [h15]; exact fun e => by simp at e) ⟨_, rfl, rfl, Below.refl _ _⟩
    · have h13 : vs 104 = .bool false := hp 13 (by decide)
      have h15 : vs 106 = .bool false := hp 15 (by decide)
      exact wpOp_guard _ rfl 13 false rfl 104 rfl (congrArg some h13) (op_pickFC rfl h15 ⟨_, rfl, rfl, Below.refl _ _⟩)
    · have h13 : vs 104 = .bool false := hp 13 (by decide)
      have h21 : vs 112 = .bool false := hp 21 (by decide)
      exact wpOp_guard _ rfl 13 false rfl 104 rfl (congrArg some h13) (op_move rfl h21 ⟨_, rfl, rfl, Below.refl _ _⟩)
    · have h22 : vs 113 = .bool false := hp 22 (by decide)
      exact wpOp_skip _ rfl 22 true rfl 113 rfl (show some (vs 113) ≠ some (.bool true) by rw [h22]; exact fun e => by simp at e) ⟨_, rfl, rfl, Below.refl _ _⟩
    · have h22 : vs 113 = .bool false := hp 22 (by decide)
      exact wpOp_skip _ rfl 22 true rfl 113 rfl (show some (vs 113) ≠ some (.bool true) by rw [h22]; exact fun e => by simp at e) ⟨_, rfl, rfl, Below.refl _ _⟩
    · have h22 : vs 113 = .bool false := hp 22 (by decide)
      exact wpOp_skip _ rfl 22 true rfl 113 rfl (show some (vs 113) ≠ some (.bool true) by rw [h22]; exact fun e => by simp at e) ⟨_, rfl, rfl, Below.refl _ _⟩
    · have h22 : vs 113 = .bool false := hp 22 (by decide)
      exact wpOp_skip _ rfl 22 true rfl 113 rfl (show some (vs 113) ≠ some (.bool true) by rw [h22]; exact fun e => by simp at e) ⟨_, rfl, rfl, Below.refl _ _⟩
    · have h22 : vs 113 = .bool false := hp 22 (by decide)
      exact wpOp_skip _ rfl 22 true rfl 113 rfl (show some (vs 113) ≠ some (.bool true) by rw [h22]; exact fun e => by simp at e) ⟨_, rfl, rfl, Below.refl _ _⟩
    · have h22 : vs 113 = .bool false := hp 22 (by decide)
      exact wpOp_skip _ rfl 22 true rfl 113 rfl (show some (vs 113) ≠ some (.bool true) by rw [h22]; exact fun e => by simp at e) ⟨_, rfl, rfl, Below.refl _ _⟩
    · have h22 : vs 113 = .bool false := hp 22 (by decide)
      exact wpOp_skip _ rfl 22 true rfl 113 rfl (show some (vs 113) ≠ some (.bool true) by rw [h22]; exact fun e => by simp at e) ⟨_, rfl, rfl, Below.refl _ _⟩
    · have h22 : vs 113 = .bool false := hp 22 (by decide)
      exact wpOp_skip _ rfl 22 true rfl 113 rfl (show some (vs 113) ≠ some (.bool true) by rw [h22]; exact fun e => by simp at e) ⟨_, rfl, rfl, Below.refl _ _⟩
    · have h22 : vs 113 = .bool false := hp 22 (by decide)
      exact wpOp_skip _ rfl 22 true rfl 113 rfl (show some (vs 113) ≠ some (.bool true) by rw [h22]; exact fun e => by simp at e) ⟨_, rfl, rfl, Below.refl _ _⟩
    · have h22 : vs 113 = .bool false := hp 22 (by decide)
      exact wpOp_skip _ rfl 22 true rfl 113 rfl (show some (vs 113) ≠ some (.bool true) by rw [h22]; exact fun e => by simp at e) ⟨_, rfl, rfl, Below.refl _ _⟩
    · have h22 : vs 113 = .bool false := hp 22 (by decide)
      exact wpOp_skip _ rfl 22 true rfl 113 rfl (show some (vs 113) ≠ some (.bool true) by rw [h22]; exact fun e => by simp at e) ⟨_, rfl, rfl, Below.refl _ _⟩
    · have h13 : vs 104 = .bool false := hp 13 (by decide)
      have h22 : vs 113 = .bool false := hp 22 (by decide)
      exact wpOp_guard _ rfl 13 false rfl 104 rfl (congrArg some h13) (op_pickFC rfl h22 ⟨_, rfl, rfl, Below.refl _ _⟩)
    · have h13 : vs 104 = .bool false := hp 13 (by decide)
      have h34 : vs 125 = .bool false := hp 34 (by decide)
      exact wpOp_of _ rfl rfl (op_pickN rfl h13 h34 ⟨_, rfl, rfl, Below.refl _ _⟩)
  · intro vs w hb hT
    exact hQ vs w hb (hT 35 (by decide))
def cvBFr (D : Nat) (DE : Nat) (k : Nat) (u0 u1 u2 u3 u5 u6 u7 u9 u10 u13 u14 u15 u16 u17 u18 u19 u20 u21 u22 u23 u24 u25 u26 u27 u28 u29 u30 u31 u32 u33 u34 u35 u36 u37 u38 u39 u40 u41 u42 u43 u44 u45 u46 u47 u48 u49 u50 u51 u52 u53 u54 u55 u56 u57 u58 u59 u60 u61 u62 u63 u64 u65 u66 u67 u68 u69 u70 u71 u72 u73 u74 u75 u76 u77 u78 u79 u80 u81 u82 u83 u84 u85 u86 u87 u88 u89 u90 u127 : Value) (vs : Nat → Value) : Act := ⟨(List.toArray (u0 :: u1 :: u2 :: u3 :: (.pointer (some ⟨DE, 0, none⟩)) :: u5 :: u6 :: u7 :: (.pointer (some ⟨D, 0, none⟩)) :: u9 :: u10 :: (.int .i64 (k : Nat)) :: (.bool true) :: u13 :: u14 :: u15 :: u16 :: u17 :: u18 :: u19 :: u20 :: u21 :: u22 :: u23 :: u24 :: u25 :: u26 :: u27 :: u28 :: u29 :: u30 :: u31 :: u32 :: u33 :: u34 :: u35 :: u36 :: u37 :: u38 :: u39 :: u40 :: u41 :: u42 :: u43 :: u44 :: u45 :: u46 :: u47 :: u48 :: u49 :: u50 :: u51 :: u52 :: u53 :: u54 :: u55 :: u56 :: u57 :: u58 :: u59 :: u60 :: u61 :: u62 :: u63 :: u64 :: u65 :: u66 :: u67 :: u68 :: u69 :: u70 :: u71 :: u72 :: u73 :: u74 :: u75 :: u76 :: u77 :: u78 :: u79 :: u80 :: u81 :: u82 :: u83 :: u84 :: u85 :: u86 :: u87 :: u88 :: u89 :: u90 :: (vs 91) :: (vs 92) :: (vs 93) :: (vs 94) :: (vs 95) :: (vs 96) :: (vs 97) :: (vs 98) :: (vs 99) :: (vs 100) :: (vs 101) :: (vs 102) :: (vs 103) :: (vs 104) :: (vs 105) :: (vs 106) :: (vs 107) :: (vs 108) :: (vs 109) :: (vs 110) :: (vs 111) :: (vs 112) :: (vs 113) :: (vs 114) :: (vs 115) :: (vs 116) :: (vs 117) :: (vs 118) :: (vs 119) :: (vs 120) :: (vs 121) :: (vs 122) :: (vs 123) :: (vs 124) :: (vs 125) :: (vs 126) :: u127 :: [])), []⟩
def cvBT (D : Nat) (k : Nat) (i : Nat) (v : Value) (_ : World) : Prop := v = ((.bool true) :: (.bool false) :: (.bool false) :: (undef) :: (undef) :: (undef) :: (undef) :: (undef) :: (undef) :: (undef) :: (undef) :: (undef) :: (.bool false) :: (.bool false) :: (.bool true) :: (.bool true) :: (.int .i64 (k : Nat)) :: (.pointer (some ⟨D, 24, none⟩)) :: (.pointer (some ⟨D, 24 + k, none⟩)) :: (.int .i64 0) :: (.bool false) :: (.bool false) :: (.bool false) :: (undef) :: (undef) :: (undef) :: (undef) :: (undef) :: (undef) :: (undef) :: (undef) :: (undef) :: (undef) :: (undef) :: (.bool false) :: (.bool false) :: [] : List Value).getD i undef
set_option maxRecDepth 40000 in
set_option maxHeartbeats 4000000 in
theorem cvB_region {Q : Exit → Act → World → Prop} {w0 : World} {D : Nat} {DE : Nat} {k : Nat} {x : Int} {y : Int} {u0 u1 u2 u3 u5 u6 u7 u9 u10 u13 u14 u15 u16 u17 u18 u19 u20 u21 u22 u23 u24 u25 u26 u27 u28 u29 u30 u31 u32 u33 u34 u35 u36 u37 u38 u39 u40 u41 u42 u43 u44 u45 u46 u47 u48 u49 u50 u51 u52 u53 u54 u55 u56 u57 u58 u59 u60 u61 u62 u63 u64 u65 u66 u67 u68 u69 u70 u71 u72 u73 u74 u75 u76 u77 u78 u79 u80 u81 u82 u83 u84 u85 u86 u87 u88 u89 u90 u127 u91 u92 u93 u94 u95 u96 u97 u98 u99 u100 u101 u102 u103 u104 u105 u106 u107 u108 u109 u110 u111 u112 u113 u114 u115 u116 u117 u118 u119 u120 u121 u122 u123 u124 u125 u126 : Value}
    (hk4 : k < 4) (hf : ∀ w, Below w0.heap.size w0 w → w.cell? ⟨D, 24 + k, none⟩ = some (.int .i64 0)) (he : ∀ w, Below w0.heap.size w0 w → w.cell? ⟨DE, 24 + k, none⟩ = some (.int .i64 y))
    (hQ : ∀ vs w, Below w0.heap.size w0 w → vs 126 = .bool false → Q .normal (cvBFr D DE k u0 u1 u2 u3 u5 u6 u7 u9 u10 u13 u14 u15 u16 u17 u18 u19 u20 u21 u22 u23 u24 u25 u26 u27 u28 u29 u30 u31 u32 u33 u34 u35 u36 u37 u38 u39 u40 u41 u42 u43 u44 u45 u46 u47 u48 u49 u50 u51 u52 u53 u54 u55 u56 u57 u58 u59 u60 u61 u62 u63 u64 u65 u66 u67 u68 u69 u70 u71 u72 u73 u74 u75 u76 u77 u78 u79 u80 u81 u82 u83 u84 u85 u86 u87 u88 u89 u90 u127 vs) w) : (Code.region 16 cvAOps true).wp Tryz.prog Q (cvBFr D DE k u0 u1 u2 u3 u5 u6 u7 u9 u10 u13 u14 u15 u16 u17 u18 u19 u20 u21 u22 u23 u24 u25 u26 u27 u28 u29 u30 u31 u32 u33 u34 u35 u36 u37 u38 u39 u40 u41 u42 u43 u44 u45 u46 u47 u48 u49 u50 u51 u52 u53 u54 u55 u56 u57 u58 u59 u60 u61 u62 u63 u64 u65 u66 u67 u68 u69 u70 u71 u72 u73 u74 u75 u76 u77 u78 u79 u80 u81 u82 u83 u84 u85 u86 u87 u88 u89 u90 u127 (fun k => if k = 91 then u91 else if k = 92 then u92 else if k = 93 then u93 else if k = 94 then u94 else if k = 95 then u95 else if k = 96 then u96 else if k = 97 then u97 else if k = 98 then u98 else if k = 99 then u99 else if k = 100 then u100 else if k = 101 then u101 else if k = 102 then u102 else if k = 103 then u103 else if k = 104 then u104 else if k = 105 then u105 else if k = 106 then u106 else if k = 107 then u107 else if k = 108 then u108 else if k = 109 then u109 else if k = 110 then u110 else if k = 111 then u111 else if k = 112 then u112 else if k = 113 then u113 else if k = 114 then u114 else if k = 115 then u115 else if k = 116 then u116 else if k = 117 then u117 else if k = 118 then u118 else if k = 119 then u119 else if k = 120 then u120 else if k = 121 then u121 else if k = 122 then u122 else if k = 123 then u123 else if k = 124 then u124 else if k = 125 then u125 else if k = 126 then u126 else undef)) w0 := by
  refine wp_region_vals (by kernel_rfl) (by decide) cvADst (by decide) (cvBFr D DE k u0 u1 u2 u3 u5 u6 u7 u9 u10 u13 u14 u15 u16 u17 u18 u19 u20 u21 u22 u23 u24 u25 u26 u27 u28 u29 u30 u31 u32 u33 u34 u35 u36 u37 u38 u39 u40 u41 u42 u43 u44 u45 u46 u47 u48 u49 u50 u51 u52 u53 u54 u55 u56 u57 u58 u59 u60 u61 u62 u63 u64 u65 u66 u67 u68 u69 u70 u71 u72 u73 u74 u75 u76 u77 u78 u79 u80 u81 u82 u83 u84 u85 u86 u87 u88 u89 u90 u127) (cvBT D k) (fun _ _ _ _ h _ => h) (fun k => if k = 91 then u91 else if k = 92 then u92 else if k = 93 then u93 else if k = 94 then u94 else if k = 95 then u95 else if k = 96 then u96 else if k = 97 then u97 else if k = 98 then u98 else if k = 99 then u99 else if k = 100 then u100 else if k = 101 then u101 else if k = 102 then u102 else if k = 103 then u103 else if k = 104 then u104 else if k = 105 then u105 else if k = 106 then u106 else if k = 107 then u107 else if k = 108 then u108 else if k = 109 then u109 else if k = 110 then u110 else if k = 111 then u111 else if k = 112 then u112 else if k = 113 then u113 else if k = 114 then u114 else if k = 115 then u115 else if k = 116 then u116 else if k = 117 then u117 else if k = 118 then u118 else if k = 119 then u119 else if k = 120 then u120 else if k = 121 then u121 else if k = 122 then u122 else if k = 123 then u123 else if k = 124 then u124 else if k = 125 then u125 else if k = 126 then u126 else undef) ?_ ?_
  · intro i hi vs w hb hp
    have hi' : i < 36 := hi
    rcases (by omega : i = 0 ∨ i = 1 ∨ i = 2 ∨ i = 3 ∨ i = 4 ∨ i = 5 ∨ i = 6 ∨ i = 7 ∨ i = 8 ∨ i = 9 ∨ i = 10 ∨ i = 11 ∨ i = 12 ∨ i = 13 ∨ i = 14 ∨ i = 15 ∨ i = 16 ∨ i = 17 ∨ i = 18 ∨ i = 19 ∨ i = 20 ∨ i = 21 ∨ i = 22 ∨ i = 23 ∨ i = 24 ∨ i = 25 ∨ i = 26 ∨ i = 27 ∨ i = 28 ∨ i = 29 ∨ i = 30 ∨ i = 31 ∨ i = 32 ∨ i = 33 ∨ i = 34 ∨ i = 35) with rfl | rfl | rfl | rfl | rfl | rfl | rfl | rfl | rfl | rfl | rfl | rfl | rfl | rfl | rfl | rfl | rfl | rfl | rfl | rfl | rfl | rfl | rfl | rfl | rfl | rfl | rfl | rfl | rfl | rfl | rfl | rfl | rfl | rfl | rfl | rfl
    · exact wpOp_of _ rfl rfl (op_move rfl rfl ⟨_, rfl, rfl, Below.refl _ _⟩)
    · have h0 : vs 91 = .bool true := hp 0 (by decide)
      exact wpOp_of _ rfl rfl (op_notB' rfl h0 ⟨_, rfl, rfl, Below.refl _ _⟩)
    · have h1 : vs 92 = .bool false := hp 1 (by decide)
      exact wpOp_of _ rfl rfl (op_move rfl h1 ⟨_, rfl, rfl, Below.refl _ _⟩)
    · have h2 : vs 93 = .bool false := hp 2 (by decide)
      exact wpOp_skip _ rfl 2 true rfl 93 rfl (show some (vs 93) ≠ some (.bool true) by rw [h2]; exact fun e => by simp at e) ⟨_, rfl, rfl, Below.refl _ _⟩
    · have h2 : vs 93 = .bool false := hp 2 (by decide)
      exact wpOp_skip _ rfl 2 true rfl 93 rfl (show some (vs 93) ≠ some (.bool true) by rw [h2]; exact fun e => by simp at e) ⟨_, rfl, rfl, Below.refl _ _⟩
    · have h2 : vs 93 = .bool false := hp 2 (by decide)
      exact wpOp_skip _ rfl 2 true rfl 93 rfl (show some (vs 93) ≠ some (.bool true) by rw [h2]; exact fun e => by simp at e) ⟨_, rfl, rfl, Below.refl _ _⟩
    · have h2 : vs 93 = .bool false := hp 2 (by decide)
      exact wpOp_skip _ rfl 2 true rfl 93 rfl (show some (vs 93) ≠ some (.bool true) by rw [h2]; exact fun e => by simp at e) ⟨_, rfl, rfl, Below.refl _ _⟩
    · have h2 : vs 93 = .bool false := hp 2 (by decide)
      exact wpOp_skip _ rfl 2 true rfl 93 rfl (show some (vs 93) ≠ some (.bool true) by rw [h2]; exact fun e => by simp at e) ⟨_, rfl, rfl, Below.refl _ _⟩
    · have h2 : vs 93 = .bool false := hp 2 (by decide)
      exact wpOp_skip _ rfl 2 true rfl 93 rfl (show some (vs 93) ≠ some (.bool true) by rw [h2]; exact fun e => by simp at e) ⟨_, rfl, rfl, Below.refl _ _⟩
    · have h2 : vs 93 = .bool false := hp 2 (by decide)
      exact wpOp_skip _ rfl 2 true rfl 93 rfl (show some (vs 93) ≠ some (.bool true) by rw [h2]; exact fun e => by simp at e) ⟨_, rfl, rfl, Below.refl _ _⟩
    · have h2 : vs 93 = .bool false := hp 2 (by decide)
      exact wpOp_skip _ rfl 2 true rfl 93 rfl (show some (vs 93) ≠ some (.bool true) by rw [h2]; exact fun e => by simp at e) ⟨_, rfl, rfl, Below.refl _ _⟩
    · have h2 : vs 93 = .bool false := hp 2 (by decide)
      exact wpOp_skip _ rfl 2 true rfl 93 rfl (show some (vs 93) ≠ some (.bool true) by rw [h2]; exact fun e => by simp at e) ⟨_, rfl, rfl, Below.refl _ _⟩
    · have h2 : vs 93 = .bool false := hp 2 (by decide)
      exact wpOp_of _ rfl rfl (op_pickFC rfl h2 ⟨_, rfl, rfl, Below.refl _ _⟩)
    · have h12 : vs 103 = .bool false := hp 12 (by decide)
      exact wpOp_of _ rfl rfl (op_move rfl h12 ⟨_, rfl, rfl, Below.refl _ _⟩)
    · have h13 : vs 104 = .bool false := hp 13 (by decide)
      exact wpOp_guard _ rfl 13 false rfl 104 rfl (congrArg some h13) (op_move rfl rfl ⟨_, rfl, rfl, Below.refl _ _⟩)
    · have h13 : vs 104 = .bool false := hp 13 (by decide)
      have h14 : vs 105 = .bool true := hp 14 (by decide)
      exact wpOp_guard _ rfl 13 false rfl 104 rfl (congrArg some h13) (op_move rfl h14 ⟨_, rfl, rfl, Below.refl _ _⟩)
    · have h15 : vs 106 = .bool true := hp 15 (by decide)
      exact wpOp_guard _ rfl 15 true rfl 106 rfl (congrArg some h15) (op_move rfl rfl ⟨_, rfl, rfl, Below.refl _ _⟩)
    · have h15 : vs 106 = .bool true := hp 15 (by decide)
      exact wpOp_guard _ rfl 15 true rfl 106 rfl (congrArg some h15) (op_fEst4 rfl rfl ⟨_, rfl, rfl, Below.refl _ _⟩)
    · have h15 : vs 106 = .bool true := hp 15 (by decide)
      have h17 : vs 108 = .pointer (some ⟨D, 24, none⟩) := hp 17 (by decide)
      have h16 : vs 107 = .int .i64 (k : Nat) := hp 16 (by decide)
      exact wpOp_guard _ rfl 15 true rfl 106 rfl (congrArg some h15) (op_ixO hk4 rfl h17 h16 ⟨_, rfl, rfl, Below.refl _ _⟩)
    · have h15 : vs 106 = .bool true := hp 15 (by decide)
      have h18 : vs 109 = .pointer (some ⟨D, 24 + k, none⟩) := hp 18 (by decide)
      exact wpOp_guard _ rfl 15 true rfl 106 rfl (congrArg some h15) (op_ldint rfl h18 (hf w hb) ⟨_, rfl, rfl, Below.refl _ _⟩)
    · have h15 : vs 106 = .bool true := hp 15 (by decide)
      have h19 : vs 110 = .int .i64 0 := hp 19 (by decide)
      exact wpOp_guard _ rfl 15 true rfl 106 rfl (congrArg some h15) (op_neqC (by decide) rfl h19 ⟨_, rfl, rfl, Below.refl _ _⟩)
    · have h13 : vs 104 = .bool false := hp 13 (by decide)
      have h15 : vs 106 = .bool true := hp 15 (by decide)
      have h20 : vs 111 = .bool false := hp 20 (by decide)
      exact wpOp_guard _ rfl 13 false rfl 104 rfl (congrArg some h13) (op_pickT rfl h15 h20 ⟨_, rfl, rfl, Below.refl _ _⟩)
    · have h13 : vs 104 = .bool false := hp 13 (by decide)
      have h21 : vs 112 = .bool false := hp 21 (by decide)
      exact wpOp_guard _ rfl 13 false rfl 104 rfl (congrArg some h13) (op_move rfl h21 ⟨_, rfl, rfl, Below.refl _ _⟩)
    · have h22 : vs 113 = .bool false := hp 22 (by decide)
      exact wpOp_skip _ rfl 22 true rfl 113 rfl (show some (vs 113) ≠ some (.bool true) by rw [h22]; exact fun e => by simp at e) ⟨_, rfl, rfl, Below.refl _ _⟩
    · have h22 : vs 113 = .bool false := hp 22 (by decide)
      exact wpOp_skip _ rfl 22 true rfl 113 rfl (show some (vs 113) ≠ some (.bool true) by rw [h22]; exact fun e => by simp at e) ⟨_, rfl, rfl, Below.refl _ _⟩
    · have h22 : vs 113 = .bool false := hp 22 (by decide)
      exact wpOp_skip _ rfl 22 true rfl 113 rfl (show some (vs 113) ≠ some (.bool true) by rw [h22]; exact fun e => by simp at e) ⟨_, rfl, rfl, Below.refl _ _⟩
    · have h22 : vs 113 = .bool false := hp 22 (by decide)
      exact wpOp_skip _ rfl 22 true rfl 113 rfl (show some (vs 113) ≠ some (.bool true) by rw [h22]; exact fun e => by simp at e) ⟨_, rfl, rfl, Below.refl _ _⟩
    · have h22 : vs 113 = .bool false := hp 22 (by decide)
      exact wpOp_skip _ rfl 22 true rfl 113 rfl (show some (vs 113) ≠ some (.bool true) by rw [h22]; exact fun e => by simp at e) ⟨_, rfl, rfl, Below.refl _ _⟩
    · have h22 : vs 113 = .bool false := hp 22 (by decide)
      exact wpOp_skip _ rfl 22 true rfl 113 rfl (show some (vs 113) ≠ some (.bool true) by rw [h22]; exact fun e => by simp at e) ⟨_, rfl, rfl, Below.refl _ _⟩
    · have h22 : vs 113 = .bool false := hp 22 (by decide)
      exact wpOp_skip _ rfl 22 true rfl 113 rfl (show some (vs 113) ≠ some (.bool true) by rw [h22]; exact fun e => by simp at e) ⟨_, rfl, rfl, Below.refl _ _⟩
    · have h22 : vs 113 = .bool false := hp 22 (by decide)
      exact wpOp_skip _ rfl 22 true rfl 113 rfl (show some (vs 113) ≠ some (.bool true) by rw [h22]; exact fun e => by simp at e) ⟨_, rfl, rfl, Below.refl _ _⟩
    · have h22 : vs 113 = .bool false := hp 22 (by decide)
      exact wpOp_skip _ rfl 22 true rfl 113 rfl (show some (vs 113) ≠ some (.bool true) by rw [h22]; exact fun e => by simp at e) ⟨_, rfl, rfl, Below.refl _ _⟩
    · have h22 : vs 113 = .bool false := hp 22 (by decide)
      exact wpOp_skip _ rfl 22 true rfl 113 rfl (show some (vs 113) ≠ some (.bool true) by rw [h22]; exact fun e => by simp at e) ⟨_, rfl, rfl, Below.refl _ _⟩
    · have h22 : vs 113 = .bool false := hp 22 (by decide)
      exact wpOp_skip _ rfl 22 true rfl 113 rfl (show some (vs 113) ≠ some (.bool true) by rw [h22]; exact fun e => by simp at e) ⟨_, rfl, rfl, Below.refl _ _⟩
    · have h13 : vs 104 = .bool false := hp 13 (by decide)
      have h22 : vs 113 = .bool false := hp 22 (by decide)
      exact wpOp_guard _ rfl 13 false rfl 104 rfl (congrArg some h13) (op_pickFC rfl h22 ⟨_, rfl, rfl, Below.refl _ _⟩)
    · have h13 : vs 104 = .bool false := hp 13 (by decide)
      have h34 : vs 125 = .bool false := hp 34 (by decide)
      exact wpOp_of _ rfl rfl (op_pickN rfl h13 h34 ⟨_, rfl, rfl, Below.refl _ _⟩)
  · intro vs w hb hT
    exact hQ vs w hb (hT 35 (by decide))
def cvCFr (D : Nat) (DE : Nat) (k : Nat) (u0 u1 u2 u3 u5 u6 u7 u9 u10 u13 u14 u15 u16 u17 u18 u19 u20 u21 u22 u23 u24 u25 u26 u27 u28 u29 u30 u31 u32 u33 u34 u35 u36 u37 u38 u39 u40 u41 u42 u43 u44 u45 u46 u47 u48 u49 u50 u51 u52 u53 u54 u55 u56 u57 u58 u59 u60 u61 u62 u63 u64 u65 u66 u67 u68 u69 u70 u71 u72 u73 u74 u75 u76 u77 u78 u79 u80 u81 u82 u83 u84 u85 u86 u87 u88 u89 u90 u127 : Value) (vs : Nat → Value) : Act := ⟨(List.toArray (u0 :: u1 :: u2 :: u3 :: (.pointer (some ⟨DE, 0, none⟩)) :: u5 :: u6 :: u7 :: (.pointer (some ⟨D, 0, none⟩)) :: u9 :: u10 :: (.int .i64 (k : Nat)) :: (.bool true) :: u13 :: u14 :: u15 :: u16 :: u17 :: u18 :: u19 :: u20 :: u21 :: u22 :: u23 :: u24 :: u25 :: u26 :: u27 :: u28 :: u29 :: u30 :: u31 :: u32 :: u33 :: u34 :: u35 :: u36 :: u37 :: u38 :: u39 :: u40 :: u41 :: u42 :: u43 :: u44 :: u45 :: u46 :: u47 :: u48 :: u49 :: u50 :: u51 :: u52 :: u53 :: u54 :: u55 :: u56 :: u57 :: u58 :: u59 :: u60 :: u61 :: u62 :: u63 :: u64 :: u65 :: u66 :: u67 :: u68 :: u69 :: u70 :: u71 :: u72 :: u73 :: u74 :: u75 :: u76 :: u77 :: u78 :: u79 :: u80 :: u81 :: u82 :: u83 :: u84 :: u85 :: u86 :: u87 :: u88 :: u89 :: u90 :: (vs 91) :: (vs 92) :: (vs 93) :: (vs 94) :: (vs 95) :: (vs 96) :: (vs 97) :: (vs 98) :: (vs 99) :: (vs 100) :: (vs 101) :: (vs 102) :: (vs 103) :: (vs 104) :: (vs 105) :: (vs 106) :: (vs 107) :: (vs 108) :: (vs 109) :: (vs 110) :: (vs 111) :: (vs 112) :: (vs 113) :: (vs 114) :: (vs 115) :: (vs 116) :: (vs 117) :: (vs 118) :: (vs 119) :: (vs 120) :: (vs 121) :: (vs 122) :: (vs 123) :: (vs 124) :: (vs 125) :: (vs 126) :: u127 :: [])), []⟩
def cvCT (D : Nat) (DE : Nat) (k : Nat) (x : Int) (y : Int) (i : Nat) (v : Value) (_ : World) : Prop := v = ((.bool true) :: (.bool false) :: (.bool false) :: (undef) :: (undef) :: (undef) :: (undef) :: (undef) :: (undef) :: (undef) :: (undef) :: (undef) :: (.bool false) :: (.bool false) :: (.bool true) :: (.bool true) :: (.int .i64 (k : Nat)) :: (.pointer (some ⟨D, 24, none⟩)) :: (.pointer (some ⟨D, 24 + k, none⟩)) :: (.int .i64 x) :: (.bool true) :: (.bool true) :: (.bool true) :: (.int .i64 (k : Nat)) :: (.pointer (some ⟨D, 24, none⟩)) :: (.pointer (some ⟨D, 24 + k, none⟩)) :: (.int .i64 x) :: (.int .i64 (k : Nat)) :: (.pointer (some ⟨DE, 24, none⟩)) :: (.pointer (some ⟨DE, 24 + k, none⟩)) :: (.int .i64 y) :: (.int .i64 (y + 1)) :: (.int .i64 x) :: (.bool false) :: (.bool false) :: (.bool false) :: [] : List Value).getD i undef
set_option maxRecDepth 40000 in
set_option maxHeartbeats 4000000 in
theorem cvC_region {Q : Exit → Act → World → Prop} {w0 : World} {D : Nat} {DE : Nat} {k : Nat} {x : Int} {y : Int} {u0 u1 u2 u3 u5 u6 u7 u9 u10 u13 u14 u15 u16 u17 u18 u19 u20 u21 u22 u23 u24 u25 u26 u27 u28 u29 u30 u31 u32 u33 u34 u35 u36 u37 u38 u39 u40 u41 u42 u43 u44 u45 u46 u47 u48 u49 u50 u51 u52 u53 u54 u55 u56 u57 u58 u59 u60 u61 u62 u63 u64 u65 u66 u67 u68 u69 u70 u71 u72 u73 u74 u75 u76 u77 u78 u79 u80 u81 u82 u83 u84 u85 u86 u87 u88 u89 u90 u127 u91 u92 u93 u94 u95 u96 u97 u98 u99 u100 u101 u102 u103 u104 u105 u106 u107 u108 u109 u110 u111 u112 u113 u114 u115 u116 u117 u118 u119 u120 u121 u122 u123 u124 u125 u126 : Value}
    (hk4 : k < 4) (hf : ∀ w, Below w0.heap.size w0 w → w.cell? ⟨D, 24 + k, none⟩ = some (.int .i64 x)) (he : ∀ w, Below w0.heap.size w0 w → w.cell? ⟨DE, 24 + k, none⟩ = some (.int .i64 y)) (hx0 : x ≠ 0) (hy0 : 0 ≤ y) (hy1 : y ≤ 1000) (hxm : (if y + 1 ≤ 1000 then y + 1 else 1000) = x)
    (hQ : ∀ vs w, Below w0.heap.size w0 w → vs 126 = .bool false → Q .normal (cvCFr D DE k u0 u1 u2 u3 u5 u6 u7 u9 u10 u13 u14 u15 u16 u17 u18 u19 u20 u21 u22 u23 u24 u25 u26 u27 u28 u29 u30 u31 u32 u33 u34 u35 u36 u37 u38 u39 u40 u41 u42 u43 u44 u45 u46 u47 u48 u49 u50 u51 u52 u53 u54 u55 u56 u57 u58 u59 u60 u61 u62 u63 u64 u65 u66 u67 u68 u69 u70 u71 u72 u73 u74 u75 u76 u77 u78 u79 u80 u81 u82 u83 u84 u85 u86 u87 u88 u89 u90 u127 vs) w) : (Code.region 16 cvAOps true).wp Tryz.prog Q (cvCFr D DE k u0 u1 u2 u3 u5 u6 u7 u9 u10 u13 u14 u15 u16 u17 u18 u19 u20 u21 u22 u23 u24 u25 u26 u27 u28 u29 u30 u31 u32 u33 u34 u35 u36 u37 u38 u39 u40 u41 u42 u43 u44 u45 u46 u47 u48 u49 u50 u51 u52 u53 u54 u55 u56 u57 u58 u59 u60 u61 u62 u63 u64 u65 u66 u67 u68 u69 u70 u71 u72 u73 u74 u75 u76 u77 u78 u79 u80 u81 u82 u83 u84 u85 u86 u87 u88 u89 u90 u127 (fun k => if k = 91 then u91 else if k = 92 then u92 else if k = 93 then u93 else if k = 94 then u94 else if k = 95 then u95 else if k = 96 then u96 else if k = 97 then u97 else if k = 98 then u98 else if k = 99 then u99 else if k = 100 then u100 else if k = 101 then u101 else if k = 102 then u102 else if k = 103 then u103 else if k = 104 then u104 else if k = 105 then u105 else if k = 106 then u106 else if k = 107 then u107 else if k = 108 then u108 else if k = 109 then u109 else if k = 110 then u110 else if k = 111 then u111 else if k = 112 then u112 else if k = 113 then u113 else if k = 114 then u114 else if k = 115 then u115 else if k = 116 then u116 else if k = 117 then u117 else if k = 118 then u118 else if k = 119 then u119 else if k = 120 then u120 else if k = 121 then u121 else if k = 122 then u122 else if k = 123 then u123 else if k = 124 then u124 else if k = 125 then u125 else if k = 126 then u126 else undef)) w0 := by
  refine wp_region_vals (by kernel_rfl) (by decide) cvADst (by decide) (cvCFr D DE k u0 u1 u2 u3 u5 u6 u7 u9 u10 u13 u14 u15 u16 u17 u18 u19 u20 u21 u22 u23 u24 u25 u26 u27 u28 u29 u30 u31 u32 u33 u34 u35 u36 u37 u38 u39 u40 u41 u42 u43 u44 u45 u46 u47 u48 u49 u50 u51 u52 u53 u54 u55 u56 u57 u58 u59 u60 u61 u62 u63 u64 u65 u66 u67 u68 u69 u70 u71 u72 u73 u74 u75 u76 u77 u78 u79 u80 u81 u82 u83 u84 u85 u86 u87 u88 u89 u90 u127) (cvCT D DE k x y) (fun _ _ _ _ h _ => h) (fun k => if k = 91 then u91 else if k = 92 then u92 else if k = 93 then u93 else if k = 94 then u94 else if k = 95 then u95 else if k = 96 then u96 else if k = 97 then u97 else if k = 98 then u98 else if k = 99 then u99 else if k = 100 then u100 else if k = 101 then u101 else if k = 102 then u102 else if k = 103 then u103 else if k = 104 then u104 else if k = 105 then u105 else if k = 106 then u106 else if k = 107 then u107 else if k = 108 then u108 else if k = 109 then u109 else if k = 110 then u110 else if k = 111 then u111 else if k = 112 then u112 else if k = 113 then u113 else if k = 114 then u114 else if k = 115 then u115 else if k = 116 then u116 else if k = 117 then u117 else if k = 118 then u118 else if k = 119 then u119 else if k = 120 then u120 else if k = 121 then u121 else if k = 122 then u122 else if k = 123 then u123 else if k = 124 then u124 else if k = 125 then u125 else if k = 126 then u126 else undef) ?_ ?_
  · intro i hi vs w hb hp
    have hi' : i < 36 := hi
    rcases (by omega : i = 0 ∨ i = 1 ∨ i = 2 ∨ i = 3 ∨ i = 4 ∨ i = 5 ∨ i = 6 ∨ i = 7 ∨ i = 8 ∨ i = 9 ∨ i = 10 ∨ i = 11 ∨ i = 12 ∨ i = 13 ∨ i = 14 ∨ i = 15 ∨ i = 16 ∨ i = 17 ∨ i = 18 ∨ i = 19 ∨ i = 20 ∨ i = 21 ∨ i = 22 ∨ i = 23 ∨ i = 24 ∨ i = 25 ∨ i = 26 ∨ i = 27 ∨ i = 28 ∨ i = 29 ∨ i = 30 ∨ i = 31 ∨ i = 32 ∨ i = 33 ∨ i = 34 ∨ i = 35) with rfl | rfl | rfl | rfl | rfl | rfl | rfl | rfl | rfl | rfl | rfl | rfl | rfl | rfl | rfl | rfl | rfl | rfl | rfl | rfl | rfl | rfl | rfl | rfl | rfl | rfl | rfl | rfl | rfl | rfl | rfl | rfl | rfl | rfl | rfl | rfl
    · exact wpOp_of _ rfl rfl (op_move rfl rfl ⟨_, rfl, rfl, Below.refl _ _⟩)
    · have h0 : vs 91 = .bool true := hp 0 (by decide)
      exact wpOp_of _ rfl rfl (op_notB' rfl h0 ⟨_, rfl, rfl, Below.refl _ _⟩)
    · have h1 : vs 92 = .bool false := hp 1 (by decide)
      exact wpOp_of _ rfl rfl (op_move rfl h1 ⟨_, rfl, rfl, Below.refl _ _⟩)
    · have h2 : vs 93 = .bool false := hp 2 (by decide)
      exact wpOp_skip _ rfl 2 true rfl 93 rfl (show some (vs 93) ≠ some (.bool true) by rw [h2]; exact fun e => by simp at e) ⟨_, rfl, rfl, Below.refl _ _⟩
    · have h2 : vs 93 = .bool false := hp 2 (by decide)
      exact wpOp_skip _ rfl 2 true rfl 93 rfl (show some (vs 93) ≠ some (.bool true) by rw [h2]; exact fun e => by simp at e) ⟨_, rfl, rfl, Below.refl _ _⟩
    · have h2 : vs 93 = .bool false := hp 2 (by decide)
      exact wpOp_skip _ rfl 2 true rfl 93 rfl (show some (vs 93) ≠ some (.bool true) by rw [h2]; exact fun e => by simp at e) ⟨_, rfl, rfl, Below.refl _ _⟩
    · have h2 : vs 93 = .bool false := hp 2 (by decide)
      exact wpOp_skip _ rfl 2 true rfl 93 rfl (show some (vs 93) ≠ some (.bool true) by rw [h2]; exact fun e => by simp at e) ⟨_, rfl, rfl, Below.refl _ _⟩
    · have h2 : vs 93 = .bool false := hp 2 (by decide)
      exact wpOp_skip _ rfl 2 true rfl 93 rfl (show some (vs 93) ≠ some (.bool true) by rw [h2]; exact fun e => by simp at e) ⟨_, rfl, rfl, Below.refl _ _⟩
    · have h2 : vs 93 = .bool false := hp 2 (by decide)
      exact wpOp_skip _ rfl 2 true rfl 93 rfl (show some (vs 93) ≠ some (.bool true) by rw [h2]; exact fun e => by simp at e) ⟨_, rfl, rfl, Below.refl _ _⟩
    · have h2 : vs 93 = .bool false := hp 2 (by decide)
      exact wpOp_skip _ rfl 2 true rfl 93 rfl (show some (vs 93) ≠ some (.bool true) by rw [h2]; exact fun e => by simp at e) ⟨_, rfl, rfl, Below.refl _ _⟩
    · have h2 : vs 93 = .bool false := hp 2 (by decide)
      exact wpOp_skip _ rfl 2 true rfl 93 rfl (show some (vs 93) ≠ some (.bool true) by rw [h2]; exact fun e => by simp at e) ⟨_, rfl, rfl, Below.refl _ _⟩
    · have h2 : vs 93 = .bool false := hp 2 (by decide)
      exact wpOp_skip _ rfl 2 true rfl 93 rfl (show some (vs 93) ≠ some (.bool true) by rw [h2]; exact fun e => by simp at e) ⟨_, rfl, rfl, Below.refl _ _⟩
    · have h2 : vs 93 = .bool false := hp 2 (by decide)
      exact wpOp_of _ rfl rfl (op_pickFC rfl h2 ⟨_, rfl, rfl, Below.refl _ _⟩)
    · have h12 : vs 103 = .bool false := hp 12 (by decide)
      exact wpOp_of _ rfl rfl (op_move rfl h12 ⟨_, rfl, rfl, Below.refl _ _⟩)
    · have h13 : vs 104 = .bool false := hp 13 (by decide)
      exact wpOp_guard _ rfl 13 false rfl 104 rfl (congrArg some h13) (op_move rfl rfl ⟨_, rfl, rfl, Below.refl _ _⟩)
    · have h13 : vs 104 = .bool false := hp 13 (by decide)
      have h14 : vs 105 = .bool true := hp 14 (by decide)
      exact wpOp_guard _ rfl 13 false rfl 104 rfl (congrArg some h13) (op_move rfl h14 ⟨_, rfl, rfl, Below.refl _ _⟩)
    · have h15 : vs 106 = .bool true := hp 15 (by decide)
      exact wpOp_guard _ rfl 15 true rfl 106 rfl (congrArg some h15) (op_move rfl rfl ⟨_, rfl, rfl, Below.refl _ _⟩)
    · have h15 : vs 106 = .bool true := hp 15 (by decide)
      exact wpOp_guard _ rfl 15 true rfl 106 rfl (congrArg some h15) (op_fEst4 rfl rfl ⟨_, rfl, rfl, Below.refl _ _⟩)
    · have h15 : vs 106 = .bool true := hp 15 (by decide)
      have h17 : vs 108 = .pointer (some ⟨D, 24, none⟩) := hp 17 (by decide)
      have h16 : vs 107 = .int .i64 (k : Nat) := hp 16 (by decide)
      exact wpOp_guard _ rfl 15 true rfl 106 rfl (congrArg some h15) (op_ixO hk4 rfl h17 h16 ⟨_, rfl, rfl, Below.refl _ _⟩)
    · have h15 : vs 106 = .bool true := hp 15 (by decide)
      have h18 : vs 109 = .pointer (some ⟨D, 24 + k, none⟩) := hp 18 (by decide)
      exact wpOp_guard _ rfl 15 true rfl 106 rfl (congrArg some h15) (op_ldint rfl h18 (hf w hb) ⟨_, rfl, rfl, Below.refl _ _⟩)
    · have h15 : vs 106 = .bool true := hp 15 (by decide)
      have h19 : vs 110 = .int .i64 x := hp 19 (by decide)
      exact wpOp_guard _ rfl 15 true rfl 106 rfl (congrArg some h15) (op_neqC (by simp [hx0]) rfl h19 ⟨_, rfl, rfl, Below.refl _ _⟩)
    · have h13 : vs 104 = .bool false := hp 13 (by decide)
      have h15 : vs 106 = .bool true := hp 15 (by decide)
      have h20 : vs 111 = .bool true := hp 20 (by decide)
      exact wpOp_guard _ rfl 13 false rfl 104 rfl (congrArg some h13) (op_pickT rfl h15 h20 ⟨_, rfl, rfl, Below.refl _ _⟩)
    · have h13 : vs 104 = .bool false := hp 13 (by decide)
      have h21 : vs 112 = .bool true := hp 21 (by decide)
      exact wpOp_guard _ rfl 13 false rfl 104 rfl (congrArg some h13) (op_move rfl h21 ⟨_, rfl, rfl, Below.refl _ _⟩)
    · have h22 : vs 113 = .bool true := hp 22 (by decide)
      exact wpOp_guard _ rfl 22 true rfl 113 rfl (congrArg some h22) (op_move rfl rfl ⟨_, rfl, rfl, Below.refl _ _⟩)
    · have h22 : vs 113 = .bool true := hp 22 (by decide)
      exact wpOp_guard _ rfl 22 true rfl 113 rfl (congrArg some h22) (op_fEst4 rfl rfl ⟨_, rfl, rfl, Below.refl _ _⟩)
    · have h22 : vs 113 = .bool true := hp 22 (by decide)
      have h24 : vs 115 = .pointer (some ⟨D, 24, none⟩) := hp 24 (by decide)
      have h23 : vs 114 = .int .i64 (k : Nat) := hp 23 (by decide)
      exact wpOp_guard _ rfl 22 true rfl 113 rfl (congrArg some h22) (op_ixO hk4 rfl h24 h23 ⟨_, rfl, rfl, Below.refl _ _⟩)
    · have h22 : vs 113 = .bool true := hp 22 (by decide)
      have h25 : vs 116 = .pointer (some ⟨D, 24 + k, none⟩) := hp 25 (by decide)
      exact wpOp_guard _ rfl 22 true rfl 113 rfl (congrArg some h22) (op_ldint rfl h25 (hf w hb) ⟨_, rfl, rfl, Below.refl _ _⟩)
    · have h22 : vs 113 = .bool true := hp 22 (by decide)
      exact wpOp_guard _ rfl 22 true rfl 113 rfl (congrArg some h22) (op_move rfl rfl ⟨_, rfl, rfl, Below.refl _ _⟩)
    · have h22 : vs 113 = .bool true := hp 22 (by decide)
      exact wpOp_guard _ rfl 22 true rfl 113 rfl (congrArg some h22) (op_fEst4 rfl rfl ⟨_, rfl, rfl, Below.refl _ _⟩)
    · have h22 : vs 113 = .bool true := hp 22 (by decide)
      have h28 : vs 119 = .pointer (some ⟨DE, 24, none⟩) := hp 28 (by decide)
      have h27 : vs 118 = .int .i64 (k : Nat) := hp 27 (by decide)
      exact wpOp_guard _ rfl 22 true rfl 113 rfl (congrArg some h22) (op_ixO hk4 rfl h28 h27 ⟨_, rfl, rfl, Below.refl _ _⟩)
    · have h22 : vs 113 = .bool true := hp 22 (by decide)
      have h29 : vs 120 = .pointer (some ⟨DE, 24 + k, none⟩) := hp 29 (by decide)
      exact wpOp_guard _ rfl 22 true rfl 113 rfl (congrArg some h22) (op_ldint rfl h29 (he w hb) ⟨_, rfl, rfl, Below.refl _ _⟩)
    · have h22 : vs 113 = .bool true := hp 22 (by decide)
      have h30 : vs 121 = .int .i64 y := hp 30 (by decide)
      exact wpOp_guard _ rfl 22 true rfl 113 rfl (congrArg some h22) (op_addC (by omega) (by omega) rfl h30 ⟨_, rfl, rfl, Below.refl _ _⟩)
    · have h22 : vs 113 = .bool true := hp 22 (by decide)
      have h31 : vs 122 = .int .i64 (y + 1) := hp 31 (by decide)
      exact wpOp_guard _ rfl 22 true rfl 113 rfl (congrArg some h22) (op_minC hxm rfl rfl h31 ⟨_, rfl, rfl, Below.refl _ _⟩)
    · have h22 : vs 113 = .bool true := hp 22 (by decide)
      have h26 : vs 117 = .int .i64 x := hp 26 (by decide)
      have h32 : vs 123 = .int .i64 x := hp 32 (by decide)
      exact wpOp_guard _ rfl 22 true rfl 113 rfl (congrArg some h22) (op_neqI rfl h26 h32 ⟨_, rfl, rfl, Below.refl _ _⟩)
    · have h13 : vs 104 = .bool false := hp 13 (by decide)
      have h22 : vs 113 = .bool true := hp 22 (by decide)
      have h33 : vs 124 = .bool false := hp 33 (by decide)
      exact wpOp_guard _ rfl 13 false rfl 104 rfl (congrArg some h13) (op_pickT rfl h22 h33 ⟨_, rfl, rfl, Below.refl _ _⟩)
    · have h13 : vs 104 = .bool false := hp 13 (by decide)
      have h34 : vs 125 = .bool false := hp 34 (by decide)
      exact wpOp_of _ rfl rfl (op_pickN rfl h13 h34 ⟨_, rfl, rfl, Below.refl _ _⟩)
  · intro vs w hb hT
    exact hQ vs w hb (hT 35 (by decide))
end Go.Proofs.YtoefekkdjcflmaaGreatDoor.Et

