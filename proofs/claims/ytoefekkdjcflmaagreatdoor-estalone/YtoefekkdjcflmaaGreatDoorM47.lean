/- Parts of the proof. -/
import Derived.Test.YtoefekkdjcflmaaGreatDoorM46
namespace Go.Proofs.YtoefekkdjcflmaaGreatDoor.Et
open Go.RowKit Go.Sort Go.Proofs.YtoefekkdjcflmaaGreatDoor.Qm
set_option linter.unusedVariables false
theorem enters_conf : ∀ (args : Array Value) (a : World), Sem.run Tryz.prog (callFunc 28 args) a = Result.ok (Next.enter 28 args) a := by
  intro args a; simp [callFunc, Tryz.func28, go_sem]; rfl
theorem enters_init : ∀ (args : Array Value) (a : World), Sem.run Tryz.prog (callFunc 17 args) a = Result.ok (Next.enter 17 args) a := by
  intro args a; simp [callFunc, Tryz.func17, go_sem]; rfl
theorem enters_step : ∀ (args : Array Value) (a : World), Sem.run Tryz.prog (callFunc 14 args) a = Result.ok (Next.enter 14 args) a := by
  intro args a; simp [callFunc, Tryz.func14, go_sem]; rfl
theorem enters_words : ∀ (args : Array Value) (a : World), Sem.run Tryz.prog (callFunc 25 args) a = Result.ok (Next.enter 25 args) a := by
  intro args a; simp [callFunc, Tryz.func25, go_sem]; rfl
section
variable {a : Act} {w : World} {K : Act → World → Prop} {Q : Exit → Act → World → Prop} {o : Oper}
theorem op_neqE {x : Nat} {n : Int} (hop : o.op = Op.binOp BinOp.neq 47 (Operand.tmp x) (Operand.const (.int .i64 n)) 47) (hx : a.tmps[x]?.getD undef = .int .i64 n) (hk : K (a.put o.dst (.bool false)) w) : o.wp Tryz.prog a w K Q := by
  unfold Oper.wp
  simp [execOp, hop, go_sem, hx]
  exact hk
theorem op_eqlI {x : Nat} {n : Int} (hop : o.op = Op.binOp BinOp.eql 3 (Operand.tmp x) (Operand.const (.int .i64 n)) 3) (hx : a.tmps[x]?.getD undef = .int .i64 n) (hk : K (a.put o.dst (.bool true)) w) : o.wp Tryz.prog a w K Q := by
  unfold Oper.wp
  simp [execOp, hop, go_sem, hx]
  exact hk
theorem op_eqlV {x y : Nat} {p q r : Int} (hop : o.op = Op.binOp BinOp.eql 37 (Operand.tmp x) (Operand.tmp y) 37) (hx : a.tmps[x]?.getD undef = .agg #[.int .i64 p, .int .i64 q, .int .i64 r]) (hy : a.tmps[y]?.getD undef = .agg #[.int .i64 p, .int .i64 q, .int .i64 r]) (hk : K (a.put o.dst (.bool true)) w) : o.wp Tryz.prog a w K Q := by
  have h := Qt.run_eq3 w p q r p q r
  rw [Qt.Qm.eq3_self] at h
  have hg := Qt.guard35
  unfold Oper.wp
  simp [execOp, hop, go_sem, hx, hy, h, hg]
  exact hk
theorem op_pickT {c x : Nat} {y : Operand} {v : Value} (hop : o.op = Op.pick (Operand.tmp c) (Operand.tmp x) y) (hc : a.tmps[c]?.getD undef = .bool true) (hx : a.tmps[x]?.getD undef = v) (hk : K (a.put o.dst v) w) : o.wp Tryz.prog a w K Q := by
  unfold Oper.wp
  simp [execOp, hop, go_sem, hc, hx]
  exact hk
theorem op_lenW {s n cap : Nat} {ao : Option Addr} (hty : o.type = 3) (hop : o.op = Op.call { callee := Callee.builtin Builtin.len, args := #[Operand.tmp s], argTypes := #[53] }) (hs : a.tmps[s]?.getD undef = .slice ao n cap) (hk : K (a.put o.dst (.int .i64 (n : Nat))) w) : o.wp Tryz.prog a w K Q := by
  unfold Oper.wp
  simp [execOp, hop, go_sem, hs, hty]
  exact hk
end
set_option maxRecDepth 40000 in
set_option maxHeartbeats 4000000 in
theorem sh1_seq {Q : Exit → Act → World → Prop} {w : World} {c : Nat → Int} {E : Es} {u0 u1 u2 u3 u4 u5 u6 u7 u8 u9 u10 u11 u12 u13 u14 u15 u16 u17 u18 u19 u20 u21 u22 u23 u24 u25 u26 u27 u28 u29 u30 u31 u32 u33 u34 u35 u36 u37 u38 u39 u40 u41 u42 u43 u44 u45 u46 u47 : Value} 
    (hcf : Calls Tryz.prog 28 #[] w fun e b => e = .returned (.agg #[.int .i64 (c 0), .int .i64 (c 1), .int .i64 (c 2), .int .i64 (c 3), .int .i64 (c 4), .int .i64 (c 5)]) ∧ Below w.heap.size w b)
    (hin : ∀ b, Below w.heap.size w b → Calls Tryz.prog 17 #[.agg #[.int .i64 (c 0), .int .i64 (c 1), .int .i64 (c 2), .int .i64 (c 3), .int .i64 (c 4), .int .i64 (c 5)]] b fun z b' => ∃ vx vp, z = .returned (.tuple #[.agg (E.cells vx vp), .int .i64 0]) ∧ E.See b' vx vp ∧ Below b.heap.size b b')
    (hQ : ∀ vx vp b, Below w.heap.size w b → E.See b vx vp → Q .normal ⟨#[u0, .pointer (some ⟨b.heap.size, 0, none⟩), .int .i64 0, u3, u4, .tuple #[.agg (E.cells vx vp), .int .i64 0], .agg #[.int .i64 (c 0), .int .i64 (c 1), .int .i64 (c 2), .int .i64 (c 3), .int .i64 (c 4), .int .i64 (c 5)], .tuple #[.agg (E.cells vx vp), .int .i64 0], .agg (E.cells vx vp), .int .i64 0, u10, u11, u12, u13, u14, u15, u16, u17, u18, u19, u20, u21, u22, u23, u24, u25, u26, u27, u28, u29, u30, u31, u32, u33, u34, u35, u36, u37, u38, u39, u40, u41, u42, u43, u44, u45, u46, u47], []⟩ (b.alloc (.cells (E.cells vx vp) 35))) : (Code.region 1 #[
 ⟨some 6, .call ⟨.value (.func 28), #[], #[]⟩, 24, "law.go:18", #[], none⟩,
 ⟨some 7, .call ⟨.value (.func 17), #[.tmp 6], #[24]⟩, 48, "law.go:18", #[eD 0, eC 0], none⟩,
 ⟨some 5, .move (.tmp 7), 48, "law.go:18", #[eD 1], none⟩,
 ⟨some 8, .extract (.tmp 5) 0, 35, "law.go:18", #[eD 2], none⟩,
 ⟨some 9, .extract (.tmp 5) 1, 47, "law.go:18", #[eD 2, ⟨6, .gcOnly .lateStores⟩], none⟩,
 ⟨some 1, .alloc 35, 0, "law.go:18", #[], none⟩,
 ⟨none, .store 35 (.tmp 1) (.tmp 8), 0, "law.go:18", #[eD 5, eD 3, eC 1, eP 0, eP 1, eP 2, eP 3, ⟨4, .textOnly .lateStores⟩, eP 5], none⟩,
 ⟨some 2, .assign (.tmp 9), 47, "law.go:18", #[eD 4, eC 6, eP 0, eP 1, eP 2, eP 3, eP 4, eP 5, eP 6], none⟩] false).wp Tryz.prog Q ⟨#[u0, u1, u2, u3, u4, u5, u6, u7, u8, u9, u10, u11, u12, u13, u14, u15, u16, u17, u18, u19, u20, u21, u22, u23, u24, u25, u26, u27, u28, u29, u30, u31, u32, u33, u34, u35, u36, u37, u38, u39, u40, u41, u42, u43, u44, u45, u46, u47], []⟩ w := by
  refine wp_region_list ?_
  refine wpList_plain rfl fun _ hK => op_call_ enters_conf rfl hcf ?_
  rintro e b0 ⟨rfl, b1⟩
  refine ⟨_, rfl, hK _ _ ?_⟩
  change wpList Tryz.prog _ _ _ ⟨#[u0, u1, u2, u3, u4, u5, .agg #[.int .i64 (c 0), .int .i64 (c 1), .int .i64 (c 2), .int .i64 (c 3), .int .i64 (c 4), .int .i64 (c 5)], u7, u8, u9, u10, u11, u12, u13, u14, u15, u16, u17, u18, u19, u20, u21, u22, u23, u24, u25, u26, u27, u28, u29, u30, u31, u32, u33, u34, u35, u36, u37, u38, u39, u40, u41, u42, u43, u44, u45, u46, u47], []⟩ _
  refine wpList_plain rfl fun _ hK => op_call_t enters_init rfl rfl (hin b0 b1) ?_
  rintro e b ⟨vx, vp, rfl, hs, b2⟩
  refine ⟨_, rfl, hK _ _ ?_⟩
  change wpList Tryz.prog _ _ _ ⟨#[u0, u1, u2, u3, u4, u5, .agg #[.int .i64 (c 0), .int .i64 (c 1), .int .i64 (c 2), .int .i64 (c 3), .int .i64 (c 4), .int .i64 (c 5)], .tuple #[.agg (E.cells vx vp), .int .i64 0], u8, u9, u10, u11, u12, u13, u14, u15, u16, u17, u18, u19, u20, u21, u22, u23, u24, u25, u26, u27, u28, u29, u30, u31, u32, u33, u34, u35, u36, u37, u38, u39, u40, u41, u42, u43, u44, u45, u46, u47], []⟩ _
  refine wpList_plain rfl fun _ hK => op_move rfl rfl (hK _ _ ?_)
  change wpList Tryz.prog _ _ _ ⟨#[u0, u1, u2, u3, u4, .tuple #[.agg (E.cells vx vp), .int .i64 0], .agg #[.int .i64 (c 0), .int .i64 (c 1), .int .i64 (c 2), .int .i64 (c 3), .int .i64 (c 4), .int .i64 (c 5)], .tuple #[.agg (E.cells vx vp), .int .i64 0], u8, u9, u10, u11, u12, u13, u14, u15, u16, u17, u18, u19, u20, u21, u22, u23, u24, u25, u26, u27, u28, u29, u30, u31, u32, u33, u34, u35, u36, u37, u38, u39, u40, u41, u42, u43, u44, u45, u46, u47], []⟩ _
  refine wpList_plain rfl fun _ hK => op_extract rfl rfl rfl (hK _ _ ?_)
  change wpList Tryz.prog _ _ _ ⟨#[u0, u1, u2, u3, u4, .tuple #[.agg (E.cells vx vp), .int .i64 0], .agg #[.int .i64 (c 0), .int .i64 (c 1), .int .i64 (c 2), .int .i64 (c 3), .int .i64 (c 4), .int .i64 (c 5)], .tuple #[.agg (E.cells vx vp), .int .i64 0], .agg (E.cells vx vp), u9, u10, u11, u12, u13, u14, u15, u16, u17, u18, u19, u20, u21, u22, u23, u24, u25, u26, u27, u28, u29, u30, u31, u32, u33, u34, u35, u36, u37, u38, u39, u40, u41, u42, u43, u44, u45, u46, u47], []⟩ _
  refine wpList_plain rfl fun _ hK => op_extract rfl rfl rfl (hK _ _ ?_)
  change wpList Tryz.prog _ _ _ ⟨#[u0, u1, u2, u3, u4, .tuple #[.agg (E.cells vx vp), .int .i64 0], .agg #[.int .i64 (c 0), .int .i64 (c 1), .int .i64 (c 2), .int .i64 (c 3), .int .i64 (c 4), .int .i64 (c 5)], .tuple #[.agg (E.cells vx vp), .int .i64 0], .agg (E.cells vx vp), .int .i64 0, u10, u11, u12, u13, u14, u15, u16, u17, u18, u19, u20, u21, u22, u23, u24, u25, u26, u27, u28, u29, u30, u31, u32, u33, u34, u35, u36, u37, u38, u39, u40, u41, u42, u43, u44, u45, u46, u47], []⟩ _
  refine wpList_plain rfl fun _ hK => op_alloc_est rfl (hK _ _ ?_)
  change wpList Tryz.prog _ _ _ ⟨#[u0, .pointer (some ⟨b.heap.size, 0, none⟩), u2, u3, u4, .tuple #[.agg (E.cells vx vp), .int .i64 0], .agg #[.int .i64 (c 0), .int .i64 (c 1), .int .i64 (c 2), .int .i64 (c 3), .int .i64 (c 4), .int .i64 (c 5)], .tuple #[.agg (E.cells vx vp), .int .i64 0], .agg (E.cells vx vp), .int .i64 0, u10, u11, u12, u13, u14, u15, u16, u17, u18, u19, u20, u21, u22, u23, u24, u25, u26, u27, u28, u29, u30, u31, u32, u33, u34, u35, u36, u37, u38, u39, u40, u41, u42, u43, u44, u45, u46, u47], []⟩ _
  refine wpList_plain rfl fun _ hK => op_storeNew rfl rfl rfl rfl (by show _ = some 29; kernel_rfl) rfl (cells_one _ _ _ b hs) (hK _ _ ?_)
  change wpList Tryz.prog _ _ _ ⟨#[u0, .pointer (some ⟨b.heap.size, 0, none⟩), u2, u3, u4, .tuple #[.agg (E.cells vx vp), .int .i64 0], .agg #[.int .i64 (c 0), .int .i64 (c 1), .int .i64 (c 2), .int .i64 (c 3), .int .i64 (c 4), .int .i64 (c 5)], .tuple #[.agg (E.cells vx vp), .int .i64 0], .agg (E.cells vx vp), .int .i64 0, u10, u11, u12, u13, u14, u15, u16, u17, u18, u19, u20, u21, u22, u23, u24, u25, u26, u27, u28, u29, u30, u31, u32, u33, u34, u35, u36, u37, u38, u39, u40, u41, u42, u43, u44, u45, u46, u47], []⟩ _
  refine wpList_plain rfl fun _ hK => op_assign rfl rfl (hK _ _ ?_)
  exact hQ vx vp b (bt b1 b2) hs
set_option maxRecDepth 40000 in
set_option maxHeartbeats 4000000 in
theorem sh2_seq {Q : Exit → Act → World → Prop} {w : World} {D : Nat} {cs : Array Value} {u0 u3 u4 u5 u6 u7 u8 u9 u10 u11 u12 u13 u14 u15 u16 u17 u18 u19 u20 u21 u22 u23 u24 u25 u26 u27 u28 u29 u30 u31 u32 u33 u34 u35 u36 u37 u38 u39 u40 u41 u42 u43 u44 u45 u46 u47 : Value} (hl : ∀ j v, cs[j]? = some v → w.cell? ⟨D, 0 + j, none⟩ = some v) (hz : cs.size = 29)
    (hR : Calls Tryz.prog 20 #[.agg cs] w fun e b => e = .returned (.bool true) ∧ Below w.heap.size w b)
    (hQ : ∀ b, Below w.heap.size w b → Q .normal ⟨#[u0, .pointer (some ⟨D, 0, none⟩), .int .i64 0, u3, u4, u5, u6, u7, u8, u9, .int .i64 0, .bool false, .bool false, .agg cs, .bool true, .bool false, .bool false, u17, u18, u19, u20, u21, u22, u23, u24, u25, u26, u27, u28, u29, u30, u31, u32, u33, u34, u35, u36, u37, u38, u39, u40, u41, u42, u43, u44, u45, u46, u47], []⟩ b) : (Code.region 2 #[
 ⟨some 10, .move (.tmp 2), 47, "law.go:19", #[], none⟩,
 ⟨some 11, .binOp .neq 47 (.tmp 10) (.const (.int .i64 0)) 47, 4, "law.go:19", #[eD 0], none⟩,
 ⟨some 12, .move (.tmp 11), 4, "law.go:19", #[eD 1], none⟩,
 ⟨some 13, .load 35 (.tmp 1), 35, "law.go:19", #[eG 2], some (2, false)⟩,
 ⟨some 14, .call ⟨.value (.func 20), #[.tmp 13], #[35]⟩, 4, "law.go:19", #[eD 3, eC 2, eG 2], some (2, false)⟩,
 ⟨some 15, .unOp .not 4 (.tmp 14), 4, "law.go:19", #[eD 4, eG 2], some (2, false)⟩,
 ⟨some 16, .pick (.tmp 12) (.const (.bool true)) (.tmp 15), 4, "law.go:19", #[eD 2, eD 5], none⟩] false).wp Tryz.prog Q ⟨#[u0, .pointer (some ⟨D, 0, none⟩), .int .i64 0, u3, u4, u5, u6, u7, u8, u9, u10, u11, u12, u13, u14, u15, u16, u17, u18, u19, u20, u21, u22, u23, u24, u25, u26, u27, u28, u29, u30, u31, u32, u33, u34, u35, u36, u37, u38, u39, u40, u41, u42, u43, u44, u45, u46, u47], []⟩ w := by
  refine wp_region_list ?_
  refine wpList_plain rfl fun _ hK => op_move rfl rfl (hK _ _ ?_)
  change wpList Tryz.prog _ _ _ ⟨#[u0, .pointer (some ⟨D, 0, none⟩), .int .i64 0, u3, u4, u5, u6, u7, u8, u9, .int .i64 0, u11, u12, u13, u14, u15, u16, u17, u18, u19, u20, u21, u22, u23, u24, u25, u26, u27, u28, u29, u30, u31, u32, u33, u34, u35, u36, u37, u38, u39, u40, u41, u42, u43, u44, u45, u46, u47], []⟩ _
  refine wpList_plain rfl fun _ hK => op_neqE rfl rfl (hK _ _ ?_)
  change wpList Tryz.prog _ _ _ ⟨#[u0, .pointer (some ⟨D, 0, none⟩), .int .i64 0, u3, u4, u5, u6, u7, u8, u9, .int .i64 0, .bool false, u12, u13, u14, u15, u16, u17, u18, u19, u20, u21, u22, u23, u24, u25, u26, u27, u28, u29, u30, u31, u32, u33, u34, u35, u36, u37, u38, u39, u40, u41, u42, u43, u44, u45, u46, u47], []⟩ _
  refine wpList_plain rfl fun _ hK => op_move rfl rfl (hK _ _ ?_)
  change wpList Tryz.prog _ _ _ ⟨#[u0, .pointer (some ⟨D, 0, none⟩), .int .i64 0, u3, u4, u5, u6, u7, u8, u9, .int .i64 0, .bool false, .bool false, u13, u14, u15, u16, u17, u18, u19, u20, u21, u22, u23, u24, u25, u26, u27, u28, u29, u30, u31, u32, u33, u34, u35, u36, u37, u38, u39, u40, u41, u42, u43, u44, u45, u46, u47], []⟩ _
  refine wl_want rfl fun _ hK => op_ldA (cs := cs) rfl rfl (ag_Est _) (by rw [hz]; exact sz_Est _) hl (hK _ _ ?_)
  change wpList Tryz.prog _ _ _ ⟨#[u0, .pointer (some ⟨D, 0, none⟩), .int .i64 0, u3, u4, u5, u6, u7, u8, u9, .int .i64 0, .bool false, .bool false, .agg cs, u14, u15, u16, u17, u18, u19, u20, u21, u22, u23, u24, u25, u26, u27, u28, u29, u30, u31, u32, u33, u34, u35, u36, u37, u38, u39, u40, u41, u42, u43, u44, u45, u46, u47], []⟩ _
  refine wl_want rfl fun _ hK => op_call_t enters_eright2 rfl rfl hR ?_
  rintro e b ⟨rfl, b1⟩
  refine ⟨_, rfl, hK _ _ ?_⟩
  change wpList Tryz.prog _ _ _ ⟨#[u0, .pointer (some ⟨D, 0, none⟩), .int .i64 0, u3, u4, u5, u6, u7, u8, u9, .int .i64 0, .bool false, .bool false, .agg cs, .bool true, u15, u16, u17, u18, u19, u20, u21, u22, u23, u24, u25, u26, u27, u28, u29, u30, u31, u32, u33, u34, u35, u36, u37, u38, u39, u40, u41, u42, u43, u44, u45, u46, u47], []⟩ _
  refine wl_want rfl fun _ hK => op_notB' rfl rfl (hK _ _ ?_)
  change wpList Tryz.prog _ _ _ ⟨#[u0, .pointer (some ⟨D, 0, none⟩), .int .i64 0, u3, u4, u5, u6, u7, u8, u9, .int .i64 0, .bool false, .bool false, .agg cs, .bool true, .bool false, u16, u17, u18, u19, u20, u21, u22, u23, u24, u25, u26, u27, u28, u29, u30, u31, u32, u33, u34, u35, u36, u37, u38, u39, u40, u41, u42, u43, u44, u45, u46, u47], []⟩ _
  refine wpList_plain rfl fun _ hK => op_pickN rfl rfl rfl (hK _ _ ?_)
  exact hQ b b1
set_option maxRecDepth 40000 in
set_option maxHeartbeats 4000000 in
theorem sh5_seq {Q : Exit → Act → World → Prop} {w : World} {D : Nat} {D' : Nat} {cs : Array Value} {u0 u1 u2 u5 u6 u7 u8 u9 u10 u11 u12 u13 u14 u15 u16 u17 u18 u19 u20 u21 u22 u23 u24 u25 u26 u27 u28 u29 u30 u31 u32 u33 u34 u35 u36 u37 u38 u39 u40 u41 u42 u43 u44 u45 u46 u47 : Value} (hl : ∀ j v, cs[j]? = some v → w.cell? ⟨D, 0 + j, none⟩ = some v) (hz : cs.size = 29)
    (e22 : w.cell? ⟨D, 22, none⟩ = some (.int .i64 1)) (e23 : w.cell? ⟨D, 23, none⟩ = some (.int .i64 1)) (e28 : w.cell? ⟨D, 28, none⟩ = some (.bool false))
    (d0 : w.cell? ⟨D', 0, none⟩ = some (.int .i64 0)) (d1 : w.cell? ⟨D', 0 + 1, none⟩ = some (.int .i64 0)) (d2 : w.cell? ⟨D', 0 + 2, none⟩ = some (.int .i64 0))
    (hW : Calls Tryz.prog 25 #[.agg cs] w fun e b => ∃ ao cap, e = .returned (.slice ao 38 cap) ∧ Below w.heap.size w b)
    (hQ : ∀ ao cap b, Below w.heap.size w b → Q .normal ⟨#[.bool true, u1, u2, .pointer (some ⟨D, 0, none⟩), .pointer (some ⟨D', 0, none⟩), u5, u6, u7, u8, u9, u10, u11, u12, u13, u14, u15, u16, u17, u18, u19, u20, u21, u22, u23, .pointer (some ⟨D, 22, none⟩), .int .i64 1, .bool true, .bool true, .pointer (some ⟨D, 23, none⟩), .int .i64 1, .bool true, .bool true, .bool true, .agg #[.int .i64 0, .int .i64 0, .int .i64 0], .agg #[.int .i64 0, .int .i64 0, .int .i64 0], .bool true, .bool true, .bool true, .pointer (some ⟨D, 28, none⟩), .bool false, .bool true, .bool true, .bool true, .agg cs, .slice ao 38 cap, .int .i64 38, .bool true, .bool true], []⟩ b) : (Code.region 5 #[
 ⟨some 24, .fieldAddr 35 (.tmp 3) 2, 0, "law.go:23", #[], none⟩,
 ⟨some 25, .load 3 (.tmp 24), 3, "law.go:23", #[eD 0], none⟩,
 ⟨some 26, .binOp .eql 3 (.tmp 25) (.const (.int .i64 1)) 3, 4, "law.go:23", #[eD 1], none⟩,
 ⟨some 27, .move (.tmp 26), 4, "law.go:23", #[eD 2], none⟩,
 ⟨some 28, .fieldAddr 35 (.tmp 3) 3, 0, "law.go:23", #[eG 3], some (3, true)⟩,
 ⟨some 29, .load 3 (.tmp 28), 3, "law.go:23", #[eD 4, eG 3], some (3, true)⟩,
 ⟨some 30, .binOp .eql 3 (.tmp 29) (.const (.int .i64 1)) 3, 4, "law.go:23", #[eD 5, eG 3], some (3, true)⟩,
 ⟨some 31, .pick (.tmp 27) (.tmp 30) (.const (.bool false)), 4, "law.go:23", #[eD 3, eD 6], none⟩,
 ⟨some 32, .move (.tmp 31), 4, "law.go:23", #[eD 7, eC 3], none⟩,
 ⟨some 33, .load 37 (.tmp 4), 37, "law.go:23", #[eG 8], some (8, true)⟩,
 ⟨some 34, .build 37 #[], 37, "law.go:23", #[eG 8], some (8, true)⟩,
 ⟨some 35, .binOp .eql 37 (.tmp 33) (.tmp 34) 37, 4, "law.go:23", #[eD 9, eD 10, eG 8], some (8, true)⟩,
 ⟨some 36, .pick (.tmp 32) (.tmp 35) (.const (.bool false)), 4, "law.go:23", #[eD 8, eD 11], none⟩,
 ⟨some 37, .move (.tmp 36), 4, "law.go:23", #[eD 12, eC 8], none⟩,
 ⟨some 38, .fieldAddr 35 (.tmp 3) 5, 0, "law.go:23", #[eG 13], some (13, true)⟩,
 ⟨some 39, .load 4 (.tmp 38), 4, "law.go:23", #[eD 14, eG 13], some (13, true)⟩,
 ⟨some 40, .unOp .not 4 (.tmp 39), 4, "law.go:23", #[eD 15, eG 13], some (13, true)⟩,
 ⟨some 41, .pick (.tmp 37) (.tmp 40) (.const (.bool false)), 4, "law.go:23", #[eD 13, eD 16], none⟩,
 ⟨some 42, .move (.tmp 41), 4, "law.go:23", #[eD 17, eC 13], none⟩,
 ⟨some 43, .load 35 (.tmp 3), 35, "law.go:23", #[eG 18], some (18, true)⟩,
 ⟨some 44, .call ⟨.value (.func 25), #[.tmp 43], #[35]⟩, 53, "law.go:23", #[eD 19, eC 18, eG 18], some (18, true)⟩,
 ⟨some 45, .call ⟨.builtin .len, #[.tmp 44], #[53]⟩, 3, "law.go:23", #[eD 20, eG 18], some (18, true)⟩,
 ⟨some 46, .binOp .eql 3 (.tmp 45) (.const (.int .i64 38)) 3, 4, "law.go:23", #[eD 21, eG 18], some (18, true)⟩,
 ⟨some 47, .pick (.tmp 42) (.tmp 46) (.const (.bool false)), 4, "law.go:23", #[eD 18, eD 22], none⟩,
 ⟨some 0, .assign (.tmp 47), 4, "law.go:23", #[eD 23, eC 20, eP 0, eP 1, eP 2, eP 3, eP 4, eP 5, eP 6, eP 7, eP 8, eP 9, eP 10, eP 11, eP 12, eP 13, eP 14, eP 15, eP 16, eP 17, eP 18, eP 19, eP 20, eP 21, eP 22, eP 23], none⟩] false).wp Tryz.prog Q ⟨#[u0, u1, u2, .pointer (some ⟨D, 0, none⟩), .pointer (some ⟨D', 0, none⟩), u5, u6, u7, u8, u9, u10, u11, u12, u13, u14, u15, u16, u17, u18, u19, u20, u21, u22, u23, u24, u25, u26, u27, u28, u29, u30, u31, u32, u33, u34, u35, u36, u37, u38, u39, u40, u41, u42, u43, u44, u45, u46, u47], []⟩ w := by
  refine wp_region_list ?_
  refine wpList_plain rfl fun _ hK => op_fEst2 rfl rfl (hK _ _ ?_)
  change wpList Tryz.prog _ _ _ ⟨#[u0, u1, u2, .pointer (some ⟨D, 0, none⟩), .pointer (some ⟨D', 0, none⟩), u5, u6, u7, u8, u9, u10, u11, u12, u13, u14, u15, u16, u17, u18, u19, u20, u21, u22, u23, .pointer (some ⟨D, 22, none⟩), u25, u26, u27, u28, u29, u30, u31, u32, u33, u34, u35, u36, u37, u38, u39, u40, u41, u42, u43, u44, u45, u46, u47], []⟩ _
  refine wpList_plain rfl fun _ hK => op_ldint rfl rfl e22 (hK _ _ ?_)
  change wpList Tryz.prog _ _ _ ⟨#[u0, u1, u2, .pointer (some ⟨D, 0, none⟩), .pointer (some ⟨D', 0, none⟩), u5, u6, u7, u8, u9, u10, u11, u12, u13, u14, u15, u16, u17, u18, u19, u20, u21, u22, u23, .pointer (some ⟨D, 22, none⟩), .int .i64 1, u26, u27, u28, u29, u30, u31, u32, u33, u34, u35, u36, u37, u38, u39, u40, u41, u42, u43, u44, u45, u46, u47], []⟩ _
  refine wpList_plain rfl fun _ hK => op_eqlI rfl rfl (hK _ _ ?_)
  change wpList Tryz.prog _ _ _ ⟨#[u0, u1, u2, .pointer (some ⟨D, 0, none⟩), .pointer (some ⟨D', 0, none⟩), u5, u6, u7, u8, u9, u10, u11, u12, u13, u14, u15, u16, u17, u18, u19, u20, u21, u22, u23, .pointer (some ⟨D, 22, none⟩), .int .i64 1, .bool true, u27, u28, u29, u30, u31, u32, u33, u34, u35, u36, u37, u38, u39, u40, u41, u42, u43, u44, u45, u46, u47], []⟩ _
  refine wpList_plain rfl fun _ hK => op_move rfl rfl (hK _ _ ?_)
  change wpList Tryz.prog _ _ _ ⟨#[u0, u1, u2, .pointer (some ⟨D, 0, none⟩), .pointer (some ⟨D', 0, none⟩), u5, u6, u7, u8, u9, u10, u11, u12, u13, u14, u15, u16, u17, u18, u19, u20, u21, u22, u23, .pointer (some ⟨D, 22, none⟩), .int .i64 1, .bool true, .bool true, u28, u29, u30, u31, u32, u33, u34, u35, u36, u37, u38, u39, u40, u41, u42, u43, u44, u45, u46, u47], []⟩ _
  refine wl_want rfl fun _ hK => op_fEst3 rfl rfl (hK _ _ ?_)
  change wpList Tryz.prog _ _ _ ⟨#[u0, u1, u2, .pointer (some ⟨D, 0, none⟩), .pointer (some ⟨D', 0, none⟩), u5, u6, u7, u8, u9, u10, u11, u12, u13, u14, u15, u16, u17, u18, u19, u20, u21, u22, u23, .pointer (some ⟨D, 22, none⟩), .int .i64 1, .bool true, .bool true, .pointer (some ⟨D, 23, none⟩), u29, u30, u31, u32, u33, u34, u35, u36, u37, u38, u39, u40, u41, u42, u43, u44, u45, u46, u47], []⟩ _
  refine wl_want rfl fun _ hK => op_ldint rfl rfl e23 (hK _ _ ?_)
  change wpList Tryz.prog _ _ _ ⟨#[u0, u1, u2, .pointer (some ⟨D, 0, none⟩), .pointer (some ⟨D', 0, none⟩), u5, u6, u7, u8, u9, u10, u11, u12, u13, u14, u15, u16, u17, u18, u19, u20, u21, u22, u23, .pointer (some ⟨D, 22, none⟩), .int .i64 1, .bool true, .bool true, .pointer (some ⟨D, 23, none⟩), .int .i64 1, u30, u31, u32, u33, u34, u35, u36, u37, u38, u39, u40, u41, u42, u43, u44, u45, u46, u47], []⟩ _
  refine wl_want rfl fun _ hK => op_eqlI rfl rfl (hK _ _ ?_)
  change wpList Tryz.prog _ _ _ ⟨#[u0, u1, u2, .pointer (some ⟨D, 0, none⟩), .pointer (some ⟨D', 0, none⟩), u5, u6, u7, u8, u9, u10, u11, u12, u13, u14, u15, u16, u17, u18, u19, u20, u21, u22, u23, .pointer (some ⟨D, 22, none⟩), .int .i64 1, .bool true, .bool true, .pointer (some ⟨D, 23, none⟩), .int .i64 1, .bool true, u31, u32, u33, u34, u35, u36, u37, u38, u39, u40, u41, u42, u43, u44, u45, u46, u47], []⟩ _
  refine wpList_plain rfl fun _ hK => op_pickT rfl rfl rfl (hK _ _ ?_)
  change wpList Tryz.prog _ _ _ ⟨#[u0, u1, u2, .pointer (some ⟨D, 0, none⟩), .pointer (some ⟨D', 0, none⟩), u5, u6, u7, u8, u9, u10, u11, u12, u13, u14, u15, u16, u17, u18, u19, u20, u21, u22, u23, .pointer (some ⟨D, 22, none⟩), .int .i64 1, .bool true, .bool true, .pointer (some ⟨D, 23, none⟩), .int .i64 1, .bool true, .bool true, u32, u33, u34, u35, u36, u37, u38, u39, u40, u41, u42, u43, u44, u45, u46, u47], []⟩ _
  refine wpList_plain rfl fun _ hK => op_move rfl rfl (hK _ _ ?_)
  change wpList Tryz.prog _ _ _ ⟨#[u0, u1, u2, .pointer (some ⟨D, 0, none⟩), .pointer (some ⟨D', 0, none⟩), u5, u6, u7, u8, u9, u10, u11, u12, u13, u14, u15, u16, u17, u18, u19, u20, u21, u22, u23, .pointer (some ⟨D, 22, none⟩), .int .i64 1, .bool true, .bool true, .pointer (some ⟨D, 23, none⟩), .int .i64 1, .bool true, .bool true, .bool true, u33, u34, u35, u36, u37, u38, u39, u40, u41, u42, u43, u44, u45, u46, u47], []⟩ _
  refine wl_want rfl fun _ hK => op_ldVec rfl rfl d0 d1 d2 (hK _ _ ?_)
  change wpList Tryz.prog _ _ _ ⟨#[u0, u1, u2, .pointer (some ⟨D, 0, none⟩), .pointer (some ⟨D', 0, none⟩), u5, u6, u7, u8, u9, u10, u11, u12, u13, u14, u15, u16, u17, u18, u19, u20, u21, u22, u23, .pointer (some ⟨D, 22, none⟩), .int .i64 1, .bool true, .bool true, .pointer (some ⟨D, 23, none⟩), .int .i64 1, .bool true, .bool true, .bool true, .agg #[.int .i64 0, .int .i64 0, .int .i64 0], u34, u35, u36, u37, u38, u39, u40, u41, u42, u43, u44, u45, u46, u47], []⟩ _
  refine wl_want rfl fun _ hK => op_buildR (r := .agg #[.int .i64 0, .int .i64 0, .int .i64 0]) rfl (by kernel_rfl) (hK _ _ ?_)
  change wpList Tryz.prog _ _ _ ⟨#[u0, u1, u2, .pointer (some ⟨D, 0, none⟩), .pointer (some ⟨D', 0, none⟩), u5, u6, u7, u8, u9, u10, u11, u12, u13, u14, u15, u16, u17, u18, u19, u20, u21, u22, u23, .pointer (some ⟨D, 22, none⟩), .int .i64 1, .bool true, .bool true, .pointer (some ⟨D, 23, none⟩), .int .i64 1, .bool true, .bool true, .bool true, .agg #[.int .i64 0, .int .i64 0, .int .i64 0], .agg #[.int .i64 0, .int .i64 0, .int .i64 0], u35, u36, u37, u38, u39, u40, u41, u42, u43, u44, u45, u46, u47], []⟩ _
  refine wl_want rfl fun _ hK => op_eqlV rfl rfl rfl (hK _ _ ?_)
  change wpList Tryz.prog _ _ _ ⟨#[u0, u1, u2, .pointer (some ⟨D, 0, none⟩), .pointer (some ⟨D', 0, none⟩), u5, u6, u7, u8, u9, u10, u11, u12, u13, u14, u15, u16, u17, u18, u19, u20, u21, u22, u23, .pointer (some ⟨D, 22, none⟩), .int .i64 1, .bool true, .bool true, .pointer (some ⟨D, 23, none⟩), .int .i64 1, .bool true, .bool true, .bool true, .agg #[.int .i64 0, .int .i64 0, .int .i64 0], .agg #[.int .i64 0, .int .i64 0, .int .i64 0], .bool true, u36, u37, u38, u39, u40, u41, u42, u43, u44, u45, u46, u47], []⟩ _
  refine wpList_plain rfl fun _ hK => op_pickT rfl rfl rfl (hK _ _ ?_)
  change wpList Tryz.prog _ _ _ ⟨#[u0, u1, u2, .pointer (some ⟨D, 0, none⟩), .pointer (some ⟨D', 0, none⟩), u5, u6, u7, u8, u9, u10, u11, u12, u13, u14, u15, u16, u17, u18, u19, u20, u21, u22, u23, .pointer (some ⟨D, 22, none⟩), .int .i64 1, .bool true, .bool true, .pointer (some ⟨D, 23, none⟩), .int .i64 1, .bool true, .bool true, .bool true, .agg #[.int .i64 0, .int .i64 0, .int .i64 0], .agg #[.int .i64 0, .int .i64 0, .int .i64 0], .bool true, .bool true, u37, u38, u39, u40, u41, u42, u43, u44, u45, u46, u47], []⟩ _
  refine wpList_plain rfl fun _ hK => op_move rfl rfl (hK _ _ ?_)
  change wpList Tryz.prog _ _ _ ⟨#[u0, u1, u2, .pointer (some ⟨D, 0, none⟩), .pointer (some ⟨D', 0, none⟩), u5, u6, u7, u8, u9, u10, u11, u12, u13, u14, u15, u16, u17, u18, u19, u20, u21, u22, u23, .pointer (some ⟨D, 22, none⟩), .int .i64 1, .bool true, .bool true, .pointer (some ⟨D, 23, none⟩), .int .i64 1, .bool true, .bool true, .bool true, .agg #[.int .i64 0, .int .i64 0, .int .i64 0], .agg #[.int .i64 0, .int .i64 0, .int .i64 0], .bool true, .bool true, .bool true, u38, u39, u40, u41, u42, u43, u44, u45, u46, u47], []⟩ _
  refine wl_want rfl fun _ hK => op_fEst5 rfl rfl (hK _ _ ?_)
  change wpList Tryz.prog _ _ _ ⟨#[u0, u1, u2, .pointer (some ⟨D, 0, none⟩), .pointer (some ⟨D', 0, none⟩), u5, u6, u7, u8, u9, u10, u11, u12, u13, u14, u15, u16, u17, u18, u19, u20, u21, u22, u23, .pointer (some ⟨D, 22, none⟩), .int .i64 1, .bool true, .bool true, .pointer (some ⟨D, 23, none⟩), .int .i64 1, .bool true, .bool true, .bool true, .agg #[.int .i64 0, .int .i64 0, .int .i64 0], .agg #[.int .i64 0, .int .i64 0, .int .i64 0], .bool true, .bool true, .bool true, .pointer (some ⟨D, 28, none⟩), u39, u40, u41, u42, u43, u44, u45, u46, u47], []⟩ _
  refine wl_want rfl fun _ hK => op_ldbool rfl rfl e28 (hK _ _ ?_)
  change wpList Tryz.prog _ _ _ ⟨#[u0, u1, u2, .pointer (some ⟨D, 0, none⟩), .pointer (some ⟨D', 0, none⟩), u5, u6, u7, u8, u9, u10, u11, u12, u13, u14, u15, u16, u17, u18, u19, u20, u21, u22, u23, .pointer (some ⟨D, 22, none⟩), .int .i64 1, .bool true, .bool true, .pointer (some ⟨D, 23, none⟩), .int .i64 1, .bool true, .bool true, .bool true, .agg #[.int .i64 0, .int .i64 0, .int .i64 0], .agg #[.int .i64 0, .int .i64 0, .int .i64 0], .bool true, .bool true, .bool true, .pointer (some ⟨D, 28, none⟩), .bool false, u40, u41, u42, u43, u44, u45, u46, u47], []⟩ _
  refine wl_want rfl fun _ hK => op_notB' rfl rfl (hK _ _ ?_)
  change wpList Tryz.prog _ _ _ ⟨#[u0, u1, u2, .pointer (some ⟨D, 0, none⟩), .pointer (some ⟨D', 0, none⟩), u5, u6, u7, u8, u9, u10, u11, u12, u13, u14, u15, u16, u17, u18, u19, u20, u21, u22, u23, .pointer (some ⟨D, 22, none⟩), .int .i64 1, .bool true, .bool true, .pointer (some ⟨D, 23, none⟩), .int .i64 1, .bool true, .bool true, .bool true, .agg #[.int .i64 0, .int .i64 0, .int .i64 0], .agg #[.int .i64 0, .int .i64 0, .int .i64 0], .bool true, .bool true, .bool true, .pointer (some ⟨D, 28, none⟩), .bool false, .bool true, u41, u42, u43, u44, u45, u46, u47], []⟩ _
  refine wpList_plain rfl fun _ hK => op_pickT rfl rfl rfl (hK _ _ ?_)
  change wpList Tryz.prog _ _ _ ⟨#[u0, u1, u2, .pointer (some ⟨D, 0, none⟩), .pointer (some ⟨D', 0, none⟩), u5, u6, u7, u8, u9, u10, u11, u12, u13, u14, u15, u16, u17, u18, u19, u20, u21, u22, u23, .pointer (some ⟨D, 22, none⟩), .int .i64 1, .bool true, .bool true, .pointer (some ⟨D, 23, none⟩), .int .i64 1, .bool true, .bool true, .bool true, .agg #[.int .i64 0, .int .i64 0, .int .i64 0], .agg #[.int .i64 0, .int .i64 0, .int .i64 0], .bool true, .bool true, .bool true, .pointer (some ⟨D, 28, none⟩), .bool false, .bool true, .bool true, u42, u43, u44, u45, u46, u47], []⟩ _
  refine wpList_plain rfl fun _ hK => op_move rfl rfl (hK _ _ ?_)
  change wpList Tryz.prog _ _ _ ⟨#[u0, u1, u2, .pointer (some ⟨D, 0, none⟩), .pointer (some ⟨D', 0, none⟩), u5, u6, u7, u8, u9, u10, u11, u12, u13, u14, u15, u16, u17, u18, u19, u20, u21, u22, u23, .pointer (some ⟨D, 22, none⟩), .int .i64 1, .bool true, .bool true, .pointer (some ⟨D, 23, none⟩), .int .i64 1, .bool true, .bool true, .bool true, .agg #[.int .i64 0, .int .i64 0, .int .i64 0], .agg #[.int .i64 0, .int .i64 0, .int .i64 0], .bool true, .bool true, .bool true, .pointer (some ⟨D, 28, none⟩), .bool false, .bool true, .bool true, .bool true, u43, u44, u45, u46, u47], []⟩ _
  refine wl_want rfl fun _ hK => op_ldA (cs := cs) rfl rfl (ag_Est _) (by rw [hz]; exact sz_Est _) hl (hK _ _ ?_)
  change wpList Tryz.prog _ _ _ ⟨#[u0, u1, u2, .pointer (some ⟨D, 0, none⟩), .pointer (some ⟨D', 0, none⟩), u5, u6, u7, u8, u9, u10, u11, u12, u13, u14, u15, u16, u17, u18, u19, u20, u21, u22, u23, .pointer (some ⟨D, 22, none⟩), .int .i64 1, .bool true, .bool true, .pointer (some ⟨D, 23, none⟩), .int .i64 1, .bool true, .bool true, .bool true, .agg #[.int .i64 0, .int .i64 0, .int .i64 0], .agg #[.int .i64 0, .int .i64 0, .int .i64 0], .bool true, .bool true, .bool true, .pointer (some ⟨D, 28, none⟩), .bool false, .bool true, .bool true, .bool true, .agg cs, u44, u45, u46, u47], []⟩ _
  refine wl_want rfl fun _ hK => op_call_t enters_words rfl rfl hW ?_
  rintro e b ⟨ao, cap, rfl, b1⟩
  refine ⟨_, rfl, hK _ _ ?_⟩
  change wpList Tryz.prog _ _ _ ⟨#[u0, u1, u2, .pointer (some ⟨D, 0, none⟩), .pointer (some ⟨D', 0, none⟩), u5, u6, u7, u8, u9, u10, u11, u12, u13, u14, u15, u16, u17, u18, u19, u20, u21, u22, u23, .pointer (some ⟨D, 22, none⟩), .int .i64 1, .bool true, .bool true, .pointer (some ⟨D, 23, none⟩), .int .i64 1, .bool true, .bool true, .bool true, .agg #[.int .i64 0, .int .i64 0, .int .i64 0], .agg #[.int .i64 0, .int .i64 0, .int .i64 0], .bool true, .bool true, .bool true, .pointer (some ⟨D, 28, none⟩), .bool false, .bool true, .bool true, .bool true, .agg cs, .slice ao 38 cap, u45, u46, u47], []⟩ _
  refine wl_want rfl fun _ hK => op_lenW rfl rfl rfl (hK _ _ ?_)
  change wpList Tryz.prog _ _ _ ⟨#[u0, u1, u2, .pointer (some ⟨D, 0, none⟩), .pointer (some ⟨D', 0, none⟩), u5, u6, u7, u8, u9, u10, u11, u12, u13, u14, u15, u16, u17, u18, u19, u20, u21, u22, u23, .pointer (some ⟨D, 22, none⟩), .int .i64 1, .bool true, .bool true, .pointer (some ⟨D, 23, none⟩), .int .i64 1, .bool true, .bool true, .bool true, .agg #[.int .i64 0, .int .i64 0, .int .i64 0], .agg #[.int .i64 0, .int .i64 0, .int .i64 0], .bool true, .bool true, .bool true, .pointer (some ⟨D, 28, none⟩), .bool false, .bool true, .bool true, .bool true, .agg cs, .slice ao 38 cap, .int .i64 38, u46, u47], []⟩ _
  refine wl_want rfl fun _ hK => op_eqlI rfl rfl (hK _ _ ?_)
  change wpList Tryz.prog _ _ _ ⟨#[u0, u1, u2, .pointer (some ⟨D, 0, none⟩), .pointer (some ⟨D', 0, none⟩), u5, u6, u7, u8, u9, u10, u11, u12, u13, u14, u15, u16, u17, u18, u19, u20, u21, u22, u23, .pointer (some ⟨D, 22, none⟩), .int .i64 1, .bool true, .bool true, .pointer (some ⟨D, 23, none⟩), .int .i64 1, .bool true, .bool true, .bool true, .agg #[.int .i64 0, .int .i64 0, .int .i64 0], .agg #[.int .i64 0, .int .i64 0, .int .i64 0], .bool true, .bool true, .bool true, .pointer (some ⟨D, 28, none⟩), .bool false, .bool true, .bool true, .bool true, .agg cs, .slice ao 38 cap, .int .i64 38, .bool true, u47], []⟩ _
  refine wpList_plain rfl fun _ hK => op_pickT rfl rfl rfl (hK _ _ ?_)
  change wpList Tryz.prog _ _ _ ⟨#[u0, u1, u2, .pointer (some ⟨D, 0, none⟩), .pointer (some ⟨D', 0, none⟩), u5, u6, u7, u8, u9, u10, u11, u12, u13, u14, u15, u16, u17, u18, u19, u20, u21, u22, u23, .pointer (some ⟨D, 22, none⟩), .int .i64 1, .bool true, .bool true, .pointer (some ⟨D, 23, none⟩), .int .i64 1, .bool true, .bool true, .bool true, .agg #[.int .i64 0, .int .i64 0, .int .i64 0], .agg #[.int .i64 0, .int .i64 0, .int .i64 0], .bool true, .bool true, .bool true, .pointer (some ⟨D, 28, none⟩), .bool false, .bool true, .bool true, .bool true, .agg cs, .slice ao 38 cap, .int .i64 38, .bool true, .bool true], []⟩ _
  refine wpList_plain rfl fun _ hK => op_assign rfl rfl (hK _ _ ?_)
  exact hQ ao cap b b1
def sh4Ops : Array Oper := #[
 ⟨some 18, .call ⟨.value (.func 28), #[], #[]⟩, 24, "law.go:22", #[], none⟩,
 ⟨some 19, .load 35 (.tmp 1), 35, "law.go:22", #[], none⟩,
 ⟨some 20, .build 39 #[(0, .const (.bool true))], 39, "law.go:22", #[], none⟩,
 ⟨some 21, .call ⟨.value (.func 14), #[.tmp 18, .tmp 19, .tmp 20], #[24, 35, 39]⟩, 43, "law.go:22", #[eD 0, eD 1, eD 2, eC 0], none⟩,
 ⟨some 17, .move (.tmp 21), 43, "law.go:22", #[eD 3], none⟩,
 ⟨some 22, .extract (.tmp 17) 0, 35, "law.go:22", #[eD 4], none⟩,
 ⟨some 23, .extract (.tmp 17) 1, 37, "law.go:22", #[eD 4, ⟨9, .gcOnly .lateStores⟩], none⟩,
 ⟨some 3, .alloc 35, 0, "law.go:22", #[], none⟩,
 ⟨some 4, .alloc 37, 0, "law.go:22", #[], none⟩,
 ⟨none, .store 35 (.tmp 3) (.tmp 22), 0, "law.go:22", #[eD 7, eD 5, eC 3, eP 0, eP 1, eP 2, eP 3, eP 4, eP 5, ⟨6, .textOnly .lateStores⟩, eP 7, eP 8], none⟩,
 ⟨none, .store 37 (.tmp 4) (.tmp 23), 0, "law.go:22", #[eD 8, eD 6, eC 9, eP 0, eP 1, eP 2, eP 3, eP 4, eP 5, eP 6, eP 7, eP 8, eP 9], none⟩]
def sh4Dst (i : Nat) : Nat := [18, 19, 20, 21, 17, 22, 23, 3, 4, 1009, 1010].getD i 0
def sh4Fr (D1 : Nat) (u0 u2 u5 u6 u7 u8 u9 u10 u11 u12 u13 u14 u15 u16 u24 u25 u26 u27 u28 u29 u30 u31 u32 u33 u34 u35 u36 u37 u38 u39 u40 u41 u42 u43 u44 u45 u46 u47 : Value) (vs : Nat → Value) : Act := ⟨#[u0, .pointer (some ⟨D1, 0, none⟩), u2, vs 3, vs 4, u5, u6, u7, u8, u9, u10, u11, u12, u13, u14, u15, u16, vs 17, vs 18, vs 19, vs 20, vs 21, vs 22, vs 23, u24, u25, u26, u27, u28, u29, u30, u31, u32, u33, u34, u35, u36, u37, u38, u39, u40, u41, u42, u43, u44, u45, u46, u47], []⟩
def sh4T (B : Nat) (c : Nat → Int) (E : Es) (vx : Nat → Value) (vp : Nat → Value) (E' : Es) (y0 : Int) (y1 : Int) (y2 : Int) : Nat → Value → Value → (Nat → Prop) → World → Prop
  | 0, v, u, S, w => v = .agg #[.int .i64 (c 0), .int .i64 (c 1), .int .i64 (c 2), .int .i64 (c 3), .int .i64 (c 4), .int .i64 (c 5)]
  | 1, v, u, S, w => v = .agg (E.cells vx vp)
  | 2, v, u, S, w => v = .agg #[.bool true, .int .i64 0, .int .i64 0, .int .i64 0, .int .i64 0, .int .i64 0, .int .i64 0, .bool false, .int .i64 0, .bool false, .int .i64 0, .int .i64 0, .int .i64 0]
  | 3, v, u, S, w => TE B E' (fun x y => .tuple #[.agg (E'.cells x y), .agg #[.int .i64 y0, .int .i64 y1, .int .i64 y2]]) v S w
  | 4, v, u, S, w => TE B E' (fun x y => .tuple #[.agg (E'.cells x y), .agg #[.int .i64 y0, .int .i64 y1, .int .i64 y2]]) v S w
  | 5, v, u, S, w => TE B E' (fun x y => .agg (E'.cells x y)) v S w
  | 6, v, u, S, w => v = .agg #[.int .i64 y0, .int .i64 y1, .int .i64 y2]
  | 7, v, u, S, w => TP B #[.int .i64 0, .int .i64 0, .int .i64 0, .int .i64 0, .int .i64 0, .int .i64 0, .slice none 0 0, .int .i64 0, .int .i64 0, .slice none 0 0, .int .i64 0, .int .i64 0, .slice none 0 0, .int .i64 0, .int .i64 0, .slice none 0 0, .int .i64 0, .int .i64 0, .slice none 0 0, .int .i64 0, .int .i64 0, .slice none 0 0, .int .i64 0, .int .i64 0, .int .i64 0, .int .i64 0, .int .i64 0, .int .i64 0, .bool false] 35 v S w
  | 8, v, u, S, w => TP B #[.int .i64 0, .int .i64 0, .int .i64 0] 37 v S w
  | 9, v, u, S, w => TEP B E' u S w
  | 10, v, u, S, w => TP B #[.int .i64 y0, .int .i64 y1, .int .i64 y2] 37 u S w
  | _, _, _, _, _ => True
set_option maxRecDepth 40000 in
set_option maxHeartbeats 1600000 in
theorem sh4_region {Q : Exit → Act → World → Prop} {w0 : World} {D1 : Nat} {c : Nat → Int} {E : Es} {vx : Nat → Value} {vp : Nat → Value} {E' : Es} {y0 : Int} {y1 : Int} {y2 : Int} {u0 u2 u5 u6 u7 u8 u9 u10 u11 u12 u13 u14 u15 u16 u24 u25 u26 u27 u28 u29 u30 u31 u32 u33 u34 u35 u36 u37 u38 u39 u40 u41 u42 u43 u44 u45 u46 u47 : Value}
    (hcf : ∀ w, Mod (fun _ => False) w0 w → Calls Tryz.prog 28 #[] w fun e b => e = .returned (.agg #[.int .i64 (c 0), .int .i64 (c 1), .int .i64 (c 2), .int .i64 (c 3), .int .i64 (c 4), .int .i64 (c 5)]) ∧ Below w.heap.size w b)
    (hl : ∀ w, Mod (fun _ => False) w0 w → ∀ j v, (E.cells vx vp)[j]? = some v → w.cell? ⟨D1, 0 + j, none⟩ = some v)
    (hc : ∀ w, Mod (fun _ => False) w0 w → Calls Tryz.prog 14 #[.agg #[.int .i64 (c 0), .int .i64 (c 1), .int .i64 (c 2), .int .i64 (c 3), .int .i64 (c 4), .int .i64 (c 5)], .agg (E.cells vx vp), .agg #[.bool true, .int .i64 0, .int .i64 0, .int .i64 0, .int .i64 0, .int .i64 0, .int .i64 0, .bool false, .int .i64 0, .bool false, .int .i64 0, .int .i64 0, .int .i64 0]] w fun e b => ∃ vx' vp', e = .returned (.tuple #[.agg (E'.cells vx' vp'), .agg #[.int .i64 y0, .int .i64 y1, .int .i64 y2]]) ∧ E'.See b vx' vp' ∧ (∀ i, i < 3 → (∀ k, (vx' i).ownBlock = some k → k < w0.heap.size ∨ w.heap.size ≤ k) ∧ (∀ k, (vp' i).ownBlock = some k → k < w0.heap.size ∨ w.heap.size ≤ k)) ∧ Below w.heap.size w b)
    (hlen : ∀ i, i < 3 → 0 < (E'.X i).length ∧ 0 < (E'.P i).length)
    (hQ : ∀ vs D vx' vp' D' w, Mod (fun _ => False) w0 w → vs 3 = .pointer (some ⟨D, 0, none⟩) → w.heap[D]? = some (.cells (E'.cells vx' vp') 35 (0, 0)) → E'.See w vx' vp' → vs 4 = .pointer (some ⟨D', 0, none⟩) → w.heap[D']? = some (.cells #[.int .i64 y0, .int .i64 y1, .int .i64 y2] 37 (0, 0)) → Q .normal (sh4Fr D1 u0 u2 u5 u6 u7 u8 u9 u10 u11 u12 u13 u14 u15 u16 u24 u25 u26 u27 u28 u29 u30 u31 u32 u33 u34 u35 u36 u37 u38 u39 u40 u41 u42 u43 u44 u45 u46 u47 vs) w) :
    (Code.region 4 sh4Ops true).wp Tryz.prog Q (sh4Fr D1 u0 u2 u5 u6 u7 u8 u9 u10 u11 u12 u13 u14 u15 u16 u24 u25 u26 u27 u28 u29 u30 u31 u32 u33 u34 u35 u36 u37 u38 u39 u40 u41 u42 u43 u44 u45 u46 u47 (fun _ => undef)) w0 := by
  refine wp_region_sh (by kernel_rfl) (by decide) sh4Dst (by decide) (sh4Fr D1 u0 u2 u5 u6 u7 u8 u9 u10 u11 u12 u13 u14 u15 u16 u24 u25 u26 u27 u28 u29 u30 u31 u32 u33 u34 u35 u36 u37 u38 u39 u40 u41 u42 u43 u44 u45 u46 u47) (fun _ => undef) (fun i => if i = 9 then 7 else if i = 10 then 8 else i) (by decide) (fun _ => False) (fun _ h => h.elim) (fun _ _ => True) trivial
    (fun s j => (s = 9 ∧ j = 7) ∨ (s = 10 ∧ j = 8)) (fun s j h => by rcases h with ⟨rfl, rfl⟩ | ⟨rfl, rfl⟩ <;> exact ⟨by decide, by decide⟩) (fun s s2 j h h2 => by omega) (sh4T w0.heap.size c E vx vp E' y0 y1 y2) ?_ ?_ ?_
  · intro i v u S w w' hi h hw hw' hz hS
    have hi' : i < 11 := hi
    rcases (by omega : i = 0 ∨ i = 1 ∨ i = 2 ∨ i = 3 ∨ i = 4 ∨ i = 5 ∨ i = 6 ∨ i = 7 ∨ i = 8 ∨ i = 9 ∨ i = 10) with rfl | rfl | rfl | rfl | rfl | rfl | rfl | rfl | rfl | rfl | rfl
    · exact h
    · exact h
    · exact h
    · exact TE.stab (show TE w0.heap.size E' (fun x y => .tuple #[.agg (E'.cells x y), .agg #[.int .i64 y0, .int .i64 y1, .int .i64 y2]]) v S w from h) (agr_none hw hw' hz hS)
    · exact TE.stab (show TE w0.heap.size E' (fun x y => .tuple #[.agg (E'.cells x y), .agg #[.int .i64 y0, .int .i64 y1, .int .i64 y2]]) v S w from h) (agr_none hw hw' hz hS)
    · exact TE.stab (show TE w0.heap.size E' (fun x y => .agg (E'.cells x y)) v S w from h) (agr_none hw hw' hz hS)
    · exact h
    · exact TP.stab h hS
    · exact TP.stab h hS
    · exact TEP.stab (show TEP w0.heap.size E' u S w from h) (agr_none hw hw' hz hS)
    · exact TP.stab h hS
  · intro i hi L vs w S hb hI hL hpr hsu hp hbd hkl _
    have hi' : i < 11 := hi
    rcases (by omega : i = 0 ∨ i = 1 ∨ i = 2 ∨ i = 3 ∨ i = 4 ∨ i = 5 ∨ i = 6 ∨ i = 7 ∨ i = 8 ∨ i = 9 ∨ i = 10) with rfl | rfl | rfl | rfl | rfl | rfl | rfl | rfl | rfl | rfl | rfl
    · exact wpOp_of _ rfl rfl (op_call_ enters_conf rfl (hcf w hb) (by rintro e b ⟨rfl, b'⟩; exact ⟨_, rfl, _, fun _ => False, rfl, rfl, fun _ h => h.elim, (fun h => by obtain ⟨s9, h9⟩ := h; omega), Mod.of b', trivial⟩))
    · exact wpOp_of _ rfl rfl (op_ldA (cs := E.cells vx vp) rfl rfl (ag_Est _) (sz_Est _) (hl w hb) ⟨_, fun _ => False, rfl, rfl, fun _ h => h.elim, (fun h => by obtain ⟨s9, h9⟩ := h; omega), Mod.refl _ _, trivial⟩)
    · exact wpOp_of _ rfl rfl (op_buildR (r := .agg #[.bool true, .int .i64 0, .int .i64 0, .int .i64 0, .int .i64 0, .int .i64 0, .int .i64 0, .bool false, .int .i64 0, .bool false, .int .i64 0, .int .i64 0, .int .i64 0]) rfl (by kernel_rfl) ⟨_, fun _ => False, rfl, rfl, fun _ h => h.elim, (fun h => by obtain ⟨s9, h9⟩ := h; omega), Mod.refl _ _, trivial⟩)
    · have h0 : vs 18 = .agg #[.int .i64 (c 0), .int .i64 (c 1), .int .i64 (c 2), .int .i64 (c 3), .int .i64 (c 4), .int .i64 (c 5)] := hp 0 (by decide) (fun _ h9 => by omega)
      have h1 : vs 19 = .agg (E.cells vx vp) := hp 1 (by decide) (fun _ h9 => by omega)
      have h2 : vs 20 = .agg #[.bool true, .int .i64 0, .int .i64 0, .int .i64 0, .int .i64 0, .int .i64 0, .int .i64 0, .bool false, .int .i64 0, .bool false, .int .i64 0, .int .i64 0, .int .i64 0] := hp 2 (by decide) (fun _ h9 => by omega)
      exact wpOp_of _ rfl rfl (op_call_ttt enters_step rfl h0 h1 h2 (hc w hb) (by rintro e b ⟨vx', vp', rfl, hs, hn, b'⟩; exact ⟨_, rfl, _, fun q => w.heap.size ≤ q ∧ q < b.heap.size, rfl, ⟨vx', vp', rfl, hs, fun i hi => ⟨fun k hk => ((hn i hi).1 k hk).elim (fun h => .inr ⟨h, Nat.ne_of_lt h⟩) (fun h => .inl ⟨h, (hs i hi).1.lt (hlen i hi).1 k hk⟩), fun k hk => ((hn i hi).2 k hk).elim (fun h => .inr ⟨h, Nat.ne_of_lt h⟩) (fun h => .inl ⟨h, (hs i hi).2.lt (hlen i hi).2 k hk⟩)⟩⟩, fun q hq => .inr hq, (fun h => by obtain ⟨s9, h9⟩ := h; omega), Mod.of b', trivial⟩))
    · obtain ⟨vx3, vp3, h3, s3, k3⟩ : TE w0.heap.size E' (fun x y => .tuple #[.agg (E'.cells x y), .agg #[.int .i64 y0, .int .i64 y1, .int .i64 y2]]) (vs 21) (S 3) w := hp 3 (by decide) (fun _ h9 => by omega)
      exact wpOp_of _ rfl rfl (op_move rfl h3 ⟨_, S 3, rfl, ⟨vx3, vp3, rfl, s3, k3⟩, fun q hq => .inl ⟨3, by decide, (fun _ h9 => by omega), hq⟩, (fun h => by obtain ⟨s9, h9⟩ := h; omega), Mod.refl _ _, trivial⟩)
    · obtain ⟨vx3, vp3, h3, s3, k3⟩ : TE w0.heap.size E' (fun x y => .tuple #[.agg (E'.cells x y), .agg #[.int .i64 y0, .int .i64 y1, .int .i64 y2]]) (vs 17) (S 4) w := hp 4 (by decide) (fun _ h9 => by omega)
      exact wpOp_of _ rfl rfl (op_extract rfl h3 rfl ⟨_, S 4, rfl, ⟨vx3, vp3, rfl, s3, k3⟩, fun q hq => .inl ⟨4, by decide, (fun _ h9 => by omega), hq⟩, (fun h => by obtain ⟨s9, h9⟩ := h; omega), Mod.refl _ _, trivial⟩)
    · obtain ⟨vx3, vp3, h3, s3, k3⟩ : TE w0.heap.size E' (fun x y => .tuple #[.agg (E'.cells x y), .agg #[.int .i64 y0, .int .i64 y1, .int .i64 y2]]) (vs 17) (S 4) w := hp 4 (by decide) (fun _ h9 => by omega)
      exact wpOp_of _ rfl rfl (op_extract rfl h3 rfl ⟨_, fun _ => False, rfl, rfl, fun _ h => h.elim, (fun h => by obtain ⟨s9, h9⟩ := h; omega), Mod.refl _ _, trivial⟩)
    · exact wpOp_of _ rfl rfl (op_alloc_est rfl ⟨_, fun b => b = w.heap.size, rfl, ⟨_, rfl, rfl, hb.size, heap_new _ _⟩, fun b h => .inr (by subst h; simp), fun _ b h => by omega, Mod.of ((Below.refl _ w).alloc (Nat.le_refl _) _), trivial⟩)
    · exact wpOp_of _ rfl rfl (op_alVec rfl ⟨_, fun b => b = w.heap.size, rfl, ⟨_, rfl, rfl, hb.size, heap_new _ _⟩, fun b h => .inr (by subst h; simp), fun _ b h => by omega, Mod.of ((Below.refl _ w).alloc (Nat.le_refl _) _), trivial⟩)
    · obtain ⟨D, hD, hSD, hBD, hbl⟩ : TP w0.heap.size #[.int .i64 0, .int .i64 0, .int .i64 0, .int .i64 0, .int .i64 0, .int .i64 0, .slice none 0 0, .int .i64 0, .int .i64 0, .slice none 0 0, .int .i64 0, .int .i64 0, .slice none 0 0, .int .i64 0, .int .i64 0, .slice none 0 0, .int .i64 0, .int .i64 0, .slice none 0 0, .int .i64 0, .int .i64 0, .slice none 0 0, .int .i64 0, .int .i64 0, .int .i64 0, .int .i64 0, .int .i64 0, .int .i64 0, .bool false] 35 (vs 3) (S 7) w := hp 7 (by decide) (fun _ h9 => by omega)
      obtain ⟨vx5, vp5, h5, s5, k5⟩ : TE w0.heap.size E' (fun x y => .agg (E'.cells x y)) (vs 22) (S 5) w := hp 5 (by decide) (fun _ h9 => by omega)
      have hne : ∀ v, OkS w0.heap.size w0.heap.size (S 5) v → ∀ q, v.ownBlock = some q → q ≠ D := fun v hv q hq e => (hv q hq).elim (fun h => hkl 7 (.inl ⟨rfl, rfl⟩) 5 (by decide) (by decide) D hSD (e ▸ h)) (fun h => by omega)
      have see' : E'.See (w.setRow D (E'.cells vx5 vp5)) vx5 vp5 := fun i hi => ⟨(s5 i hi).1.agree (mod_row _ _ _).size (fun k hk => (mod_row _ _ _).block k ((s5 i hi).1.lt (hlen i hi).1 k hk) (hne _ (k5 i hi).1 k hk)), (s5 i hi).2.agree (mod_row _ _ _).size (fun k hk => (mod_row _ _ _).block k ((s5 i hi).2.lt (hlen i hi).2 k hk) (hne _ (k5 i hi).2 k hk))⟩
      exact wpOp_of _ rfl rfl (op_storeRow rfl rfl hD h5 hbl (by show _ = some 29; kernel_rfl) rfl (cells_one _ _ _ w s5) ⟨undef, fun q => q = D ∨ S 5 q, rfl, ⟨D, vx5, vp5, hD, .inl rfl, hBD, heap_row hbl _, see', fun i hi => ⟨fun q hq => ((k5 i hi).1 q hq).imp .inr id, fun q hq => ((k5 i hi).2 q hq).imp .inr id⟩⟩, fun q hq => hq.elim (fun h => .inl ⟨7, by decide, (fun _ h9 => by omega), h ▸ hSD⟩) (fun h => .inl ⟨5, by decide, (fun _ h9 => by omega), h⟩), (fun h => by obtain ⟨s9, h9⟩ := h; omega), (mod_row _ _ _).mono fun q _ hq => .inr ⟨7, .inl ⟨rfl, rfl⟩, hq ▸ hSD⟩, trivial⟩)
    · obtain ⟨D, hD, hSD, hBD, hbl⟩ : TP w0.heap.size #[.int .i64 0, .int .i64 0, .int .i64 0] 37 (vs 4) (S 8) w := hp 8 (by decide) (fun _ h9 => by omega)
      have h6 : vs 23 = .agg #[.int .i64 y0, .int .i64 y1, .int .i64 y2] := hp 6 (by decide) (fun _ h9 => by omega)
      exact wpOp_of _ rfl rfl (op_storeRow rfl rfl hD h6 hbl (by kernel_rfl) rfl (by kernel_rfl) ⟨undef, fun q => q = D, rfl, ⟨D, hD, rfl, hBD, heap_row hbl _⟩, fun q h => .inl ⟨8, by decide, (fun _ h9 => by omega), h ▸ hSD⟩, (fun h => by obtain ⟨s9, h9⟩ := h; omega), (mod_row _ _ _).mono fun q _ hq => .inr ⟨8, .inr ⟨rfl, rfl⟩, hq ▸ hSD⟩, trivial⟩)
  · intro vs w S L hall hI hb hSz hT
    obtain ⟨D, vx', vp', g1, _, g3, g4, g5, _⟩ : TEP w0.heap.size E' (vs 3) (S 9) w := hT 9 (by decide) (fun s h => by omega)
    obtain ⟨D', f1, _, f3, f4⟩ : TP w0.heap.size #[.int .i64 y0, .int .i64 y1, .int .i64 y2] 37 (vs 4) (S 10) w := hT 10 (by decide) (fun s h => by omega)
    exact hQ vs D vx' vp' D' w hb g1 g4 g5 f1 f4
end Go.Proofs.YtoefekkdjcflmaaGreatDoor.Et

