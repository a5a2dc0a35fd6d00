/- Parts of the proof. -/
import Derived.Test.YtoefekkdjcflmaaGreatDoorK45
import Derived.Test.YtoefekkdjcflmaaGreatDoorK47
namespace Go.Proofs.YtoefekkdjcflmaaGreatDoor.Et
open Go.RowKit Go.Sort Go.Proofs.YtoefekkdjcflmaaGreatDoor.Qm
open Go.Proofs.YtoefekkdjcflmaaGreatDoor.Qt (Less)
def cS (k : Nat) : Int := [2097152, 16777216, 262144, 16777216, 16777216, 268435456].getD k 0
def smM : Sm := ⟨true, false, false, fun _ => 0, fun _ => 0, fun _ => 0, 0⟩
theorem conf_any (w : World) : Calls Tryz.prog 28 #[] w fun e b => e = .returned (.agg (cfV cS)) ∧ Below w.heap.size w b := by
  go_enter Tryz.func28, Tryz.ntmps28
  go_wp2
  refine bodyPost_ret (v := .agg (cfV cS)) (by simp [results, Tryz.results28, go_sem]; rfl) rfl ?_
  exact ⟨rfl, (Below.refl _ _).alloc (Nat.le_refl _) _⟩
theorem may_S : mayB cS = true := by kernel_rfl
theorem shown_st : (stp cS iniE smM).st = 1 := by kernel_rfl
theorem shown_co : (stp cS iniE smM).co = 1 := by kernel_rfl
theorem shown_sat : (stp cS iniE smM).sat = false := by kernel_rfl
theorem shown_rgt : rgtB (stp cS iniE smM) = true := by kernel_rfl
theorem ini_rgt : rgtB iniE = true := by kernel_rfl
theorem shown_y : plc (stp cS iniE smM) 0 = 0 ∧ plc (stp cS iniE smM) 1 = 0 ∧ plc (stp cS iniE smM) 2 = 0 := ⟨by kernel_rfl, by kernel_rfl, by kernel_rfl⟩
theorem wdL_len {e : Es} (hr : rgtB e = true) : (wdL e).length = 38 := by
  have h0 := (rgt_axes hr 0 (by decide)).2.2.2.2.2.1
  have h1 := (rgt_axes hr 1 (by decide)).2.2.2.2.2.1
  have h2 := (rgt_axes hr 2 (by decide)).2.2.2.2.2.1
  simp [wdL, wdS, trW, rowW_len, h0, h1, h2]
set_option maxRecDepth 40000 in
set_option maxHeartbeats 8000000 in
theorem shown6 (w : World) (hG : Less w) : Calls Tryz.prog 11 #[] w fun e b => e = .returned (.bool true) ∧ Below w.heap.size w b := by
  go_enter Tryz.func11, Tryz.ntmps11
  go_upto_region 1 with fail
  refine sh1_seq (c := cS) (E := iniE) (conf_any w) (fun b _ => (init_yes cS b may_S).mono fun z b' ⟨vx, vp, h1, h2, _, h4⟩ => ⟨vx, vp, h1, h2, h4⟩) ?_
  intro vx vp b b1 hs
  have g1 := heap_new b (.cells (iniE.cells vx vp) 35)
  have bX := box_below b (.cells (iniE.cells vx vp) 35)
  have hs1 := hs.below bX
  have bV := bt b1 bX
  generalize b.alloc (.cells (iniE.cells vx vp) 35) = V at g1 hs1 bV bX ⊢
  have hR := right_any iniE vx vp V hs1
  rw [ini_rgt] at hR
  go_upto_region 2 with fail
  refine sh2_seq (D := b.heap.size) (cs := iniE.cells vx vp) (cell_of g1) rfl hR ?_
  intro b2 bb2
  have g2 := keep bb2 g1
  have hs2 := hs1.below bb2
  have bV2 := bt bV bb2
  have hG2 := hG.below bV2
  clear hR g1 hs hs1 b1 bX bV bb2
  go_upto_region 4 with fail
  refine sh4_region (D1 := b.heap.size) (c := cS) (E := iniE) (vx := vx) (vp := vp) (E' := stp cS iniE smM) (y0 := plc (stp cS iniE smM) 0) (y1 := plc (stp cS iniE smM) 1) (y2 := plc (stp cS iniE smM) 2)
    (fun w _ => conf_any w) (fun w hw => cell_of (keep (hw.below (Nat.le_refl _) (fun _ h => h.elim)) g2)) (fun w hw => step_E cS iniE smM vx vp w b2 may_S ini_rgt hs2 hw.size (hs2.below (hw.below (Nat.le_refl _) (fun _ h => h.elim))) (hG2.below (hw.below (Nat.le_refl _) (fun _ h => h.elim))))
    (fun i hi => ⟨by rw [(rgt_axes shown_rgt i hi).2.2.2.2.2.1]; decide, by rw [(rgt_axes shown_rgt i hi).2.2.2.2.2.2]; decide⟩) ?_
  intro vs D vx' vp' D' w4 m4 e1 g4 s4 e2 h4
  have b4 : Below b2.heap.size b2 w4 := m4.below (Nat.le_refl _) (fun _ h => h.elim)
  have bV4 := bt bV2 b4
  unfold sh4Fr
  rw [e1, e2]
  clear e1 e2 m4 hs2 g2 hG hG2 b4 bV2
  rw [shown_y.1, shown_y.2.1, shown_y.2.2] at h4
  have hwk := Es.wk g4
  have e22 : w4.cell? ⟨D, 22, none⟩ = some (.int .i64 (stp cS iniE smM).st) := hwk.cell (by decide) rfl
  have e23 : w4.cell? ⟨D, 23, none⟩ = some (.int .i64 (stp cS iniE smM).co) := hwk.cell (by decide) rfl
  have e28 : w4.cell? ⟨D, 28, none⟩ = some (.bool (stp cS iniE smM).sat) := hwk.cell (by decide) rfl
  rw [shown_st] at e22
  rw [shown_co] at e23
  rw [shown_sat] at e28
  obtain ⟨d0, d1, d2, _⟩ := mat_cells h4
  have hW := words_any (stp cS iniE smM) vx' vp' w4 shown_rgt s4
  go_upto_region 5 with fail
  refine sh5_seq (D := D) (D' := D') (cs := (stp cS iniE smM).cells vx' vp') (cell_of g4) rfl e22 e23 e28 d0 d1 d2 (hW.mono fun z b ⟨v, h1, h2, _, h4⟩ => by
    obtain ⟨ao, cap, rfl⟩ := h2.slice
    exact ⟨ao, cap, by rw [h1, wdL_len shown_rgt], h4⟩) ?_
  intro ao cap b5 hb5
  clear hW e22 e23 e28 d0 d1 d2 hwk g4 h4 s4
  go_wp2
  go_ret
  exact ⟨rfl, bt bV4 hb5⟩
end Go.Proofs.YtoefekkdjcflmaaGreatDoor.Et
namespace Go.Proofs.YtoefekkdjcflmaaGreatDoor.Et
open Go.RowKit Go.Sort Go.Proofs.YtoefekkdjcflmaaGreatDoor.Qm
set_option linter.unusedVariables false
theorem enters_rmay : ∀ (args : Array Value) (a : World), Sem.run Tryz.prog (callFunc 12 args) a = Result.ok (Next.enter 12 args) a := by
  intro args a; simp [callFunc, Tryz.func12, go_sem]; rfl
theorem enters_rright : ∀ (args : Array Value) (a : World), Sem.run Tryz.prog (callFunc 13 args) a = Result.ok (Next.enter 13 args) a := by
  intro args a; simp [callFunc, Tryz.func13, go_sem]; rfl
theorem enters_step2 : ∀ (args : Array Value) (a : World), Sem.run Tryz.prog (callFunc 14 args) a = Result.ok (Next.enter 14 args) a := by
  intro args a; simp [callFunc, Tryz.func14, go_sem]; rfl
set_option maxRecDepth 40000 in
set_option maxHeartbeats 4000000 in
theorem ct2_seq {Q : Exit → Act → World → Prop} {w : World} {DC : Nat} {DE : Nat} {c : Nat → Int} {cs : Array Value} {R : Bool} {u0 u1 u2 u5 u6 u7 u8 u9 u10 u11 u12 u13 u14 u15 u16 u17 u18 u19 u20 u21 u22 u23 u24 u25 u26 u27 u28 u29 u30 u31 u32 u33 u34 u35 u36 u37 u38 u39 u40 u41 u42 u43 u44 u45 u46 u47 u48 u49 u50 u51 u52 u53 u54 u55 u56 u57 u58 u59 u60 u61 u62 u63 u64 u65 u66 u67 u68 u69 u70 u71 u72 u73 u74 u75 u76 u77 u78 u79 u80 u81 u82 u83 u84 u85 u86 u87 u88 u89 u90 u91 u92 u93 u94 u95 u96 u97 u98 u99 u100 u101 u102 u103 u104 u105 u106 u107 u108 u109 u110 u111 u112 u113 u114 u115 u116 u117 u118 u119 u120 u121 u122 u123 u124 u125 u126 u127 : Value} 
    (hlC : ∀ j v, (cfV c)[j]? = some v → w.cell? ⟨DC, 0 + j, none⟩ = some v) (hM : Calls Tryz.prog 12 #[.agg (cfV c)] w fun e b => e = .returned (.bool true) ∧ Below w.heap.size w b)
    (hlE : ∀ b, Below w.heap.size w b → ∀ j v, cs[j]? = some v → b.cell? ⟨DE, 0 + j, none⟩ = some v) (hz : cs.size = 29) (hR : ∀ b, Below w.heap.size w b → Calls Tryz.prog 13 #[.agg cs] b fun e b' => e = .returned (.bool R) ∧ Below b.heap.size b b')
    (hQ : ∀ b, Below w.heap.size w b → Q .normal ⟨(List.toArray (u0 :: u1 :: u2 :: .pointer (some ⟨DC, 0, none⟩) :: .pointer (some ⟨DE, 0, none⟩) :: u5 :: u6 :: u7 :: u8 :: u9 :: u10 :: u11 :: u12 :: u13 :: .agg (cfV c) :: .bool true :: .bool false :: .bool false :: .agg cs :: .bool R :: .bool (!R) :: .bool (!R) :: u22 :: u23 :: u24 :: u25 :: u26 :: u27 :: u28 :: u29 :: u30 :: u31 :: u32 :: u33 :: u34 :: u35 :: u36 :: u37 :: u38 :: u39 :: u40 :: u41 :: u42 :: u43 :: u44 :: u45 :: u46 :: u47 :: u48 :: u49 :: u50 :: u51 :: u52 :: u53 :: u54 :: u55 :: u56 :: u57 :: u58 :: u59 :: u60 :: u61 :: u62 :: u63 :: u64 :: u65 :: u66 :: u67 :: u68 :: u69 :: u70 :: u71 :: u72 :: u73 :: u74 :: u75 :: u76 :: u77 :: u78 :: u79 :: u80 :: u81 :: u82 :: u83 :: u84 :: u85 :: u86 :: u87 :: u88 :: u89 :: u90 :: u91 :: u92 :: u93 :: u94 :: u95 :: u96 :: u97 :: u98 :: u99 :: u100 :: u101 :: u102 :: u103 :: u104 :: u105 :: u106 :: u107 :: u108 :: u109 :: u110 :: u111 :: u112 :: u113 :: u114 :: u115 :: u116 :: u117 :: u118 :: u119 :: u120 :: u121 :: u122 :: u123 :: u124 :: u125 :: u126 :: u127 :: [])), []⟩ b) : (Code.region 2 #[
 ⟨some 14, .load 24 (.tmp 3), 24, "more.go:33", #[], none⟩,
 ⟨some 15, .call ⟨.value (.func 12), #[.tmp 14], #[24]⟩, 4, "more.go:33", #[eD 0], none⟩,
 ⟨some 16, .unOp .not 4 (.tmp 15), 4, "more.go:33", #[eD 1], none⟩,
 ⟨some 17, .move (.tmp 16), 4, "more.go:33", #[eD 2, eC 1], none⟩,
 ⟨some 18, .load 35 (.tmp 4), 35, "more.go:33", #[eG 3], some (3, false)⟩,
 ⟨some 19, .call ⟨.value (.func 13), #[.tmp 18], #[35]⟩, 4, "more.go:33", #[eD 4, eC 3, eG 3], some (3, false)⟩,
 ⟨some 20, .unOp .not 4 (.tmp 19), 4, "more.go:33", #[eD 5, eG 3], some (3, false)⟩,
 ⟨some 21, .pick (.tmp 17) (.const (.bool true)) (.tmp 20), 4, "more.go:33", #[eD 3, eD 6], none⟩] false).wp Tryz.prog Q ⟨(List.toArray (u0 :: u1 :: u2 :: .pointer (some ⟨DC, 0, none⟩) :: .pointer (some ⟨DE, 0, none⟩) :: u5 :: u6 :: u7 :: u8 :: u9 :: u10 :: u11 :: u12 :: u13 :: u14 :: u15 :: u16 :: u17 :: u18 :: u19 :: u20 :: u21 :: u22 :: u23 :: u24 :: u25 :: u26 :: u27 :: u28 :: u29 :: u30 :: u31 :: u32 :: u33 :: u34 :: u35 :: u36 :: u37 :: u38 :: u39 :: u40 :: u41 :: u42 :: u43 :: u44 :: u45 :: u46 :: u47 :: u48 :: u49 :: u50 :: u51 :: u52 :: u53 :: u54 :: u55 :: u56 :: u57 :: u58 :: u59 :: u60 :: u61 :: u62 :: u63 :: u64 :: u65 :: u66 :: u67 :: u68 :: u69 :: u70 :: u71 :: u72 :: u73 :: u74 :: u75 :: u76 :: u77 :: u78 :: u79 :: u80 :: u81 :: u82 :: u83 :: u84 :: u85 :: u86 :: u87 :: u88 :: u89 :: u90 :: u91 :: u92 :: u93 :: u94 :: u95 :: u96 :: u97 :: u98 :: u99 :: u100 :: u101 :: u102 :: u103 :: u104 :: u105 :: u106 :: u107 :: u108 :: u109 :: u110 :: u111 :: u112 :: u113 :: u114 :: u115 :: u116 :: u117 :: u118 :: u119 :: u120 :: u121 :: u122 :: u123 :: u124 :: u125 :: u126 :: u127 :: [])), []⟩ w := by
  refine wp_region_list ?_
  refine wpList_plain rfl fun _ hK => op_ldA (cs := cfV c) rfl rfl (ag_Conf _) (sz_Conf _) hlC (hK _ _ ?_)
  refine wpList_plain rfl fun _ hK => op_call_t enters_rmay rfl rfl hM ?_
  rintro e b ⟨rfl, b1⟩
  refine ⟨_, rfl, hK _ _ ?_⟩
  change wpList Tryz.prog _ _ _ ⟨(List.toArray (u0 :: u1 :: u2 :: .pointer (some ⟨DC, 0, none⟩) :: .pointer (some ⟨DE, 0, none⟩) :: u5 :: u6 :: u7 :: u8 :: u9 :: u10 :: u11 :: u12 :: u13 :: .agg (cfV c) :: .bool true :: u16 :: u17 :: u18 :: u19 :: u20 :: u21 :: u22 :: u23 :: u24 :: u25 :: u26 :: u27 :: u28 :: u29 :: u30 :: u31 :: u32 :: u33 :: u34 :: u35 :: u36 :: u37 :: u38 :: u39 :: u40 :: u41 :: u42 :: u43 :: u44 :: u45 :: u46 :: u47 :: u48 :: u49 :: u50 :: u51 :: u52 :: u53 :: u54 :: u55 :: u56 :: u57 :: u58 :: u59 :: u60 :: u61 :: u62 :: u63 :: u64 :: u65 :: u66 :: u67 :: u68 :: u69 :: u70 :: u71 :: u72 :: u73 :: u74 :: u75 :: u76 :: u77 :: u78 :: u79 :: u80 :: u81 :: u82 :: u83 :: u84 :: u85 :: u86 :: u87 :: u88 :: u89 :: u90 :: u91 :: u92 :: u93 :: u94 :: u95 :: u96 :: u97 :: u98 :: u99 :: u100 :: u101 :: u102 :: u103 :: u104 :: u105 :: u106 :: u107 :: u108 :: u109 :: u110 :: u111 :: u112 :: u113 :: u114 :: u115 :: u116 :: u117 :: u118 :: u119 :: u120 :: u121 :: u122 :: u123 :: u124 :: u125 :: u126 :: u127 :: [])), []⟩ _
  refine wpList_plain rfl fun _ hK => op_notB' rfl rfl (hK _ _ ?_)
  change wpList Tryz.prog _ _ _ ⟨(List.toArray (u0 :: u1 :: u2 :: .pointer (some ⟨DC, 0, none⟩) :: .pointer (some ⟨DE, 0, none⟩) :: u5 :: u6 :: u7 :: u8 :: u9 :: u10 :: u11 :: u12 :: u13 :: .agg (cfV c) :: .bool true :: .bool false :: u17 :: u18 :: u19 :: u20 :: u21 :: u22 :: u23 :: u24 :: u25 :: u26 :: u27 :: u28 :: u29 :: u30 :: u31 :: u32 :: u33 :: u34 :: u35 :: u36 :: u37 :: u38 :: u39 :: u40 :: u41 :: u42 :: u43 :: u44 :: u45 :: u46 :: u47 :: u48 :: u49 :: u50 :: u51 :: u52 :: u53 :: u54 :: u55 :: u56 :: u57 :: u58 :: u59 :: u60 :: u61 :: u62 :: u63 :: u64 :: u65 :: u66 :: u67 :: u68 :: u69 :: u70 :: u71 :: u72 :: u73 :: u74 :: u75 :: u76 :: u77 :: u78 :: u79 :: u80 :: u81 :: u82 :: u83 :: u84 :: u85 :: u86 :: u87 :: u88 :: u89 :: u90 :: u91 :: u92 :: u93 :: u94 :: u95 :: u96 :: u97 :: u98 :: u99 :: u100 :: u101 :: u102 :: u103 :: u104 :: u105 :: u106 :: u107 :: u108 :: u109 :: u110 :: u111 :: u112 :: u113 :: u114 :: u115 :: u116 :: u117 :: u118 :: u119 :: u120 :: u121 :: u122 :: u123 :: u124 :: u125 :: u126 :: u127 :: [])), []⟩ _
  refine wpList_plain rfl fun _ hK => op_move rfl rfl (hK _ _ ?_)
  refine wl_want rfl fun _ hK => op_ldA (cs := cs) rfl rfl (ag_Est _) (by rw [hz]; exact sz_Est _) (hlE b b1) (hK _ _ ?_)
  refine wl_want rfl fun _ hK => op_call_t enters_rright rfl rfl (hR b b1) ?_
  rintro e b' ⟨rfl, b2⟩
  refine ⟨_, rfl, hK _ _ ?_⟩
  change wpList Tryz.prog _ _ _ ⟨(List.toArray (u0 :: u1 :: u2 :: .pointer (some ⟨DC, 0, none⟩) :: .pointer (some ⟨DE, 0, none⟩) :: u5 :: u6 :: u7 :: u8 :: u9 :: u10 :: u11 :: u12 :: u13 :: .agg (cfV c) :: .bool true :: .bool false :: .bool false :: .agg cs :: .bool R :: u20 :: u21 :: u22 :: u23 :: u24 :: u25 :: u26 :: u27 :: u28 :: u29 :: u30 :: u31 :: u32 :: u33 :: u34 :: u35 :: u36 :: u37 :: u38 :: u39 :: u40 :: u41 :: u42 :: u43 :: u44 :: u45 :: u46 :: u47 :: u48 :: u49 :: u50 :: u51 :: u52 :: u53 :: u54 :: u55 :: u56 :: u57 :: u58 :: u59 :: u60 :: u61 :: u62 :: u63 :: u64 :: u65 :: u66 :: u67 :: u68 :: u69 :: u70 :: u71 :: u72 :: u73 :: u74 :: u75 :: u76 :: u77 :: u78 :: u79 :: u80 :: u81 :: u82 :: u83 :: u84 :: u85 :: u86 :: u87 :: u88 :: u89 :: u90 :: u91 :: u92 :: u93 :: u94 :: u95 :: u96 :: u97 :: u98 :: u99 :: u100 :: u101 :: u102 :: u103 :: u104 :: u105 :: u106 :: u107 :: u108 :: u109 :: u110 :: u111 :: u112 :: u113 :: u114 :: u115 :: u116 :: u117 :: u118 :: u119 :: u120 :: u121 :: u122 :: u123 :: u124 :: u125 :: u126 :: u127 :: [])), []⟩ _
  refine wl_want rfl fun _ hK => op_notB' rfl rfl (hK _ _ ?_)
  refine wpList_plain rfl fun _ hK => op_pickN rfl rfl rfl (hK _ _ ?_)
  exact hQ b' (bt b1 b2)
set_option maxRecDepth 40000 in
set_option maxHeartbeats 4000000 in
theorem ct4_seq {Q : Exit → Act → World → Prop} {w : World} {DC : Nat} {DE : Nat} {c : Nat → Int} {cs : Array Value} {E' : Es} {y : Nat → Int} {M : Nat} {DS : Nat} {sv : Array Value} {u0 u1 u2 u6 u7 u8 u9 u10 u11 u12 u13 u14 u15 u16 u17 u18 u19 u20 u21 u22 u23 u24 u25 u26 u27 u28 u29 u30 u31 u32 u33 u34 u35 u36 u37 u38 u39 u40 u41 u42 u43 u44 u45 u46 u47 u48 u49 u50 u51 u52 u53 u54 u55 u56 u57 u58 u59 u60 u61 u62 u63 u64 u65 u66 u67 u68 u69 u70 u71 u72 u73 u74 u75 u76 u77 u78 u79 u80 u81 u82 u83 u84 u85 u86 u87 u88 u89 u90 u91 u92 u93 u94 u95 u96 u97 u98 u99 u100 u101 u102 u103 u104 u105 u106 u107 u108 u109 u110 u111 u112 u113 u114 u115 u116 u117 u118 u119 u120 u121 u122 u123 u124 u125 u126 u127 : Value} 
    (hlC : ∀ j v, (cfV c)[j]? = some v → w.cell? ⟨DC, 0 + j, none⟩ = some v)
    (hlE : ∀ j v, cs[j]? = some v → w.cell? ⟨DE, 0 + j, none⟩ = some v) (hz : cs.size = 29)
    (hlS : ∀ j v, sv[j]? = some v → w.cell? ⟨DS, 0 + j, none⟩ = some v) (hzs : sv.size = 13)
    (hS : Calls Tryz.prog 14 #[.agg (cfV c), .agg cs, .agg sv] w fun z b => ∃ vx' vp', z = .returned (.tuple #[.agg (E'.cells vx' vp'), .agg (veV y)]) ∧ E'.See b vx' vp' ∧ (∀ i, i < 3 → (∀ k, (vx' i).ownBlock = some k → k < M ∨ w.heap.size ≤ k) ∧ (∀ k, (vp' i).ownBlock = some k → k < M ∨ w.heap.size ≤ k)) ∧ Below w.heap.size w b)
    (hlen : ∀ i, i < 3 → 0 < (E'.X i).length ∧ 0 < (E'.P i).length)
    (hQ : ∀ vx' vp' b u, Below w.heap.size w b → Below b.heap.size b u → E'.See u vx' vp' → (∀ i, i < 3 → (∀ k, (vx' i).ownBlock = some k → k < M ∨ (w.heap.size ≤ k ∧ k < b.heap.size)) ∧ (∀ k, (vp' i).ownBlock = some k → k < M ∨ (w.heap.size ≤ k ∧ k < b.heap.size))) → u.heap[b.heap.size]? = some (.cells (E'.cells vx' vp') 35 (0, 0)) → u.heap[b.heap.size + 1]? = some (.cells (veV y) 37 (0, 0)) → Q .normal ⟨(List.toArray (u0 :: u1 :: u2 :: .pointer (some ⟨DC, 0, none⟩) :: .pointer (some ⟨DE, 0, none⟩) :: .pointer (some ⟨DS, 0, none⟩) :: u6 :: u7 :: .pointer (some ⟨b.heap.size, 0, none⟩) :: .pointer (some ⟨b.heap.size + 1, 0, none⟩) :: u10 :: u11 :: u12 :: u13 :: u14 :: u15 :: u16 :: u17 :: u18 :: u19 :: u20 :: u21 :: u22 :: .tuple #[.agg (E'.cells vx' vp'), .agg (veV y)] :: .agg (cfV c) :: .agg cs :: .agg sv :: .tuple #[.agg (E'.cells vx' vp'), .agg (veV y)] :: .agg (E'.cells vx' vp') :: .agg (veV y) :: u30 :: u31 :: u32 :: u33 :: u34 :: u35 :: u36 :: u37 :: u38 :: u39 :: u40 :: u41 :: u42 :: u43 :: u44 :: u45 :: u46 :: u47 :: u48 :: u49 :: u50 :: u51 :: u52 :: u53 :: u54 :: u55 :: u56 :: u57 :: u58 :: u59 :: u60 :: u61 :: u62 :: u63 :: u64 :: u65 :: u66 :: u67 :: u68 :: u69 :: u70 :: u71 :: u72 :: u73 :: u74 :: u75 :: u76 :: u77 :: u78 :: u79 :: u80 :: u81 :: u82 :: u83 :: u84 :: u85 :: u86 :: u87 :: u88 :: u89 :: u90 :: u91 :: u92 :: u93 :: u94 :: u95 :: u96 :: u97 :: u98 :: u99 :: u100 :: u101 :: u102 :: u103 :: u104 :: u105 :: u106 :: u107 :: u108 :: u109 :: u110 :: u111 :: u112 :: u113 :: u114 :: u115 :: u116 :: u117 :: u118 :: u119 :: u120 :: u121 :: u122 :: u123 :: u124 :: u125 :: u126 :: u127 :: [])), []⟩ u) : (Code.region 4 #[
 ⟨some 24, .load 24 (.tmp 3), 24, "more.go:36", #[], none⟩,
 ⟨some 25, .load 35 (.tmp 4), 35, "more.go:36", #[], none⟩,
 ⟨some 26, .load 39 (.tmp 5), 39, "more.go:36", #[], none⟩,
 ⟨some 27, .call ⟨.value (.func 14), #[.tmp 24, .tmp 25, .tmp 26], #[24, 35, 39]⟩, 43, "more.go:36", #[eD 0, eD 1, eD 2], none⟩,
 ⟨some 23, .move (.tmp 27), 43, "more.go:36", #[eD 3], none⟩,
 ⟨some 28, .extract (.tmp 23) 0, 35, "more.go:36", #[eD 4], none⟩,
 ⟨some 29, .extract (.tmp 23) 1, 37, "more.go:36", #[eD 4, ⟨9, .gcOnly .lateStores⟩], none⟩,
 ⟨some 8, .alloc 35, 0, "more.go:36", #[], none⟩,
 ⟨some 9, .alloc 37, 0, "more.go:36", #[], none⟩,
 ⟨none, .store 35 (.tmp 8) (.tmp 28), 0, "more.go:36", #[eD 7, eD 5, eC 3, eP 0, eP 1, eP 2, eP 3, eP 4, eP 5, ⟨6, .textOnly .lateStores⟩, eP 7, eP 8], none⟩,
 ⟨none, .store 37 (.tmp 9) (.tmp 29), 0, "more.go:36", #[eD 8, eD 6, eC 9, eP 0, eP 1, eP 2, eP 3, eP 4, eP 5, eP 6, eP 7, eP 8, eP 9], none⟩] false).wp Tryz.prog Q ⟨(List.toArray (u0 :: u1 :: u2 :: .pointer (some ⟨DC, 0, none⟩) :: .pointer (some ⟨DE, 0, none⟩) :: .pointer (some ⟨DS, 0, none⟩) :: u6 :: u7 :: u8 :: u9 :: u10 :: u11 :: u12 :: u13 :: u14 :: u15 :: u16 :: u17 :: u18 :: u19 :: u20 :: u21 :: u22 :: u23 :: u24 :: u25 :: u26 :: u27 :: u28 :: u29 :: u30 :: u31 :: u32 :: u33 :: u34 :: u35 :: u36 :: u37 :: u38 :: u39 :: u40 :: u41 :: u42 :: u43 :: u44 :: u45 :: u46 :: u47 :: u48 :: u49 :: u50 :: u51 :: u52 :: u53 :: u54 :: u55 :: u56 :: u57 :: u58 :: u59 :: u60 :: u61 :: u62 :: u63 :: u64 :: u65 :: u66 :: u67 :: u68 :: u69 :: u70 :: u71 :: u72 :: u73 :: u74 :: u75 :: u76 :: u77 :: u78 :: u79 :: u80 :: u81 :: u82 :: u83 :: u84 :: u85 :: u86 :: u87 :: u88 :: u89 :: u90 :: u91 :: u92 :: u93 :: u94 :: u95 :: u96 :: u97 :: u98 :: u99 :: u100 :: u101 :: u102 :: u103 :: u104 :: u105 :: u106 :: u107 :: u108 :: u109 :: u110 :: u111 :: u112 :: u113 :: u114 :: u115 :: u116 :: u117 :: u118 :: u119 :: u120 :: u121 :: u122 :: u123 :: u124 :: u125 :: u126 :: u127 :: [])), []⟩ w := by
  refine wp_region_list ?_
  refine wpList_plain rfl fun _ hK => op_ldA (cs := cfV c) rfl rfl (ag_Conf _) (sz_Conf _) hlC (hK _ _ ?_)
  refine wpList_plain rfl fun _ hK => op_ldA (cs := cs) rfl rfl (ag_Est _) (by rw [hz]; exact sz_Est _) hlE (hK _ _ ?_)
  refine wpList_plain rfl fun _ hK => op_ldA (cs := sv) rfl rfl (ag_Sample _) (by rw [hzs]; exact sz_Sample _) hlS (hK _ _ ?_)
  change wpList Tryz.prog _ _ _ ⟨(List.toArray (u0 :: u1 :: u2 :: .pointer (some ⟨DC, 0, none⟩) :: .pointer (some ⟨DE, 0, none⟩) :: .pointer (some ⟨DS, 0, none⟩) :: u6 :: u7 :: u8 :: u9 :: u10 :: u11 :: u12 :: u13 :: u14 :: u15 :: u16 :: u17 :: u18 :: u19 :: u20 :: u21 :: u22 :: u23 :: .agg (cfV c) :: .agg cs :: .agg sv :: u27 :: u28 :: u29 :: u30 :: u31 :: u32 :: u33 :: u34 :: u35 :: u36 :: u37 :: u38 :: u39 :: u40 :: u41 :: u42 :: u43 :: u44 :: u45 :: u46 :: u47 :: u48 :: u49 :: u50 :: u51 :: u52 :: u53 :: u54 :: u55 :: u56 :: u57 :: u58 :: u59 :: u60 :: u61 :: u62 :: u63 :: u64 :: u65 :: u66 :: u67 :: u68 :: u69 :: u70 :: u71 :: u72 :: u73 :: u74 :: u75 :: u76 :: u77 :: u78 :: u79 :: u80 :: u81 :: u82 :: u83 :: u84 :: u85 :: u86 :: u87 :: u88 :: u89 :: u90 :: u91 :: u92 :: u93 :: u94 :: u95 :: u96 :: u97 :: u98 :: u99 :: u100 :: u101 :: u102 :: u103 :: u104 :: u105 :: u106 :: u107 :: u108 :: u109 :: u110 :: u111 :: u112 :: u113 :: u114 :: u115 :: u116 :: u117 :: u118 :: u119 :: u120 :: u121 :: u122 :: u123 :: u124 :: u125 :: u126 :: u127 :: [])), []⟩ _
  refine wpList_plain rfl fun _ hK => op_call_ttt enters_step2 rfl rfl rfl rfl hS ?_
  rintro e b ⟨vx', vp', rfl, hs, hn, b1⟩
  refine ⟨_, rfl, hK _ _ ?_⟩
  change wpList Tryz.prog _ _ _ ⟨(List.toArray (u0 :: u1 :: u2 :: .pointer (some ⟨DC, 0, none⟩) :: .pointer (some ⟨DE, 0, none⟩) :: .pointer (some ⟨DS, 0, none⟩) :: u6 :: u7 :: u8 :: u9 :: u10 :: u11 :: u12 :: u13 :: u14 :: u15 :: u16 :: u17 :: u18 :: u19 :: u20 :: u21 :: u22 :: u23 :: .agg (cfV c) :: .agg cs :: .agg sv :: .tuple #[.agg (E'.cells vx' vp'), .agg (veV y)] :: u28 :: u29 :: u30 :: u31 :: u32 :: u33 :: u34 :: u35 :: u36 :: u37 :: u38 :: u39 :: u40 :: u41 :: u42 :: u43 :: u44 :: u45 :: u46 :: u47 :: u48 :: u49 :: u50 :: u51 :: u52 :: u53 :: u54 :: u55 :: u56 :: u57 :: u58 :: u59 :: u60 :: u61 :: u62 :: u63 :: u64 :: u65 :: u66 :: u67 :: u68 :: u69 :: u70 :: u71 :: u72 :: u73 :: u74 :: u75 :: u76 :: u77 :: u78 :: u79 :: u80 :: u81 :: u82 :: u83 :: u84 :: u85 :: u86 :: u87 :: u88 :: u89 :: u90 :: u91 :: u92 :: u93 :: u94 :: u95 :: u96 :: u97 :: u98 :: u99 :: u100 :: u101 :: u102 :: u103 :: u104 :: u105 :: u106 :: u107 :: u108 :: u109 :: u110 :: u111 :: u112 :: u113 :: u114 :: u115 :: u116 :: u117 :: u118 :: u119 :: u120 :: u121 :: u122 :: u123 :: u124 :: u125 :: u126 :: u127 :: [])), []⟩ _
  refine wpList_plain rfl fun _ hK => op_move rfl rfl (hK _ _ ?_)
  refine wpList_plain rfl fun _ hK => op_extract rfl rfl rfl (hK _ _ ?_)
  change wpList Tryz.prog _ _ _ ⟨(List.toArray (u0 :: u1 :: u2 :: .pointer (some ⟨DC, 0, none⟩) :: .pointer (some ⟨DE, 0, none⟩) :: .pointer (some ⟨DS, 0, none⟩) :: u6 :: u7 :: u8 :: u9 :: u10 :: u11 :: u12 :: u13 :: u14 :: u15 :: u16 :: u17 :: u18 :: u19 :: u20 :: u21 :: u22 :: .tuple #[.agg (E'.cells vx' vp'), .agg (veV y)] :: .agg (cfV c) :: .agg cs :: .agg sv :: .tuple #[.agg (E'.cells vx' vp'), .agg (veV y)] :: .agg (E'.cells vx' vp') :: u29 :: u30 :: u31 :: u32 :: u33 :: u34 :: u35 :: u36 :: u37 :: u38 :: u39 :: u40 :: u41 :: u42 :: u43 :: u44 :: u45 :: u46 :: u47 :: u48 :: u49 :: u50 :: u51 :: u52 :: u53 :: u54 :: u55 :: u56 :: u57 :: u58 :: u59 :: u60 :: u61 :: u62 :: u63 :: u64 :: u65 :: u66 :: u67 :: u68 :: u69 :: u70 :: u71 :: u72 :: u73 :: u74 :: u75 :: u76 :: u77 :: u78 :: u79 :: u80 :: u81 :: u82 :: u83 :: u84 :: u85 :: u86 :: u87 :: u88 :: u89 :: u90 :: u91 :: u92 :: u93 :: u94 :: u95 :: u96 :: u97 :: u98 :: u99 :: u100 :: u101 :: u102 :: u103 :: u104 :: u105 :: u106 :: u107 :: u108 :: u109 :: u110 :: u111 :: u112 :: u113 :: u114 :: u115 :: u116 :: u117 :: u118 :: u119 :: u120 :: u121 :: u122 :: u123 :: u124 :: u125 :: u126 :: u127 :: [])), []⟩ _
  refine wpList_plain rfl fun _ hK => op_extract rfl rfl rfl (hK _ _ ?_)
  refine wpList_plain rfl fun _ hK => op_alloc_est rfl (hK _ _ ?_)
  refine wpList_plain rfl fun _ hK => op_alVec rfl (hK _ _ ?_)
  rw [show (b.alloc (.cells #[.int .i64 0, .int .i64 0, .int .i64 0, .int .i64 0, .int .i64 0, .int .i64 0, .slice none 0 0, .int .i64 0, .int .i64 0, .slice none 0 0, .int .i64 0, .int .i64 0, .slice none 0 0, .int .i64 0, .int .i64 0, .slice none 0 0, .int .i64 0, .int .i64 0, .slice none 0 0, .int .i64 0, .int .i64 0, .slice none 0 0, .int .i64 0, .int .i64 0, .int .i64 0, .int .i64 0, .int .i64 0, .int .i64 0, .bool false] 35)).heap.size = b.heap.size + 1 from by simp]
  change wpList Tryz.prog _ _ _ ⟨(List.toArray (u0 :: u1 :: u2 :: .pointer (some ⟨DC, 0, none⟩) :: .pointer (some ⟨DE, 0, none⟩) :: .pointer (some ⟨DS, 0, none⟩) :: u6 :: u7 :: .pointer (some ⟨b.heap.size, 0, none⟩) :: .pointer (some ⟨b.heap.size + 1, 0, none⟩) :: u10 :: u11 :: u12 :: u13 :: u14 :: u15 :: u16 :: u17 :: u18 :: u19 :: u20 :: u21 :: u22 :: .tuple #[.agg (E'.cells vx' vp'), .agg (veV y)] :: .agg (cfV c) :: .agg cs :: .agg sv :: .tuple #[.agg (E'.cells vx' vp'), .agg (veV y)] :: .agg (E'.cells vx' vp') :: .agg (veV y) :: u30 :: u31 :: u32 :: u33 :: u34 :: u35 :: u36 :: u37 :: u38 :: u39 :: u40 :: u41 :: u42 :: u43 :: u44 :: u45 :: u46 :: u47 :: u48 :: u49 :: u50 :: u51 :: u52 :: u53 :: u54 :: u55 :: u56 :: u57 :: u58 :: u59 :: u60 :: u61 :: u62 :: u63 :: u64 :: u65 :: u66 :: u67 :: u68 :: u69 :: u70 :: u71 :: u72 :: u73 :: u74 :: u75 :: u76 :: u77 :: u78 :: u79 :: u80 :: u81 :: u82 :: u83 :: u84 :: u85 :: u86 :: u87 :: u88 :: u89 :: u90 :: u91 :: u92 :: u93 :: u94 :: u95 :: u96 :: u97 :: u98 :: u99 :: u100 :: u101 :: u102 :: u103 :: u104 :: u105 :: u106 :: u107 :: u108 :: u109 :: u110 :: u111 :: u112 :: u113 :: u114 :: u115 :: u116 :: u117 :: u118 :: u119 :: u120 :: u121 :: u122 :: u123 :: u124 :: u125 :: u126 :: u127 :: [])), []⟩ _
  have hbl := heap_old (heap_new b (.cells #[.int .i64 0, .int .i64 0, .int .i64 0, .int .i64 0, .int .i64 0, .int .i64 0, .slice none 0 0, .int .i64 0, .int .i64 0, .slice none 0 0, .int .i64 0, .int .i64 0, .slice none 0 0, .int .i64 0, .int .i64 0, .slice none 0 0, .int .i64 0, .int .i64 0, .slice none 0 0, .int .i64 0, .int .i64 0, .slice none 0 0, .int .i64 0, .int .i64 0, .int .i64 0, .int .i64 0, .int .i64 0, .int .i64 0, .bool false] 35)) (.cells #[.int .i64 0, .int .i64 0, .int .i64 0] 37)
  have hb2 := ball2 b (.cells #[.int .i64 0, .int .i64 0, .int .i64 0, .int .i64 0, .int .i64 0, .int .i64 0, .slice none 0 0, .int .i64 0, .int .i64 0, .slice none 0 0, .int .i64 0, .int .i64 0, .slice none 0 0, .int .i64 0, .int .i64 0, .slice none 0 0, .int .i64 0, .int .i64 0, .slice none 0 0, .int .i64 0, .int .i64 0, .slice none 0 0, .int .i64 0, .int .i64 0, .int .i64 0, .int .i64 0, .int .i64 0, .int .i64 0, .bool false] 35) (.cells #[.int .i64 0, .int .i64 0, .int .i64 0] 37)
  have hbv : ((b.alloc (.cells #[.int .i64 0, .int .i64 0, .int .i64 0, .int .i64 0, .int .i64 0, .int .i64 0, .slice none 0 0, .int .i64 0, .int .i64 0, .slice none 0 0, .int .i64 0, .int .i64 0, .slice none 0 0, .int .i64 0, .int .i64 0, .slice none 0 0, .int .i64 0, .int .i64 0, .slice none 0 0, .int .i64 0, .int .i64 0, .slice none 0 0, .int .i64 0, .int .i64 0, .int .i64 0, .int .i64 0, .int .i64 0, .int .i64 0, .bool false] 35)).alloc (.cells #[.int .i64 0, .int .i64 0, .int .i64 0] 37)).heap[b.heap.size + 1]? = some (.cells #[.int .i64 0, .int .i64 0, .int .i64 0] 37 (0, 0)) := by
    have := heap_new (b.alloc (.cells #[.int .i64 0, .int .i64 0, .int .i64 0, .int .i64 0, .int .i64 0, .int .i64 0, .slice none 0 0, .int .i64 0, .int .i64 0, .slice none 0 0, .int .i64 0, .int .i64 0, .slice none 0 0, .int .i64 0, .int .i64 0, .slice none 0 0, .int .i64 0, .int .i64 0, .slice none 0 0, .int .i64 0, .int .i64 0, .slice none 0 0, .int .i64 0, .int .i64 0, .int .i64 0, .int .i64 0, .int .i64 0, .int .i64 0, .bool false] 35)) (.cells #[.int .i64 0, .int .i64 0, .int .i64 0] 37)
    simpa using this
  refine wpList_plain rfl fun _ hK => op_storeRow rfl rfl rfl rfl hbl (by show _ = some 29; kernel_rfl) rfl (cells_one _ _ _ b hs) (hK _ _ ?_)
  have mr := mod_row ((b.alloc (.cells #[.int .i64 0, .int .i64 0, .int .i64 0, .int .i64 0, .int .i64 0, .int .i64 0, .slice none 0 0, .int .i64 0, .int .i64 0, .slice none 0 0, .int .i64 0, .int .i64 0, .slice none 0 0, .int .i64 0, .int .i64 0, .slice none 0 0, .int .i64 0, .int .i64 0, .slice none 0 0, .int .i64 0, .int .i64 0, .slice none 0 0, .int .i64 0, .int .i64 0, .int .i64 0, .int .i64 0, .int .i64 0, .int .i64 0, .bool false] 35)).alloc (.cells #[.int .i64 0, .int .i64 0, .int .i64 0] 37)) b.heap.size (E'.cells vx' vp')
  have hr1 := heap_row hbl (E'.cells vx' vp')
  have hbv' := (mr.block (b.heap.size + 1) (lt_of_block hbv) (by omega)).trans hbv
  refine wpList_plain rfl fun _ hK => op_storeRow rfl rfl rfl rfl hbv' (by kernel_rfl) rfl (by kernel_rfl) (hK _ _ ?_)
  have mr2 := mod_row (((b.alloc (.cells #[.int .i64 0, .int .i64 0, .int .i64 0, .int .i64 0, .int .i64 0, .int .i64 0, .slice none 0 0, .int .i64 0, .int .i64 0, .slice none 0 0, .int .i64 0, .int .i64 0, .slice none 0 0, .int .i64 0, .int .i64 0, .slice none 0 0, .int .i64 0, .int .i64 0, .slice none 0 0, .int .i64 0, .int .i64 0, .slice none 0 0, .int .i64 0, .int .i64 0, .int .i64 0, .int .i64 0, .int .i64 0, .int .i64 0, .bool false] 35)).alloc (.cells #[.int .i64 0, .int .i64 0, .int .i64 0] 37)).setRow b.heap.size (E'.cells vx' vp')) (b.heap.size + 1) (veV y)
  have bu := hb2.trans ((mr.below (B := b.heap.size) (by have := hb2.size; exact this) (fun _ h => Nat.le_of_eq h.symm)).trans (mr2.below (by have := hb2.size; have := mr.size; omega) (fun k h => by have h' : k = b.heap.size + 1 := h; omega)))
  exact hQ vx' vp' b _ b1 bu (hs.below bu) (fun i hi => ⟨fun k hk => ((hn i hi).1 k hk).imp id fun h => ⟨h, (hs i hi).1.lt (hlen i hi).1 k hk⟩, fun k hk => ((hn i hi).2 k hk).imp id fun h => ⟨h, (hs i hi).2.lt (hlen i hi).2 k hk⟩⟩) ((mr2.block _ (lt_of_block hr1) (by omega)).trans hr1) (heap_row hbv' _)
end Go.Proofs.YtoefekkdjcflmaaGreatDoor.Et
namespace Go.Proofs.YtoefekkdjcflmaaGreatDoor
open Go.RowKit Go.Sort Qm
theorem wp_region_vals {P : Program} {id : Nat} {ops : Array Oper} {Q : Exit → Act → World → Prop} {w0 : World} (hm : P.follows .mixedOrders = true) (hlt : ∀ i, i < ops.size → ∀ k ∈ pres ops i, k < i)
    (dst : Nat → Nat) (inj : ∀ i, i < ops.size → ∀ j, j < ops.size → dst i = dst j → i = j) (fr : (Nat → Value) → Act) (T : Nat → Value → World → Prop)
    (hmono : ∀ i v w w', T i v w → Below w.heap.size w w' → T i v w')
    (vs0 : Nat → Value)
    (hstep : ∀ i, i < ops.size → ∀ vs w, Below w0.heap.size w0 w → (∀ k ∈ pres ops i, T k (vs (dst k)) w) →
      wpOp P ops Q i (fun a' w' => ∃ v, a' = fr (fun k => if k = dst i then v else vs k) ∧ T i v w' ∧ Below w.heap.size w w') (fr vs) w)
    (hend : ∀ vs w, Below w0.heap.size w0 w → (∀ i, i < ops.size → T i (vs (dst i)) w) → Q .normal (fr vs) w) : (Code.region id ops true).wp P Q (fr vs0) w0 := by
  refine wp_region_L hm hlt (fun L a w => ∃ vs, a = fr vs ∧ Below w0.heap.size w0 w ∧ ∀ i, i < ops.size → L i = true → T i (vs (dst i)) w) ?_ ?_ ?_
  · exact ⟨vs0, rfl, (Below.refl _ _).drew, fun i _ h => by cases h⟩
  · rintro L a w i hi ⟨vs, rfl, hb, hT⟩ hc hL hp
    refine wpOp_mono ?_ (hstep i hi vs w hb fun k hk => hT k (Nat.lt_trans (hlt i hi k hk) hi) (hp k hk))
    rintro a' w' ⟨v, rfl, hv, hb'⟩
    refine ⟨_, rfl, bt hb hb', fun j hj hjL => ?_⟩
    by_cases e : j = i
    · subst e; simp only [if_true]; exact hv
    · have hd : dst j ≠ dst i := fun h => e (inj j hj i hi h)
      simp only [if_neg hd]
      simp only [if_neg e] at hjL
      exact hmono j _ w w' (hT j hj hjL) hb'
  · rintro L a w ⟨vs, rfl, hb, hT⟩ hall
    exact hend vs w hb fun i hi => hT i hi (hall i hi)
theorem wpOp_guard {P : Program} {ops : Array Oper} {Q : Exit → Act → World → Prop} {i : Nat} {K : Act → World → Prop} {a : Act} {w : World} (o : Oper) (h : ops[i]? = some o) (j : Nat) (b : Bool) (hg : o.guard = some (j, b)) (d : Nat) (hd : (ops[j]?).bind (·.dst) = some d)
    (hv : a.tmps[d]? = some (.bool b)) (hw : o.wp P a w K Q) : wpOp P ops Q i K a w := by
  unfold wpOp
  rw [h]
  have : Region.wanted o (yielded ops a.tmps) = true := by
    simp only [Region.wanted, hg]
    simp [yielded, hd, hv]
  simp only [this, if_true]
  exact .inl hw
section
variable {a : Act} {w : World} {K : Act → World → Prop} {Q : Exit → Act → World → Prop} {o : Oper}
end
end Go.Proofs.YtoefekkdjcflmaaGreatDoor

