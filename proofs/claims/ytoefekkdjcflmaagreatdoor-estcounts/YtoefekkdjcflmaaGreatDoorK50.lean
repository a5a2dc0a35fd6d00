/- Parts of the proof. -/
import Derived.Test.YtoefekkdjcflmaaGreatDoorK49
namespace Go.Proofs.YtoefekkdjcflmaaGreatDoor.Et
open Go.RowKit Go.Sort Go.Proofs.YtoefekkdjcflmaaGreatDoor.Qm
set_option linter.unusedVariables false
def cntLoop : Code := Code.block 0 (((Code.region 13 #[⟨some 73, .move (.tmp 11), 3, "more.go:47", #[], none⟩, ⟨some 74, .binOp .lss 3 (.tmp 73) (.const (.int .i64 4)) 3, 4, "more.go:47", #[eD 0], none⟩] false).seq (Code.cond (Operand.tmp 74) Code.skip (Code.exit 0))).seq ((Code.block 1 ((Code.region 15 #[⟨some 77, .move (.tmp 11), 3, "more.go:48", #[], none⟩, ⟨some 78, .binOp .eql 3 (.tmp 77) (.const (.int .i64 0)) 3, 4, "more.go:48", #[eD 0], none⟩, ⟨some 79, .move (.tmp 78), 4, "more.go:48", #[eD 1], none⟩, ⟨some 80, .fieldAddr 39 (.tmp 5) 3, 0, "more.go:48", #[eG 2], some (2, true)⟩, ⟨some 81, .load 4 (.tmp 80), 4, "more.go:48", #[eD 3, eG 2], some (2, true)⟩, ⟨some 82, .pick (.tmp 79) (.tmp 81) (.const (.bool false)), 4, "more.go:48", #[eD 2, eD 4], none⟩, ⟨some 83, .move (.tmp 82), 4, "more.go:48", #[eD 5, eC 2], none⟩, ⟨some 84, .move (.tmp 11), 3, "more.go:48", #[eG 6], some (6, false)⟩, ⟨some 85, .binOp .gtr 3 (.tmp 84) (.const (.int .i64 0)) 3, 4, "more.go:48", #[eD 7, eG 6], some (6, false)⟩, ⟨some 86, .move (.tmp 85), 4, "more.go:48", #[eD 8, eC 6, eG 6], some (6, false)⟩, ⟨some 87, .fieldAddr 39 (.tmp 5) 5, 0, "more.go:48", #[eG 9], some (9, true)⟩, ⟨some 88, .load 4 (.tmp 87), 4, "more.go:48", #[eD 10, eG 9], some (9, true)⟩, ⟨some 89, .pick (.tmp 86) (.tmp 88) (.const (.bool false)), 4, "more.go:48", #[eD 9, eD 11, eG 6], some (6, false)⟩, ⟨some 90, .pick (.tmp 83) (.const (.bool true)) (.tmp 89), 4, "more.go:48", #[eD 6, eD 12], none⟩, ⟨some 12, .assign (.tmp 90), 4, "more.go:48", #[eD 13, eC 9, eP 0, eP 1, eP 2, eP 3, eP 4, eP 5, eP 6, eP 7, eP 8, eP 9, eP 10, eP 11, eP 12, eP 13], none⟩] false).seq ((Code.region 16 #[⟨some 91, .move (.tmp 12), 4, "more.go:49", #[], none⟩, ⟨some 92, .unOp .not 4 (.tmp 91), 4, "more.go:49", #[eD 0], none⟩, ⟨some 93, .move (.tmp 92), 4, "more.go:49", #[eD 1], none⟩, ⟨some 94, .move (.tmp 11), 3, "more.go:49", #[eG 2], some (2, true)⟩, ⟨some 95, .fieldAddr 35 (.tmp 8) 4, 0, "more.go:49", #[eG 2], some (2, true)⟩, ⟨some 96, .indexAddr 33 (.tmp 95) (.tmp 94), 0, "more.go:49", #[eD 4, eD 3, eG 2], some (2, true)⟩, ⟨some 97, .load 3 (.tmp 96), 3, "more.go:49", #[eD 5, eG 2], some (2, true)⟩, ⟨some 98, .move (.tmp 11), 3, "more.go:49", #[eG 2], some (2, true)⟩, ⟨some 99, .fieldAddr 35 (.tmp 4) 4, 0, "more.go:49", #[eG 2], some (2, true)⟩, ⟨some 100, .indexAddr 33 (.tmp 99) (.tmp 98), 0, "more.go:49", #[eD 8, eD 7, eG 2], some (2, true)⟩, ⟨some 101, .load 3 (.tmp 100), 3, "more.go:49", #[eD 9, eG 2], some (2, true)⟩, ⟨some 102, .binOp .neq 3 (.tmp 97) (.tmp 101) 3, 4, "more.go:49", #[eD 6, eD 10, eG 2], some (2, true)⟩, ⟨some 103, .pick (.tmp 93) (.tmp 102) (.const (.bool false)), 4, "more.go:49", #[eD 2, eD 11], none⟩, ⟨some 104, .move (.tmp 103), 4, "more.go:49", #[eD 12, eC 2], none⟩, ⟨some 105, .move (.tmp 12), 4, "more.go:49", #[eG 13], some (13, false)⟩, ⟨some 106, .move (.tmp 105), 4, "more.go:49", #[eD 14, eC 13, eG 13], some (13, false)⟩, ⟨some 107, .move (.tmp 11), 3, "more.go:49", #[eG 15], some (15, true)⟩, ⟨some 108, .fieldAddr 35 (.tmp 8) 4, 0, "more.go:49", #[eG 15], some (15, true)⟩, ⟨some 109, .indexAddr 33 (.tmp 108) (.tmp 107), 0, "more.go:49", #[eD 17, eD 16, eG 15], some (15, true)⟩, ⟨some 110, .load 3 (.tmp 109), 3, "more.go:49", #[eD 18, eG 15], some (15, true)⟩, ⟨some 111, .binOp .neq 3 (.tmp 110) (.const (.int .i64 0)) 3, 4, "more.go:49", #[eD 19, eG 15], some (15, true)⟩, ⟨some 112, .pick (.tmp 106) (.tmp 111) (.const (.bool false)), 4, "more.go:49", #[eD 15, eD 20, eG 13], some (13, false)⟩, ⟨some 113, .move (.tmp 112), 4, "more.go:49", #[eD 21, eC 15, eG 13], some (13, false)⟩, ⟨some 114, .move (.tmp 11), 3, "more.go:49", #[eG 22], some (22, true)⟩, ⟨some 115, .fieldAddr 35 (.tmp 8) 4, 0, "more.go:49", #[eG 22], some (22, true)⟩, ⟨some 116, .indexAddr 33 (.tmp 115) (.tmp 114), 0, "more.go:49", #[eD 24, eD 23, eG 22], some (22, true)⟩, ⟨some 117, .load 3 (.tmp 116), 3, "more.go:49", #[eD 25, eG 22], some (22, true)⟩, ⟨some 118, .move (.tmp 11), 3, "more.go:49", #[eG 22], some (22, true)⟩, ⟨some 119, .fieldAddr 35 (.tmp 4) 4, 0, "more.go:49", #[eG 22], some (22, true)⟩, ⟨some 120, .indexAddr 33 (.tmp 119) (.tmp 118), 0, "more.go:49", #[eD 28, eD 27, eG 22], some (22, true)⟩, ⟨some 121, .load 3 (.tmp 120), 3, "more.go:49", #[eD 29, eG 22], some (22, true)⟩, ⟨some 122, .binOp .add 3 (.tmp 121) (.const (.int .i64 1)) 3, 3, "more.go:49", #[eD 30, eG 22], some (22, true)⟩, ⟨some 123, .call ⟨.builtin .min, #[.tmp 122, .const (.int .i64 1000)], #[3, 3]⟩, 3, "more.go:49", #[eD 31, eG 22], some (22, true)⟩, ⟨some 124, .binOp .neq 3 (.tmp 117) (.tmp 123) 3, 4, "more.go:49", #[eD 26, eD 32, eG 22], some (22, true)⟩, ⟨some 125, .pick (.tmp 113) (.tmp 124) (.const (.bool false)), 4, "more.go:49", #[eD 22, eD 33, eG 13], some (13, false)⟩, ⟨some 126, .pick (.tmp 104) (.const (.bool true)) (.tmp 125), 4, "more.go:49", #[eD 13, eD 34], none⟩] true).seq (Code.cond (Operand.tmp 126) ((Code.region 17 #[⟨some 6, .assign (.const (.bool false)), 4, "more.go:50", #[], none⟩] false).seq Code.ret) Code.skip)))).seq (Code.region 14 #[⟨some 75, .move (.tmp 11), 3, "more.go:47", #[], none⟩, ⟨some 76, .binOp .add 3 (.tmp 75) (.const (.int .i64 1)) 3, 3, "more.go:47", #[eD 0], none⟩, ⟨some 11, .assign (.tmp 76), 3, "more.go:47", #[eD 1, eP 0, eP 1], none⟩] false))).loop
set_option maxRecDepth 40000 in
set_option maxHeartbeats 16000000 in
theorem cnt_loop {Q : Exit → Act → World → Prop} {w : World} {D DE DS : Nat} {qb qg : Bool} {x y : Nat → Int} {u0 u1 u2 u3 u6 u7 u9 u10 u12 u13 u14 u15 u16 u17 u18 u19 u20 u21 u22 u23 u24 u25 u26 u27 u28 u29 u30 u31 u32 u33 u34 u35 u36 u37 u38 u39 u40 u41 u42 u43 u44 u45 u46 u47 u48 u49 u50 u51 u52 u53 u54 u55 u56 u57 u58 u59 u60 u61 u62 u63 u64 u65 u66 u67 u68 u69 u70 u71 u72 u73 u74 u75 u76 u77 u78 u79 u80 u81 u82 u83 u84 u85 u86 u87 u88 u89 u90 u91 u92 u93 u94 u95 u96 u97 u98 u99 u100 u101 u102 u103 u104 u105 u106 u107 u108 u109 u110 u111 u112 u113 u114 u115 u116 u117 u118 u119 u120 u121 u122 u123 u124 u125 u126 u127 : Value}
    (m7 : w.cell? ⟨DS, 7, none⟩ = some (.bool qb)) (m9 : w.cell? ⟨DS, 9, none⟩ = some (.bool qg))
    (HF : ∀ u, Below w.heap.size w u → ∀ k, k < 4 → ∀ v, Below u.heap.size u v → v.cell? ⟨D, 24 + k, none⟩ = some (.int .i64 (x k)))
    (HE : ∀ u, Below w.heap.size w u → ∀ k, k < 4 → ∀ v, Below u.heap.size u v → v.cell? ⟨DE, 24 + k, none⟩ = some (.int .i64 (y k)))
    (HO : Hid (∀ k, k < 4 → ((if k = 0 then qb else qg) = false → x k = y k) ∧ ((if k = 0 then qb else qg) = true → ∃ b, x k = onE (y k) b)))
    (HB : Hid (∀ k, k < 4 → 0 ≤ y k ∧ y k ≤ 1000))
    (hQ : ∀ s6 s11 s12 s73 s74 s75 s76 s77 s78 s79 s80 s81 s82 s83 s84 s85 s86 s87 s88 s89 s90 s91 s92 s93 s94 s95 s96 s97 s98 s99 s100 s101 s102 s103 s104 s105 s106 s107 s108 s109 s110 s111 s112 s113 s114 s115 s116 s117 s118 s119 s120 s121 s122 s123 s124 s125 s126 b, Below w.heap.size w b → Q .normal ⟨(List.toArray (u0 :: u1 :: u2 :: u3 :: .pointer (some ⟨DE, 0, none⟩) :: .pointer (some ⟨DS, 0, none⟩) :: s6 :: u7 :: .pointer (some ⟨D, 0, none⟩) :: u9 :: u10 :: s11 :: s12 :: u13 :: u14 :: u15 :: u16 :: u17 :: u18 :: u19 :: u20 :: u21 :: u22 :: u23 :: u24 :: u25 :: u26 :: u27 :: u28 :: u29 :: u30 :: u31 :: u32 :: u33 :: u34 :: u35 :: u36 :: u37 :: u38 :: u39 :: u40 :: u41 :: u42 :: u43 :: u44 :: u45 :: u46 :: u47 :: u48 :: u49 :: u50 :: u51 :: u52 :: u53 :: u54 :: u55 :: u56 :: u57 :: u58 :: u59 :: u60 :: u61 :: u62 :: u63 :: u64 :: u65 :: u66 :: u67 :: u68 :: u69 :: u70 :: u71 :: u72 :: s73 :: s74 :: s75 :: s76 :: s77 :: s78 :: s79 :: s80 :: s81 :: s82 :: s83 :: s84 :: s85 :: s86 :: s87 :: s88 :: s89 :: s90 :: s91 :: s92 :: s93 :: s94 :: s95 :: s96 :: s97 :: s98 :: s99 :: s100 :: s101 :: s102 :: s103 :: s104 :: s105 :: s106 :: s107 :: s108 :: s109 :: s110 :: s111 :: s112 :: s113 :: s114 :: s115 :: s116 :: s117 :: s118 :: s119 :: s120 :: s121 :: s122 :: s123 :: s124 :: s125 :: s126 :: u127 :: [])), []⟩ b) : cntLoop.wp Tryz.prog Q ⟨(List.toArray (u0 :: u1 :: u2 :: u3 :: .pointer (some ⟨DE, 0, none⟩) :: .pointer (some ⟨DS, 0, none⟩) :: u6 :: u7 :: .pointer (some ⟨D, 0, none⟩) :: u9 :: u10 :: .int .i64 0 :: u12 :: u13 :: u14 :: u15 :: u16 :: u17 :: u18 :: u19 :: u20 :: u21 :: u22 :: u23 :: u24 :: u25 :: u26 :: u27 :: u28 :: u29 :: u30 :: u31 :: u32 :: u33 :: u34 :: u35 :: u36 :: u37 :: u38 :: u39 :: u40 :: u41 :: u42 :: u43 :: u44 :: u45 :: u46 :: u47 :: u48 :: u49 :: u50 :: u51 :: u52 :: u53 :: u54 :: u55 :: u56 :: u57 :: u58 :: u59 :: u60 :: u61 :: u62 :: u63 :: u64 :: u65 :: u66 :: u67 :: u68 :: u69 :: u70 :: u71 :: u72 :: u73 :: u74 :: u75 :: u76 :: u77 :: u78 :: u79 :: u80 :: u81 :: u82 :: u83 :: u84 :: u85 :: u86 :: u87 :: u88 :: u89 :: u90 :: u91 :: u92 :: u93 :: u94 :: u95 :: u96 :: u97 :: u98 :: u99 :: u100 :: u101 :: u102 :: u103 :: u104 :: u105 :: u106 :: u107 :: u108 :: u109 :: u110 :: u111 :: u112 :: u113 :: u114 :: u115 :: u116 :: u117 :: u118 :: u119 :: u120 :: u121 :: u122 :: u123 :: u124 :: u125 :: u126 :: u127 :: [])), []⟩ w := by
  unfold cntLoop
  go_wp2
  go_loopw [11] (fun i wr => ∃ k : Nat, k ≤ 4 ∧ i = .int .i64 k ∧ Below w.heap.size w wr) (fun i _ => 4 - (intOf i).toNat)
  case atStart => exact ⟨0, Nat.zero_le _, rfl, Below.refl _ _⟩
  case round =>
    obtain ⟨k, hk, rfl, hb⟩ := hrel
    by_cases hk4 : k < 4
    · rcases (by omega : k = 0 ∨ k = 1 ∨ k = 2 ∨ k = 3) with rfl | rfl | rfl | rfl
      · have m7' := (hb.cell (p := ⟨DS, 7, none⟩) (block_lt_of_cell m7)).trans m7
        have m9' := (hb.cell (p := ⟨DS, 9, none⟩) (block_lt_of_cell m9)).trans m9
        have hok := HO.out 0 (by decide)
        rw [if_pos rfl] at hok
        cases h9 : qb with
        | false =>
          rw [h9] at m7' hok
          have hxy := hok.1 rfl
          have HF1 : Hid (∀ v, Below wr.heap.size wr v → v.cell? ⟨D, 24 + 0, none⟩ = some (.int .i64 (y 0))) := fun v hv => by rw [← hxy]; exact HF _ hb 0 (by decide) v hv
          have HE1 : Hid (∀ v, Below wr.heap.size wr v → v.cell? ⟨DE, 24 + 0, none⟩ = some (.int .i64 (y 0))) := HE _ hb 0 (by decide)
          clear hok hxy h9
          go_upto_region 16 with fail
          refine cvA_region (D := D) (DE := DE) (k := 0) (x := y 0) (y := 0) (by decide) HF1.out HE1.out ?_
          intro vs w5 b5 h126
          unfold cvAFr
          rw [h126]
          clear h126
          have BR := bt hb b5
          go_wp2
          go_roundw
          case rel => exact ⟨0 + 1, by omega, by go_num, BR⟩
          case measure => simp [intOf]
        | true =>
          rw [h9] at m7' hok
          obtain ⟨t, ht⟩ := hok.2 rfl
          have HT : Hid (x 0 = onE (y 0) t) := ht
          have HF1 : Hid (∀ v, Below wr.heap.size wr v → v.cell? ⟨D, 24 + 0, none⟩ = some (.int .i64 (x 0))) := HF _ hb 0 (by decide)
          have HE1 : Hid (∀ v, Below wr.heap.size wr v → v.cell? ⟨DE, 24 + 0, none⟩ = some (.int .i64 (y 0))) := HE _ hb 0 (by decide)
          clear hok ht h9
          go_upto_region 16 with fail
          by_cases hx0 : x 0 = 0
          · rw [hx0] at HF1
            clear hx0
            refine cvB_region (D := D) (DE := DE) (k := 0) (x := 0) (y := y 0) (by decide) HF1.out HE1.out ?_
            intro vs w5 b5 h126
            unfold cvBFr
            rw [h126]
            clear h126
            have BR := bt hb b5
            go_wp2
            go_roundw
            case rel => exact ⟨0 + 1, by omega, by go_num, BR⟩
            case measure => simp [intOf]
          · refine cvC_region (D := D) (DE := DE) (k := 0) (x := x 0) (y := y 0) (by decide) HF1.out HE1.out hx0 (HB.out 0 (by decide)).1 (HB.out 0 (by decide)).2 (by
              have h1 := HT.out
              unfold onE at h1
              cases t with
              | false => exact absurd h1 hx0
              | true => exact h1.symm) ?_
            intro vs w5 b5 h126
            unfold cvCFr
            rw [h126]
            clear h126 hx0
            have BR := bt hb b5
            go_wp2
            go_roundw
            case rel => exact ⟨0 + 1, by omega, by go_num, BR⟩
            case measure => simp [intOf]
      · have m7' := (hb.cell (p := ⟨DS, 7, none⟩) (block_lt_of_cell m7)).trans m7
        have m9' := (hb.cell (p := ⟨DS, 9, none⟩) (block_lt_of_cell m9)).trans m9
        have hok := HO.out 1 (by decide)
        rw [if_neg (by decide)] at hok
        cases h9 : qg with
        | false =>
          rw [h9] at m9' hok
          have hxy := hok.1 rfl
          have HF1 : Hid (∀ v, Below wr.heap.size wr v → v.cell? ⟨D, 24 + 1, none⟩ = some (.int .i64 (y 1))) := fun v hv => by rw [← hxy]; exact HF _ hb 1 (by decide) v hv
          have HE1 : Hid (∀ v, Below wr.heap.size wr v → v.cell? ⟨DE, 24 + 1, none⟩ = some (.int .i64 (y 1))) := HE _ hb 1 (by decide)
          clear hok hxy h9
          go_upto_region 16 with fail
          refine cvA_region (D := D) (DE := DE) (k := 1) (x := y 1) (y := 0) (by decide) HF1.out HE1.out ?_
          intro vs w5 b5 h126
          unfold cvAFr
          rw [h126]
          clear h126
          have BR := bt hb b5
          go_wp2
          go_roundw
          case rel => exact ⟨1 + 1, by omega, by go_num, BR⟩
          case measure => simp [intOf]
        | true =>
          rw [h9] at m9' hok
          obtain ⟨t, ht⟩ := hok.2 rfl
          have HT : Hid (x 1 = onE (y 1) t) := ht
          have HF1 : Hid (∀ v, Below wr.heap.size wr v → v.cell? ⟨D, 24 + 1, none⟩ = some (.int .i64 (x 1))) := HF _ hb 1 (by decide)
          have HE1 : Hid (∀ v, Below wr.heap.size wr v → v.cell? ⟨DE, 24 + 1, none⟩ = some (.int .i64 (y 1))) := HE _ hb 1 (by decide)
          clear hok ht h9
          go_upto_region 16 with fail
          by_cases hx0 : x 1 = 0
          · rw [hx0] at HF1
            clear hx0
            refine cvB_region (D := D) (DE := DE) (k := 1) (x := 0) (y := y 1) (by decide) HF1.out HE1.out ?_
            intro vs w5 b5 h126
            unfold cvBFr
            rw [h126]
            clear h126
            have BR := bt hb b5
            go_wp2
            go_roundw
            case rel => exact ⟨1 + 1, by omega, by go_num, BR⟩
            case measure => simp [intOf]
          · refine cvC_region (D := D) (DE := DE) (k := 1) (x := x 1) (y := y 1) (by decide) HF1.out HE1.out hx0 (HB.out 1 (by decide)).1 (HB.out 1 (by decide)).2 (by
              have h1 := HT.out
              unfold onE at h1
              cases t with
              | false => exact absurd h1 hx0
              | true => exact h1.symm) ?_
            intro vs w5 b5 h126
            unfold cvCFr
            rw [h126]
            clear h126 hx0
            have BR := bt hb b5
            go_wp2
            go_roundw
            case rel => exact ⟨1 + 1, by omega, by go_num, BR⟩
            case measure => simp [intOf]
      · have m7' := (hb.cell (p := ⟨DS, 7, none⟩) (block_lt_of_cell m7)).trans m7
        have m9' := (hb.cell (p := ⟨DS, 9, none⟩) (block_lt_of_cell m9)).trans m9
        have hok := HO.out 2 (by decide)
        rw [if_neg (by decide)] at hok
        cases h9 : qg with
        | false =>
          rw [h9] at m9' hok
          have hxy := hok.1 rfl
          have HF1 : Hid (∀ v, Below wr.heap.size wr v → v.cell? ⟨D, 24 + 2, none⟩ = some (.int .i64 (y 2))) := fun v hv => by rw [← hxy]; exact HF _ hb 2 (by decide) v hv
          have HE1 : Hid (∀ v, Below wr.heap.size wr v → v.cell? ⟨DE, 24 + 2, none⟩ = some (.int .i64 (y 2))) := HE _ hb 2 (by decide)
          clear hok hxy h9
          go_upto_region 16 with fail
          refine cvA_region (D := D) (DE := DE) (k := 2) (x := y 2) (y := 0) (by decide) HF1.out HE1.out ?_
          intro vs w5 b5 h126
          unfold cvAFr
          rw [h126]
          clear h126
          have BR := bt hb b5
          go_wp2
          go_roundw
          case rel => exact ⟨2 + 1, by omega, by go_num, BR⟩
          case measure => simp [intOf]
        | true =>
          rw [h9] at m9' hok
          obtain ⟨t, ht⟩ := hok.2 rfl
          have HT : Hid (x 2 = onE (y 2) t) := ht
          have HF1 : Hid (∀ v, Below wr.heap.size wr v → v.cell? ⟨D, 24 + 2, none⟩ = some (.int .i64 (x 2))) := HF _ hb 2 (by decide)
          have HE1 : Hid (∀ v, Below wr.heap.size wr v → v.cell? ⟨DE, 24 + 2, none⟩ = some (.int .i64 (y 2))) := HE _ hb 2 (by decide)
          clear hok ht h9
          go_upto_region 16 with fail
          by_cases hx0 : x 2 = 0
          · rw [hx0] at HF1
            clear hx0
            refine cvB_region (D := D) (DE := DE) (k := 2) (x := 0) (y := y 2) (by decide) HF1.out HE1.out ?_
            intro vs w5 b5 h126
            unfold cvBFr
            rw [h126]
            clear h126
            have BR := bt hb b5
            go_wp2
            go_roundw
            case rel => exact ⟨2 + 1, by omega, by go_num, BR⟩
            case measure => simp [intOf]
          · refine cvC_region (D := D) (DE := DE) (k := 2) (x := x 2) (y := y 2) (by decide) HF1.out HE1.out hx0 (HB.out 2 (by decide)).1 (HB.out 2 (by decide)).2 (by
              have h1 := HT.out
              unfold onE at h1
              cases t with
              | false => exact absurd h1 hx0
              | true => exact h1.symm) ?_
            intro vs w5 b5 h126
            unfold cvCFr
            rw [h126]
            clear h126 hx0
            have BR := bt hb b5
            go_wp2
            go_roundw
            case rel => exact ⟨2 + 1, by omega, by go_num, BR⟩
            case measure => simp [intOf]
      · have m7' := (hb.cell (p := ⟨DS, 7, none⟩) (block_lt_of_cell m7)).trans m7
        have m9' := (hb.cell (p := ⟨DS, 9, none⟩) (block_lt_of_cell m9)).trans m9
        have hok := HO.out 3 (by decide)
        rw [if_neg (by decide)] at hok
        cases h9 : qg with
        | false =>
          rw [h9] at m9' hok
          have hxy := hok.1 rfl
          have HF1 : Hid (∀ v, Below wr.heap.size wr v → v.cell? ⟨D, 24 + 3, none⟩ = some (.int .i64 (y 3))) := fun v hv => by rw [← hxy]; exact HF _ hb 3 (by decide) v hv
          have HE1 : Hid (∀ v, Below wr.heap.size wr v → v.cell? ⟨DE, 24 + 3, none⟩ = some (.int .i64 (y 3))) := HE _ hb 3 (by decide)
          clear hok hxy h9
          go_upto_region 16 with fail
          refine cvA_region (D := D) (DE := DE) (k := 3) (x := y 3) (y := 0) (by decide) HF1.out HE1.out ?_
          intro vs w5 b5 h126
          unfold cvAFr
          rw [h126]
          clear h126
          have BR := bt hb b5
          go_wp2
          go_roundw
          case rel => exact ⟨3 + 1, by omega, by go_num, BR⟩
          case measure => simp [intOf]
        | true =>
          rw [h9] at m9' hok
          obtain ⟨t, ht⟩ := hok.2 rfl
          have HT : Hid (x 3 = onE (y 3) t) := ht
          have HF1 : Hid (∀ v, Below wr.heap.size wr v → v.cell? ⟨D, 24 + 3, none⟩ = some (.int .i64 (x 3))) := HF _ hb 3 (by decide)
          have HE1 : Hid (∀ v, Below wr.heap.size wr v → v.cell? ⟨DE, 24 + 3, none⟩ = some (.int .i64 (y 3))) := HE _ hb 3 (by decide)
          clear hok ht h9
          go_upto_region 16 with fail
          by_cases hx0 : x 3 = 0
          · rw [hx0] at HF1
            clear hx0
            refine cvB_region (D := D) (DE := DE) (k := 3) (x := 0) (y := y 3) (by decide) HF1.out HE1.out ?_
            intro vs w5 b5 h126
            unfold cvBFr
            rw [h126]
            clear h126
            have BR := bt hb b5
            go_wp2
            go_roundw
            case rel => exact ⟨3 + 1, by omega, by go_num, BR⟩
            case measure => simp [intOf]
          · refine cvC_region (D := D) (DE := DE) (k := 3) (x := x 3) (y := y 3) (by decide) HF1.out HE1.out hx0 (HB.out 3 (by decide)).1 (HB.out 3 (by decide)).2 (by
              have h1 := HT.out
              unfold onE at h1
              cases t with
              | false => exact absurd h1 hx0
              | true => exact h1.symm) ?_
            intro vs w5 b5 h126
            unfold cvCFr
            rw [h126]
            clear h126 hx0
            have BR := bt hb b5
            go_wp2
            go_roundw
            case rel => exact ⟨3 + 1, by omega, by go_num, BR⟩
            case measure => simp [intOf]
    · have ek : k = 4 := by omega
      subst ek
      go_wp2
      exact hb
theorem stp_st (c : Nat → Int) (e : Es) (q : Sm) : (stp c e q).st = if e.st + 1 ≤ 1099511627776 then e.st + 1 else 1099511627776 := by
  show (if (holS (preS (turS (begS 0 c e q)))).st + 1 ≤ 1099511627776 then (holS (preS (turS (begS 0 c e q)))).st + 1 else 1099511627776) = _
  have h1 : (holS (preS (turS (begS 0 c e q)))).st = e.st := (hol_same _).2.1.trans (tur_same (begS 0 c e q)).2.2.2.1
  rw [h1]
theorem stp_co (c : Nat → Int) (e : Es) (q : Sm) : (stp c e q).co = onE e.co q.ms := by
  show onE (holS (preS (turS (begS 0 c e q)))).co (holS (preS (turS (begS 0 c e q)))).ms = _
  have h1 : (holS (preS (turS (begS 0 c e q)))).co = e.co := (hol_same _).1.trans (tur_same (begS 0 c e q)).2.2.1
  have h2 : (holS (preS (turS (begS 0 c e q)))).ms = q.ms := (hol_same _).2.2.trans (tur_same (begS 0 c e q)).2.2.2.2
  rw [h1, h2]
theorem tur_more (s : Sg) : (turS s).hb = s.hb ∧ (turS s).hg = s.hg ∧ (turS s).gn = s.gn ∧ (turS s).br = s.br ∧ (turS s).X = s.X ∧ (turS s).P = s.P := by
  unfold turS
  split <;> exact ⟨rfl, rfl, rfl, rfl, rfl, rfl⟩
def Len3 (s : Sg) : Prop := ∀ i, i < 3 → (s.X i).length = 3 ∧ (s.P i).length = 9
theorem pre_len (s : Sg) : Len3 (preS s) := fun i hi => by
  show (if i < 3 then aX (nsS s) i else s.X i).length = 3 ∧ (if i < 3 then aP (nsS s) i else s.P i).length = 9
  rw [if_pos hi, if_pos hi]
  exact ⟨aX_len _ _, aP_len _ _⟩
theorem upd_len {s : Sg} (h : Len3 s) (j k : Nat) (z r : Int) (hj : j < 3) : Len3 (updS s j k z r) := fun i hi => by
  show (at' s.X j (uX (s.X j) (s.P j) z r (s.c 5)) i).length = 3 ∧ (at' s.P j (uP (s.X j) (s.P j) z r (s.c 5)) i).length = 9
  unfold at'
  by_cases e : i = j
  · rw [if_pos e, if_pos e]
    exact ⟨uX_len (ps := s.P j) (h j hj).1 z r (s.c 5), uP_len (xs := s.X j) (h j hj).2 z r (s.c 5)⟩
  · rw [if_neg e, if_neg e]
    exact h i hi
theorem gn_len {s : Sg} (h : Len3 s) (n : Nat) (hn : n ≤ 3) : Len3 (gnS s n) := by
  induction n with
  | zero => exact h
  | succ n ih => rw [gnS_succ]; exact upd_len (ih (by omega)) n (1 + n) _ _ (by omega)
theorem ba_len {s : Sg} (h : Len3 s) : Len3 (baS s) := by
  unfold baS
  split
  · exact upd_len h 2 0 _ _ (by decide)
  · exact h
theorem hol_len {s : Sg} (h : Len3 s) : Len3 (holS s) := by
  unfold holS
  split
  · exact h
  · split
    · exact gn_len (ba_len h) 3 (Nat.le_refl _)
    · exact ba_len h
theorem stp_len (c : Nat → Int) (e : Es) (q : Sm) (i : Nat) (hi : i < 3) : ((stp c e q).X i).length = 3 ∧ ((stp c e q).P i).length = 9 := hol_len (pre_len (turS (begS 0 c e q))) i hi
theorem stp_pos (c : Nat → Int) (e : Es) (q : Sm) : ∀ i, i < 3 → 0 < ((stp c e q).X i).length ∧ 0 < ((stp c e q).P i).length := fun i hi => by
  have := stp_len c e q i hi
  omega
theorem upd_off_ne (s : Sg) (i k j : Nat) (z r : Int) (h : j ≠ k) : (updS s i k z r).off j = s.off j := by
  show at' s.off k (onE (s.off k) (!uT (s.X i) (s.P i) z r (s.c 5))) j = _
  unfold at'
  rw [if_neg h]
theorem upd_off_eq (s : Sg) (i k : Nat) (z r : Int) : ∃ b, (updS s i k z r).off k = onE (s.off k) b := ⟨!uT (s.X i) (s.P i) z r (s.c 5), by
  show at' s.off k (onE (s.off k) (!uT (s.X i) (s.P i) z r (s.c 5))) k = _
  unfold at'
  rw [if_pos rfl]⟩
theorem gn_off_lt (s : Sg) (n k : Nat) (h : k = 0 ∨ n < k) : (gnS s n).off k = s.off k := by
  induction n with
  | zero => rfl
  | succ n ih => rw [gnS_succ, upd_off_ne _ _ _ _ _ _ (by omega)]; exact ih (by omega)
theorem gn_off_eq (s : Sg) (n k : Nat) (h0 : 0 < k) (h : k ≤ n) : ∃ b, (gnS s n).off k = onE (s.off k) b := by
  induction n with
  | zero => omega
  | succ n ih =>
    rw [gnS_succ]
    by_cases e : k = 1 + n
    · subst e
      obtain ⟨b, hb⟩ := upd_off_eq (gnS s n) n (1 + n) (s.gn n) (s.c 4)
      exact ⟨b, by rw [hb, gn_off_lt s n (1 + n) (by omega)]⟩
    · rw [upd_off_ne _ _ _ _ _ _ e]
      exact ih (by omega)
theorem ba_off_ne (s : Sg) (k : Nat) (h : k ≠ 0) : (baS s).off k = s.off k := by
  unfold baS
  split
  · exact upd_off_ne _ _ _ _ _ _ h
  · rfl
theorem stp_off (c : Nat → Int) (e : Es) (q : Sm) (k : Nat) (hk : k < 4) :
    (q.ms = true → (stp c e q).off k = e.off k) ∧ (q.ms = false → (if k = 0 then q.hb else q.hg) = false → (stp c e q).off k = e.off k) ∧
    (q.ms = false → (if k = 0 then q.hb else q.hg) = true → ∃ b, (stp c e q).off k = onE (e.off k) b) := by
  have h0 : (preS (turS (begS 0 c e q))).off = e.off := (tur_same (begS 0 c e q)).2.1
  have h1 : (preS (turS (begS 0 c e q))).ms = q.ms := (tur_same (begS 0 c e q)).2.2.2.2
  have h2 : (preS (turS (begS 0 c e q))).hb = q.hb := (tur_more (begS 0 c e q)).1
  have h3 : (preS (turS (begS 0 c e q))).hg = q.hg := (tur_more (begS 0 c e q)).2.1
  have hE : (stp c e q).off k = (holS (preS (turS (begS 0 c e q)))).off k := rfl
  rw [hE]
  generalize preS (turS (begS 0 c e q)) = s at h0 h1 h2 h3 ⊢
  have hb3 : (baS s).hg = q.hg := by unfold baS; split <;> exact h3
  refine ⟨fun hm => ?_, fun hm hh => ?_, fun hm hh => ?_⟩
  · unfold holS
    rw [if_pos (h1.trans hm), h0]
  · unfold holS
    rw [if_neg (by rw [h1, hm]; decide), hb3]
    by_cases e0 : k = 0
    · subst e0
      rw [if_pos rfl] at hh
      have hba : baS s = s := by unfold baS; rw [if_neg (by rw [h2, hh]; decide)]
      rw [hba]
      split
      · rw [gn_off_lt _ _ _ (.inl rfl), h0]
      · rw [h0]
    · rw [if_neg e0] at hh
      rw [if_neg (by rw [hh]; decide), ba_off_ne s k e0, h0]
  · unfold holS
    rw [if_neg (by rw [h1, hm]; decide), hb3]
    by_cases e0 : k = 0
    · subst e0
      rw [if_pos rfl] at hh
      have hbo : ∃ b, (baS s).off 0 = onE (e.off 0) b := by
        unfold baS
        rw [if_pos (by rw [h2, hh]), ← h0]
        exact upd_off_eq s 2 0 s.br (s.c 3)
      obtain ⟨b, hb⟩ := hbo
      refine ⟨b, ?_⟩
      split
      · rw [gn_off_lt _ _ _ (.inl rfl), hb]
      · exact hb
    · rw [if_neg e0] at hh
      rw [if_pos hh]
      obtain ⟨b, hb⟩ := gn_off_eq (baS s) 3 k (by omega) (by omega)
      exact ⟨b, by rw [hb, ba_off_ne s k e0, h0]⟩
end Go.Proofs.YtoefekkdjcflmaaGreatDoor.Et

