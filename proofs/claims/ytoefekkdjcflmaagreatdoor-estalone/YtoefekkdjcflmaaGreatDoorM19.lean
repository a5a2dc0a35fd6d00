/- Parts of the proof. -/
import Derived.Test.YtoefekkdjcflmaaGreatDoorM05
import Derived.Test.YtoefekkdjcflmaaGreatDoorM18
namespace Go.Proofs.YtoefekkdjcflmaaGreatDoor.Et
open Go.RowKit Go.Sort Go.Proofs.YtoefekkdjcflmaaGreatDoor.Qm
set_option linter.unusedVariables false
theorem enters_qturn : ∀ (args : Array Value) (a : World), Sem.run Tryz.prog (callFunc 64 args) a = Result.ok (Next.enter 64 args) a := by
  intro args a; simp [callFunc, Tryz.func64, go_sem]; rfl
def tu7Ops : Array Oper := #[
 ⟨some 53, .move (.tmp 0), 96, "est.go:124", #[], none⟩,
 ⟨some 54, .move (.tmp 0), 96, "est.go:124", #[], none⟩,
 ⟨some 55, .nilCheck (.tmp 54), 0, "est.go:124", #[eD 1], none⟩,
 ⟨some 56, .fieldAddr 66 (.tmp 55) 2, 0, "est.go:124", #[eD 2], none⟩,
 ⟨some 57, .fieldAddr 35 (.tmp 56) 0, 0, "est.go:124", #[eD 3], none⟩,
 ⟨some 58, .load 26 (.tmp 57), 26, "est.go:124", #[eD 4], none⟩,
 ⟨some 59, .move (.tmp 0), 96, "est.go:124", #[], none⟩,
 ⟨some 60, .nilCheck (.tmp 59), 0, "est.go:124", #[eD 6], none⟩,
 ⟨some 61, .fieldAddr 66 (.tmp 60) 1, 0, "est.go:124", #[eD 7], none⟩,
 ⟨some 62, .fieldAddr 39 (.tmp 61) 2, 0, "est.go:124", #[eD 8], none⟩,
 ⟨some 63, .load 37 (.tmp 62), 37, "est.go:124", #[eD 9], none⟩,
 ⟨some 64, .call ⟨.value (.func 64), #[.tmp 58, .tmp 63], #[26, 37]⟩, 102, "est.go:124", #[eD 5, eD 10], none⟩,
 ⟨some 52, .move (.tmp 64), 102, "est.go:124", #[eD 11], none⟩,
 ⟨some 65, .extract (.tmp 52) 0, 37, "est.go:124", #[eD 12], none⟩,
 ⟨some 66, .extract (.tmp 52) 1, 4, "est.go:124", #[eD 12, ⟨17, .gcOnly .lateStores⟩], none⟩,
 ⟨some 67, .nilCheck (.tmp 53), 0, "est.go:124", #[eD 0, eP 0, eP 1, eP 2, eP 3, eP 4, eP 5, eP 6, eP 7, eP 8, eP 9, eP 10, eP 11, eP 12, eP 13, ⟨14, .textOnly .lateStores⟩], none⟩,
 ⟨some 68, .fieldAddr 66 (.tmp 67) 3, 0, "est.go:124", #[eD 15, eP 0, eP 1, eP 2, eP 3, eP 4, eP 5, eP 6, eP 7, eP 8, eP 9, eP 10, eP 11, eP 12, eP 13, ⟨14, .textOnly .lateStores⟩], none⟩,
 ⟨none, .store 37 (.tmp 68) (.tmp 65), 0, "est.go:124", #[eD 16, eD 13, eC 11, eP 0, eP 1, eP 2, eP 3, eP 4, eP 5, eP 6, eP 7, eP 8, eP 9, eP 10, eP 11, eP 12, eP 13, ⟨14, .textOnly .lateStores⟩], none⟩,
 ⟨some 3, .assign (.tmp 66), 4, "est.go:124", #[eD 14, eC 17, eP 0, eP 1, eP 2, eP 3, eP 4, eP 5, eP 6, eP 7, eP 8, eP 9, eP 10, eP 11, eP 12, eP 13, eP 14, eP 15, eP 16, eP 17], none⟩]
def tu7Dst (i : Nat) : Nat := [53, 54, 55, 56, 57, 58, 59, 60, 61, 62, 63, 64, 52, 65, 66, 67, 68, 1017, 3].getD i 0
def tu7Fr (W : Nat) (u1 u2 u4 u5 u6 u7 u8 u9 u10 u11 u12 u13 u14 u15 u16 u17 u18 u19 u20 u21 u22 u23 u24 u25 u26 u27 u28 u29 u30 u31 u32 u33 u34 u35 u36 u37 u38 u39 u40 u41 u42 u43 u44 u45 u46 u47 u48 u49 u50 u51 u69 u70 u71 : Value) (vs : Nat → Value) : Act := ⟨#[.pointer (some ⟨W, 0, none⟩), u1, u2, vs 3, u4, u5, u6, u7, u8, u9, u10, u11, u12, u13, u14, u15, u16, u17, u18, u19, u20, u21, u22, u23, u24, u25, u26, u27, u28, u29, u30, u31, u32, u33, u34, u35, u36, u37, u38, u39, u40, u41, u42, u43, u44, u45, u46, u47, u48, u49, u50, u51, vs 52, vs 53, vs 54, vs 55, vs 56, vs 57, vs 58, vs 59, vs 60, vs 61, vs 62, vs 63, vs 64, vs 65, vs 66, vs 67, vs 68, u69, u70, u71], []⟩
def tu7T (W : Nat) (q0 : Int) (q1 : Int) (q2 : Int) (q3 : Int) (v0 : Int) (v1 : Int) (v2 : Int) (z0 : Int) (z1 : Int) (z2 : Int) (m : Bool) : Nat → Value → Value → (Nat → Prop) → World → Prop
  | 0, v, _, _, _ => v = .pointer (some ⟨W, 0, none⟩)
  | 1, v, _, _, _ => v = .pointer (some ⟨W, 0, none⟩)
  | 2, v, _, _, _ => v = .pointer (some ⟨W, 0, none⟩)
  | 3, v, _, _, _ => v = .pointer (some ⟨W, 19, none⟩)
  | 4, v, _, _, _ => v = .pointer (some ⟨W, 19, none⟩)
  | 5, v, _, _, _ => v = .agg #[.int .i64 (q0), .int .i64 (q1), .int .i64 (q2), .int .i64 (q3)]
  | 6, v, _, _, _ => v = .pointer (some ⟨W, 0, none⟩)
  | 7, v, _, _, _ => v = .pointer (some ⟨W, 0, none⟩)
  | 8, v, _, _, _ => v = .pointer (some ⟨W, 6, none⟩)
  | 9, v, _, _, _ => v = .pointer (some ⟨W, 10, none⟩)
  | 10, v, _, _, _ => v = .agg #[.int .i64 (v0), .int .i64 (v1), .int .i64 (v2)]
  | 11, v, _, _, _ => v = .tuple #[.agg #[.int .i64 (z0), .int .i64 (z1), .int .i64 (z2)], .bool m]
  | 12, v, _, _, _ => v = .tuple #[.agg #[.int .i64 (z0), .int .i64 (z1), .int .i64 (z2)], .bool m]
  | 13, v, _, _, _ => v = .agg #[.int .i64 (z0), .int .i64 (z1), .int .i64 (z2)]
  | 14, v, _, _, _ => v = .bool m
  | 15, v, _, _, _ => v = .pointer (some ⟨W, 0, none⟩)
  | 16, v, _, _, _ => v = .pointer (some ⟨W, 48, none⟩)
  | 17, _, _, _, _ => True
  | 18, v, _, _, _ => v = .bool m
  | _, _, _, _, _ => True
set_option maxRecDepth 40000 in
set_option maxHeartbeats 1600000 in
theorem tu7_region {Q : Exit → Act → World → Prop} {w0 : World} {W : Nat} {q0 : Int} {q1 : Int} {q2 : Int} {q3 : Int} {v0 : Int} {v1 : Int} {v2 : Int} {z0 : Int} {z1 : Int} {z2 : Int} {m : Bool} {J : Bool → World → Prop} {u1 u2 u4 u5 u6 u7 u8 u9 u10 u11 u12 u13 u14 u15 u16 u17 u18 u19 u20 u21 u22 u23 u24 u25 u26 u27 u28 u29 u30 u31 u32 u33 u34 u35 u36 u37 u38 u39 u40 u41 u42 u43 u44 u45 u46 u47 u48 u49 u50 u51 u69 u70 u71 u3 : Value}
    (hsh : ∀ k, k = W → k < w0.heap.size) (hJ0 : J false w0.drew) (hJs : ∀ b w w', J b w → Mod (fun q => w0.heap.size ≤ q) w w' → J b w')
    (l0 : ∀ b w, J b w → w.cell? ⟨W, 19, none⟩ = some (.int .i64 q0)) (l1 : ∀ b w, J b w → w.cell? ⟨W, 19 + 1, none⟩ = some (.int .i64 q1)) (l2 : ∀ b w, J b w → w.cell? ⟨W, 19 + 2, none⟩ = some (.int .i64 q2)) (l3 : ∀ b w, J b w → w.cell? ⟨W, 19 + 3, none⟩ = some (.int .i64 q3)) (n0 : ∀ b w, J b w → w.cell? ⟨W, 10, none⟩ = some (.int .i64 v0)) (n1 : ∀ b w, J b w → w.cell? ⟨W, 10 + 1, none⟩ = some (.int .i64 v1)) (n2 : ∀ b w, J b w → w.cell? ⟨W, 10 + 2, none⟩ = some (.int .i64 v2))
    (hc : ∀ w, Mod (fun k => k = W) w0 w → Calls Tryz.prog 64 #[.agg #[.int .i64 (q0), .int .i64 (q1), .int .i64 (q2), .int .i64 (q3)], .agg #[.int .i64 (v0), .int .i64 (v1), .int .i64 (v2)]] w fun e b => e = .returned (.tuple #[.agg #[.int .i64 (z0), .int .i64 (z1), .int .i64 (z2)], .bool m]) ∧ Below w.heap.size w b)
    (hst : ∀ w, J false w → (∃ x0 x1 x2, w.cell? ⟨W, 48, none⟩ = some x0 ∧ w.cell? ⟨W, 48 + 1, none⟩ = some x1 ∧ w.cell? ⟨W, 48 + 2, none⟩ = some x2) ∧ (∀ k, w.frozen? ⟨W, k, none⟩ = false) ∧ J true (((w.setCell ⟨W, 48, none⟩ (.int .i64 z0)).setCell ⟨W, 48 + 1, none⟩ (.int .i64 z1)).setCell ⟨W, 48 + 2, none⟩ (.int .i64 z2)))
    (hQ : ∀ vs  w, Mod (fun k => k = W) w0 w → J true w → vs 3 = .bool m → Q .normal (tu7Fr W u1 u2 u4 u5 u6 u7 u8 u9 u10 u11 u12 u13 u14 u15 u16 u17 u18 u19 u20 u21 u22 u23 u24 u25 u26 u27 u28 u29 u30 u31 u32 u33 u34 u35 u36 u37 u38 u39 u40 u41 u42 u43 u44 u45 u46 u47 u48 u49 u50 u51 u69 u70 u71 vs) w) :
    (Code.region 7 tu7Ops true).wp Tryz.prog Q (tu7Fr W u1 u2 u4 u5 u6 u7 u8 u9 u10 u11 u12 u13 u14 u15 u16 u17 u18 u19 u20 u21 u22 u23 u24 u25 u26 u27 u28 u29 u30 u31 u32 u33 u34 u35 u36 u37 u38 u39 u40 u41 u42 u43 u44 u45 u46 u47 u48 u49 u50 u51 u69 u70 u71 (fun k => if k = 3 then u3 else undef)) w0 := by
  refine wp_region_sh (by kernel_rfl) (by decide) tu7Dst (by decide) (tu7Fr W u1 u2 u4 u5 u6 u7 u8 u9 u10 u11 u12 u13 u14 u15 u16 u17 u18 u19 u20 u21 u22 u23 u24 u25 u26 u27 u28 u29 u30 u31 u32 u33 u34 u35 u36 u37 u38 u39 u40 u41 u42 u43 u44 u45 u46 u47 u48 u49 u50 u51 u69 u70 u71) (fun k => if k = 3 then u3 else undef) (fun i => i) (by decide) (fun k => k = W) hsh (fun L w => J (L 17) w) hJ0
    (fun _ _ => False) (fun s j h => h.elim) (fun s s2 j h => h.elim) (tu7T W q0 q1 q2 q3 v0 v1 v2 z0 z1 z2 m) ?_ ?_ ?_
  · intro i v u S w w' hi h hw hw' hz hS
    have hi' : i < 19 := hi
    rcases (by omega : i = 0 ∨ i = 1 ∨ i = 2 ∨ i = 3 ∨ i = 4 ∨ i = 5 ∨ i = 6 ∨ i = 7 ∨ i = 8 ∨ i = 9 ∨ i = 10 ∨ i = 11 ∨ i = 12 ∨ i = 13 ∨ i = 14 ∨ i = 15 ∨ i = 16 ∨ i = 17 ∨ i = 18) with rfl | rfl | rfl | rfl | rfl | rfl | rfl | rfl | rfl | rfl | rfl | rfl | rfl | rfl | rfl | rfl | rfl | rfl | rfl
    · exact h
    · exact h
    · exact h
    · exact h
    · exact h
    · exact h
    · exact h
    · exact h
    · exact h
    · exact h
    · exact h
    · exact h
    · exact h
    · exact h
    · exact h
    · exact h
    · exact h
    · exact h
    · exact h
  · intro i hi L vs w S hb hI hL hpr hsu hp hbd hkl _
    have hi' : i < 19 := hi
    rcases (by omega : i = 0 ∨ i = 1 ∨ i = 2 ∨ i = 3 ∨ i = 4 ∨ i = 5 ∨ i = 6 ∨ i = 7 ∨ i = 8 ∨ i = 9 ∨ i = 10 ∨ i = 11 ∨ i = 12 ∨ i = 13 ∨ i = 14 ∨ i = 15 ∨ i = 16 ∨ i = 17 ∨ i = 18) with rfl | rfl | rfl | rfl | rfl | rfl | rfl | rfl | rfl | rfl | rfl | rfl | rfl | rfl | rfl | rfl | rfl | rfl | rfl
    · exact wpOp_of _ rfl rfl (op_move rfl rfl ⟨_, fun _ => False, rfl, rfl, fun _ h => h.elim, fun h => h.elim fun _ h9 => h9.elim, Mod.refl _ _, hI⟩)
    · exact wpOp_of _ rfl rfl (op_move rfl rfl ⟨_, fun _ => False, rfl, rfl, fun _ h => h.elim, fun h => h.elim fun _ h9 => h9.elim, Mod.refl _ _, hI⟩)
    · have h1 : vs 54 = .pointer (some ⟨W, 0, none⟩) := hp 1 (by decide) (fun _ h9 => h9.elim)
      exact wpOp_of _ rfl rfl (op_nil rfl h1 ⟨_, fun _ => False, rfl, rfl, fun _ h => h.elim, fun h => h.elim fun _ h9 => h9.elim, Mod.refl _ _, hI⟩)
    · have h2 : vs 55 = .pointer (some ⟨W, 0, none⟩) := hp 2 (by decide) (fun _ h9 => h9.elim)
      exact wpOp_of _ rfl rfl (op_fwork2 rfl h2 ⟨_, fun _ => False, rfl, rfl, fun _ h => h.elim, fun h => h.elim fun _ h9 => h9.elim, Mod.refl _ _, hI⟩)
    · have h3 : vs 56 = .pointer (some ⟨W, 19, none⟩) := hp 3 (by decide) (fun _ h9 => h9.elim)
      exact wpOp_of _ rfl rfl (op_fEst0 rfl h3 ⟨_, fun _ => False, rfl, rfl, fun _ h => h.elim, fun h => h.elim fun _ h9 => h9.elim, Mod.refl _ _, hI⟩)
    · have h4 : vs 57 = .pointer (some ⟨W, 19, none⟩) := hp 4 (by decide) (fun _ h9 => h9.elim)
      exact wpOp_of _ rfl rfl (op_ldQuat rfl h4 (l0 _ w hI) (l1 _ w hI) (l2 _ w hI) (l3 _ w hI) ⟨_, fun _ => False, rfl, rfl, fun _ h => h.elim, fun h => h.elim fun _ h9 => h9.elim, Mod.refl _ _, hI⟩)
    · exact wpOp_of _ rfl rfl (op_move rfl rfl ⟨_, fun _ => False, rfl, rfl, fun _ h => h.elim, fun h => h.elim fun _ h9 => h9.elim, Mod.refl _ _, hI⟩)
    · have h6 : vs 59 = .pointer (some ⟨W, 0, none⟩) := hp 6 (by decide) (fun _ h9 => h9.elim)
      exact wpOp_of _ rfl rfl (op_nil rfl h6 ⟨_, fun _ => False, rfl, rfl, fun _ h => h.elim, fun h => h.elim fun _ h9 => h9.elim, Mod.refl _ _, hI⟩)
    · have h7 : vs 60 = .pointer (some ⟨W, 0, none⟩) := hp 7 (by decide) (fun _ h9 => h9.elim)
      exact wpOp_of _ rfl rfl (op_fwork1 rfl h7 ⟨_, fun _ => False, rfl, rfl, fun _ h => h.elim, fun h => h.elim fun _ h9 => h9.elim, Mod.refl _ _, hI⟩)
    · have h8 : vs 61 = .pointer (some ⟨W, 6, none⟩) := hp 8 (by decide) (fun _ h9 => h9.elim)
      exact wpOp_of _ rfl rfl (op_fSample2 rfl h8 ⟨_, fun _ => False, rfl, rfl, fun _ h => h.elim, fun h => h.elim fun _ h9 => h9.elim, Mod.refl _ _, hI⟩)
    · have h9 : vs 62 = .pointer (some ⟨W, 10, none⟩) := hp 9 (by decide) (fun _ h9 => h9.elim)
      exact wpOp_of _ rfl rfl (op_ldVec rfl h9 (n0 _ w hI) (n1 _ w hI) (n2 _ w hI) ⟨_, fun _ => False, rfl, rfl, fun _ h => h.elim, fun h => h.elim fun _ h9 => h9.elim, Mod.refl _ _, hI⟩)
    · have h5 : vs 58 = .agg #[.int .i64 (q0), .int .i64 (q1), .int .i64 (q2), .int .i64 (q3)] := hp 5 (by decide) (fun _ h9 => h9.elim)
      have h10 : vs 63 = .agg #[.int .i64 (v0), .int .i64 (v1), .int .i64 (v2)] := hp 10 (by decide) (fun _ h9 => h9.elim)
      exact wpOp_of _ rfl rfl (op_call_tt enters_qturn rfl h5 h10 (hc w hb) (by rintro e b ⟨rfl, b'⟩; exact ⟨_, rfl, _, fun _ => False, rfl, rfl, fun _ h => h.elim, fun h => h.elim fun _ h9 => h9.elim, Mod.of b', (hJs _ _ _ hI (Mod.of b'))⟩))
    · have h11 : vs 64 = .tuple #[.agg #[.int .i64 (z0), .int .i64 (z1), .int .i64 (z2)], .bool m] := hp 11 (by decide) (fun _ h9 => h9.elim)
      exact wpOp_of _ rfl rfl (op_move rfl h11 ⟨_, fun _ => False, rfl, rfl, fun _ h => h.elim, fun h => h.elim fun _ h9 => h9.elim, Mod.refl _ _, hI⟩)
    · have h12 : vs 52 = .tuple #[.agg #[.int .i64 (z0), .int .i64 (z1), .int .i64 (z2)], .bool m] := hp 12 (by decide) (fun _ h9 => h9.elim)
      exact wpOp_of _ rfl rfl (op_extract rfl h12 rfl ⟨_, fun _ => False, rfl, rfl, fun _ h => h.elim, fun h => h.elim fun _ h9 => h9.elim, Mod.refl _ _, hI⟩)
    · have h12 : vs 52 = .tuple #[.agg #[.int .i64 (z0), .int .i64 (z1), .int .i64 (z2)], .bool m] := hp 12 (by decide) (fun _ h9 => h9.elim)
      exact wpOp_of _ rfl rfl (op_extract rfl h12 rfl ⟨_, fun _ => False, rfl, rfl, fun _ h => h.elim, fun h => h.elim fun _ h9 => h9.elim, Mod.refl _ _, hI⟩)
    · have h0 : vs 53 = .pointer (some ⟨W, 0, none⟩) := hp 0 (by decide) (fun _ h9 => h9.elim)
      exact wpOp_of _ rfl rfl (op_nil rfl h0 ⟨_, fun _ => False, rfl, rfl, fun _ h => h.elim, fun h => h.elim fun _ h9 => h9.elim, Mod.refl _ _, hI⟩)
    · have h15 : vs 67 = .pointer (some ⟨W, 0, none⟩) := hp 15 (by decide) (fun _ h9 => h9.elim)
      exact wpOp_of _ rfl rfl (op_fwork3 rfl h15 ⟨_, fun _ => False, rfl, rfl, fun _ h => h.elim, fun h => h.elim fun _ h9 => h9.elim, Mod.refl _ _, hI⟩)
    · have h13 : vs 65 = .agg #[.int .i64 (z0), .int .i64 (z1), .int .i64 (z2)] := hp 13 (by decide) (fun _ h9 => h9.elim)
      have h16 : vs 68 = .pointer (some ⟨W, 48, none⟩) := hp 16 (by decide) (fun _ h9 => h9.elim)
      have hJ : J false w := by
        have h : J (L 17) w := hI
        rw [hL] at h; exact h
      obtain ⟨⟨x0, x1, x2, e0, e1, e2⟩, ef, ej⟩ := hst w hJ
      exact wpOp_of _ rfl rfl (op_stVecAt rfl rfl h16 h13 e0 e1 e2 (ef _) (ef _) (ef _) ⟨undef, fun _ => False, rfl, trivial, fun _ h => h.elim, fun h => h.elim fun _ h9 => h9.elim, ((mod_set.trans mod_set).trans mod_set).mono fun q _ hq => .inl hq, ej⟩)
    · have h14 : vs 66 = .bool m := hp 14 (by decide) (fun _ h9 => h9.elim)
      exact wpOp_of _ rfl rfl (op_assign rfl h14 ⟨_, fun _ => False, rfl, rfl, fun _ h => h.elim, fun h => h.elim fun _ h9 => h9.elim, Mod.refl _ _, hI⟩)
  · intro vs w S L hall hI hb hSz hT
    have hIe : J true w := by
      have hI' : J (L 17) w := hI
      rw [hall 17 (by decide)] at hI'
      exact hI'
    exact hQ vs  w hb hIe (hT 18 (by decide) (fun s h => h))
end Go.Proofs.YtoefekkdjcflmaaGreatDoor.Et
namespace Go.Proofs.YtoefekkdjcflmaaGreatDoor.Et
open Go.RowKit Go.Sort Go.Proofs.YtoefekkdjcflmaaGreatDoor.Qm Go.Proofs.YtoefekkdjcflmaaGreatDoor.Qt.Qm
open Go.Proofs.YtoefekkdjcflmaaGreatDoor.Qt (Less)
theorem Less.mod {w w' : World} {W : Nat} (h : Less w) (hm : Mod (fun b => b = W) w w') (hW : W ≠ 0) : Less w' := fun k i hk hi => by
  have h0 := h k i hk hi
  have hl := block_lt_of_cell h0
  rw [World.cell?_of_block (w := w) (w' := w') (hm.block 0 hl (fun e => hW e.symm))]; exact h0
def SlB (B : Nat) (f : Nat → Value) : Prop := ∀ i, i < 3 → (∀ k, (f (23 + 6 * i + 2)).ownBlock = some k → k < B) ∧ (∀ k, (f (23 + 6 * i + 5)).ownBlock = some k → k < B)
theorem SlB.up {B : Nat} {f : Nat → Value} (h : SlB B f) {k : Nat} (hk : ∀ i, i < 3 → k ≠ 23 + 6 * i + 2 ∧ k ≠ 23 + 6 * i + 5) (v : Value) : SlB B (up f k v) := fun i hi => by
  rw [up_ne (fun e => (hk i hi).1 e.symm), up_ne (fun e => (hk i hi).2 e.symm)]; exact h i hi
theorem Stf.lts {w : World} {W : Nat} {s : Sg} {f : Nat → Value} (h : Stf w W s f) : SlB w.heap.size f := fun i hi =>
  ⟨(h.ax i hi).x.lt (by rw [(h.ax i hi).xl]; decide), (h.ax i hi).p.lt (by rw [(h.ax i hi).pl]; decide)⟩
theorem Stf.newer {w w' : World} {W B : Nat} {s : Sg} {f : Nat → Value} (h : Stf w W s f) (hl : SlB B f) (hW : W < B) (hm : Mod (fun q => B ≤ q) w w') : Stf w' W s f :=
  ⟨h.wk.mod hm (by omega), h.c, h.ms, h.gy, h.ac, h.hb, h.br, h.hg, h.gn, h.tu, fun i hi => by
    have g := h.ax i hi
    have l1 := g.x.lt (by rw [g.xl]; decide)
    have l2 := g.p.lt (by rw [g.pl]; decide)
    exact ⟨g.r, g.c, g.r', g.c', g.x.agree hm.size fun k hk => hm.block k (l1 k hk) (by have := (hl i hi).1 k hk; omega), g.p.agree hm.size fun k hk => hm.block k (l2 k hk) (by have := (hl i hi).2 k hk; omega), g.xl, g.pl, g.xn, g.pn⟩,
    h.st, h.co, h.off, h.sat, h.a, h.lo⟩
theorem Stf.ext {w : World} {W : Nat} {s s' : Sg} {f : Nat → Value} (h : Stf w W s f) (e1 : s'.c = s.c) (e2 : s'.ms = s.ms) (e3 : s'.hb = s.hb) (e4 : s'.hg = s.hg) (e5 : s'.gy = s.gy) (e6 : s'.ac = s.ac) (e7 : s'.gn = s.gn) (e8 : s'.br = s.br) (e9 : ∀ k, k < 4 → s'.tu k = s.tu k) (e10 : ∀ i, i < 3 → s'.X i = s.X i) (e11 : ∀ i, i < 3 → s'.P i = s.P i)
    (e12 : s'.st = s.st) (e13 : s'.co = s.co) (e14 : ∀ k, k < 4 → s'.off k = s.off k) (e15 : s'.sat = s.sat) (e16 : ∀ k, k < 3 → s'.a k = s.a k) (e17 : s'.lo = s.lo := by rfl) : Stf w W s' f :=
  ⟨h.wk, by rw [e1]; exact h.c, by rw [e2]; exact h.ms, by rw [e5]; exact h.gy, by rw [e6]; exact h.ac, by rw [e3]; exact h.hb, by rw [e8]; exact h.br, by rw [e4]; exact h.hg, by rw [e7]; exact h.gn, fun k hk => by rw [e9 k hk]; exact h.tu k hk,
    fun i hi => by rw [e10 i hi, e11 i hi, e17]; exact h.ax i hi, by rw [e12]; exact h.st, by rw [e13]; exact h.co, fun k hk => by rw [e14 k hk]; exact h.off k hk, by rw [e15]; exact h.sat, fun k hk => by rw [e16 k hk]; exact h.a k hk, by rw [e17]; exact h.lo⟩
def tu1 (s : Sg) : Nat → Int := un (sl s.gy (half (s.c 0) 1))
def fu1 (s : Sg) : Bool := Qt.Qm.anyB (slB s.gy (half (s.c 0) 1)) 4 || unB (sl s.gy (half (s.c 0) 1))
def tu2 (s : Sg) : Nat → Int := qm s.tu (tu1 s)
def fu2 (s : Sg) : Bool := Qt.Qm.anyB (qmB s.tu (tu1 s)) 4
def tu3 (s : Sg) : Nat → Int := un (tu2 s)
def fu3 (s : Sg) : Bool := unB (tu2 s)
def tu4 (s : Sg) (k : Nat) : Int := tn (tu3 s) s.ac (k + 1)
def fu4 (s : Sg) : Bool := tnB (tu3 s) s.ac
def turS (s : Sg) : Sg := if s.ms then s else { s with tu := tu3 s, a := tu4 s, sat := s.sat || fu1 s || fu2 s || fu3 s || fu4 s }
set_option maxHeartbeats 1000000 in
theorem keep_f (W : Nat) (b : Bool) (s : Sg) (f : Nat → Value) (w : World) (hf : Stf w W s f) :
    Calls Tryz.prog 61 #[.pointer (some ⟨W, 0, none⟩), .bool b] w fun e w' => e = .returned (.tuple #[]) ∧ Stf w' W { s with sat := s.sat || b } (up f 47 (.bool (s.sat || b))) ∧ Mod (fun b => b = W) w w' := by
  have c47 := hf.wk.cell (k := 47) (by decide) hf.sat
  have f47 := hf.wk.frozen 47
  have hs := fun b' => hf.setSat b'
  clear hf
  cases hsat : s.sat
  all_goals
    rw [hsat] at c47
    clear hsat
    simp only [Bool.false_or, Bool.true_or]
    go_enter Tryz.func61, Tryz.ntmps61
    go_wp2
    refine bodyPost_end (v := .tuple #[]) (by simp [results, Tryz.results61, go_sem]) rfl ?_
    exact ⟨rfl, hs _, mod_set⟩
set_option maxRecDepth 20000 in
set_option maxHeartbeats 4000000 in
theorem turn_not (W : Nat) (s : Sg) (w : World) (h : St w W s) (hm : s.ms = true) :
    Calls Tryz.prog 30 #[.pointer (some ⟨W, 0, none⟩)] w fun e w' => e = .returned (.tuple #[]) ∧ St w' W (turS s) ∧ Mod (fun b => b = W) w w' := by
  have hT : turS s = s := by unfold turS; rw [hm]; rfl
  rw [hT]
  have h' := h
  obtain ⟨f, hf⟩ := h
  have c6 := hf.wk.cell (k := 6) (by decide) hf.ms
  rw [hm] at c6
  clear hf hT hm
  go_enter Tryz.func30, Tryz.ntmps30
  go_wp2
  refine bodyPost_ret (v := .tuple #[]) (by simp [results, Tryz.results30, go_sem]) rfl ?_
  exact ⟨rfl, h', Mod.refl _ _⟩
def Jt (W : Nat) (s : Sg) (f : Nat → Value) (t : Nat → Int) (b : Bool) (v : World) : Prop := match b with
  | false => Stf v W s f
  | true => Stf v W { s with a := t } (up (up (up f 48 (.int .i64 (t 0))) (48 + 1) (.int .i64 (t 1))) (48 + 2) (.int .i64 (t 2)))
theorem Jt.tu {W : Nat} {s : Sg} {f : Nat → Value} {t : Nat → Int} (b : Bool) (v : World) (h : Jt W s f t b v) (k : Nat) (hk : k < 4) : v.cell? ⟨W, 19 + k, none⟩ = some (.int .i64 (s.tu k)) := by
  cases b
  · exact Wk.cell (Stf.wk h) (by omega) (Stf.tu h k hk)
  · exact Wk.cell (Stf.wk h) (by omega) (Stf.tu h k hk)
theorem Jt.ac {W : Nat} {s : Sg} {f : Nat → Value} {t : Nat → Int} (b : Bool) (v : World) (h : Jt W s f t b v) (k : Nat) (hk : k < 3) : v.cell? ⟨W, 10 + k, none⟩ = some (.int .i64 (s.ac k)) := by
  cases b
  · exact Wk.cell (Stf.wk h) (by omega) (Stf.ac h k hk)
  · exact Wk.cell (Stf.wk h) (by omega) (Stf.ac h k hk)
theorem Jt.st {W : Nat} {s : Sg} {f : Nat → Value} {t : Nat → Int} (v : World) (h : Jt W s f t false v) : (∃ x0 x1 x2, v.cell? ⟨W, 48, none⟩ = some x0 ∧ v.cell? ⟨W, 48 + 1, none⟩ = some x1 ∧ v.cell? ⟨W, 48 + 2, none⟩ = some x2) ∧ (∀ k, v.frozen? ⟨W, k, none⟩ = false) ∧ Jt W s f t true (((v.setCell ⟨W, 48, none⟩ (.int .i64 (t 0))).setCell ⟨W, 48 + 1, none⟩ (.int .i64 (t 1))).setCell ⟨W, 48 + 2, none⟩ (.int .i64 (t 2))) := by
  have h' : Stf v W s f := h
  refine ⟨⟨_, _, _, h'.wk.cell (by decide) rfl, h'.wk.cell (by decide) rfl, h'.wk.cell (by decide) rfl⟩, fun k => h'.wk.frozen k, ?_⟩
  refine Stf.ext (((h'.setA 0 (by decide) (t 0)).setA 1 (by decide) (t 1)).setA 2 (by decide) (t 2)) rfl rfl rfl rfl rfl rfl rfl rfl (fun _ _ => rfl) (fun _ _ => rfl) (fun _ _ => rfl) rfl rfl (fun _ _ => rfl) rfl ?_
  intro k hk
  rcases (by omega : k = 0 ∨ k = 1 ∨ k = 2) with rfl | rfl | rfl <;> rfl
theorem Jt.more {W B : Nat} {s : Sg} {f : Nat → Value} {t : Nat → Int} (hl : SlB B f) (hW : W < B) (b : Bool) (v v' : World) (h : Jt W s f t b v) (hm : Mod (fun q => B ≤ q) v v') : Jt W s f t b v' := by
  cases b
  · exact Stf.newer h hl hW hm
  · exact Stf.newer h (((hl.up (by omega) _).up (by omega) _).up (by omega) _) hW hm
theorem at4 (g t : Nat → Int) (k : Nat) (hk : k < 4) : at' (at' (at' (at' g 0 (t 0)) 1 (t 1)) 2 (t 2)) 3 (t 3) k = t k := by
  rcases (by omega : k = 0 ∨ k = 1 ∨ k = 2 ∨ k = 3) with rfl | rfl | rfl | rfl <;> rfl
set_option maxRecDepth 20000 in
set_option maxHeartbeats 4000000 in
theorem turn_yes (W : Nat) (s : Sg) (w : World) (h : St w W s) (hm : s.ms = false) (d0 : 1 ≤ s.c 0) (d1 : s.c 0 ≤ 17179869184) (hG : Less w) (hW : W ≠ 0) :
    Calls Tryz.prog 30 #[.pointer (some ⟨W, 0, none⟩)] w fun e w' => e = .returned (.tuple #[]) ∧ St w' W (turS s) ∧ Mod (fun b => b = W) w w' := by
  obtain ⟨f, hf⟩ := h
  have c6 := hf.wk.cell (k := 6) (by decide) hf.ms
  rw [hm] at c6
  have hE : turS s = { s with tu := tu3 s, a := tu4 s, sat := s.sat || fu1 s || fu2 s || fu3 s || fu4 s } := by unfold turS; rw [if_neg (by rw [hm]; decide)]
  rw [hE]
  clear hE
  have hlW := hf.wk.lt
  go_enter Tryz.func30, Tryz.ntmps30
  go_wp2
  -- the small turn
  have B1 : ∀ v, Mod (fun _ => False) w v → Below w.heap.size w v := fun v hv => hv.below (Nat.le_refl _) (fun _ h => h.elim)
  refine tu1_region (W := W) (g0 := s.gy 0) (g1 := s.gy 1) (g2 := s.gy 2) (d := s.c 0) (z0 := tu1 s 0) (z1 := tu1 s 1) (z2 := tu1 s 2) (z3 := tu1 s 3) (m := fu1 s)
    (fun v hv => (hf.below (B1 v hv)).wk.cell (k := 7) (by decide) (hf.gy 0 (by decide))) (fun v hv => (hf.below (B1 v hv)).wk.cell (k := 8) (by decide) (hf.gy 1 (by decide))) (fun v hv => (hf.below (B1 v hv)).wk.cell (k := 9) (by decide) (hf.gy 2 (by decide))) (fun v hv => (hf.below (B1 v hv)).wk.cell (k := 0) (by decide) (hf.c 0 (by decide)))
    (fun v hv => Qt.small_any s.gy (s.c 0) v (by omega) (by omega)) ?_
  intro vs D1 w1 mo1 e1 hD1 hb1 em1
  have hf1 := hf.below (B1 _ mo1)
  have hG1 := hG.below (B1 _ mo1)
  have b01 := B1 _ mo1
  clear B1
  unfold tu1Fr
  rw [e1, em1]
  clear e1 em1 mo1
  have hDW : D1 ≠ W := by omega
  go_wp2_with (go_at_call 61; go_must (refine (keep_f W (fu1 s) s f _ hf1).mono ?_); rintro e w2 ⟨rfl, hf2, m2⟩)
  -- the product
  have hb2 := (m2.block D1 (lt_of_block hb1) hDW).trans hb1
  have hG2 := Less.mod hG1 m2 hW
  have B3 : ∀ v, Mod (fun _ => False) w2 v → Below w2.heap.size w2 v := fun v hv => hv.below (Nat.le_refl _) (fun _ h => h.elim)
  have c4 : ∀ v, Mod (fun _ => False) w2 v → _ := fun v hv => Qt.four_cells (Qt.keep (B3 v hv) hb2)
  refine tu3_region (W := W) (D2 := D1) (q0 := s.tu 0) (q1 := s.tu 1) (q2 := s.tu 2) (q3 := s.tu 3) (s0 := tu1 s 0) (s1 := tu1 s 1) (s2 := tu1 s 2) (s3 := tu1 s 3) (z0 := tu2 s 0) (z1 := tu2 s 1) (z2 := tu2 s 2) (z3 := tu2 s 3) (m := fu2 s)
    (fun v hv => (hf2.below (B3 v hv)).wk.cell (k := 19) (by decide) (hf2.tu 0 (by decide))) (fun v hv => (hf2.below (B3 v hv)).wk.cell (k := 20) (by decide) (hf2.tu 1 (by decide))) (fun v hv => (hf2.below (B3 v hv)).wk.cell (k := 21) (by decide) (hf2.tu 2 (by decide))) (fun v hv => (hf2.below (B3 v hv)).wk.cell (k := 22) (by decide) (hf2.tu 3 (by decide)))
    (fun v hv => (c4 v hv).1) (fun v hv => (c4 v hv).2.1) (fun v hv => (c4 v hv).2.2.1) (fun v hv => (c4 v hv).2.2.2.1)
    (fun v hv => Qt.qmul_any s.tu (tu1 s) v (hG2.below (B3 v hv))) ?_
  intro vs' D3 w3 mo3 e3 hD3 hb3 em3
  have b23 := B3 _ mo3
  have hf3 := hf2.below b23
  have hG3 := hG2.below b23
  clear B3 c4
  unfold tu3Fr
  rw [e3, em3]
  clear e3 em3 mo3 hb2 hf1
  have hDW3 : D3 ≠ W := by have := b01.size; have := m2.size; omega
  go_wp2_with (first
    | (have _ := b45; go_at_call 61; go_must (refine (keep_f W (fu3 s) _ _ _ hf6).mono ?_); rintro e w7 ⟨rfl, hf7, m7⟩)
    | (have _ := m4; go_at_call 63; go_must (refine (Qt.unit_any (tu2 s) w4).mono ?_); rintro e w5 ⟨rfl, b45⟩; have hf5 := hf4.below b45; have c19 := hf5.wk.cell (k := 19) (by decide) (hf5.tu 0 (by decide)); have c20 := hf5.wk.cell (k := 20) (by decide) (hf5.tu 1 (by decide)); have c21 := hf5.wk.cell (k := 21) (by decide) (hf5.tu 2 (by decide)); have c22 := hf5.wk.cell (k := 22) (by decide) (hf5.tu 3 (by decide)); have z19 := hf5.wk.frozen 19; have z20 := hf5.wk.frozen 20; have z21 := hf5.wk.frozen 21; have z22 := hf5.wk.frozen 22; have hf6 := (((hf5.setTu 0 (by decide) (tu3 s 0)).setTu 1 (by decide) (tu3 s 1)).setTu 2 (by decide) (tu3 s 2)).setTu 3 (by decide) (tu3 s 3))
    | (go_at_call 61; go_must (refine (keep_f W (fu2 s) _ _ _ hf3).mono ?_); rintro e w4 ⟨rfl, hf4, m4⟩; have hb4 := (m4.block D3 (lt_of_block hb3) hDW3).trans hb3; obtain ⟨k0, k1, k2, k3, _⟩ := Qt.four_cells hb4))
  have hf7' : Stf w7 W { s with tu := tu3 s, sat := s.sat || fu1 s || fu2 s || fu3 s } _ := hf7.ext rfl rfl rfl rfl rfl rfl rfl rfl (fun k hk => (at4 s.tu (tu3 s) k hk).symm) (fun _ _ => rfl) (fun _ _ => rfl) rfl rfl (fun _ _ => rfl) rfl (fun _ _ => rfl)
  obtain ⟨f7, hf8⟩ : ∃ f7, Stf w7 W { s with tu := tu3 s, sat := s.sat || fu1 s || fu2 s || fu3 s } f7 := ⟨_, hf7'⟩
  have hb45 := hb4
  have m05 : Mod (fun b => b = W) w w7 := (((((Mod.of b01).trans m2).trans (Mod.of b23)).trans m4).trans (Mod.of b45)).trans ((((mod_set.trans mod_set).trans mod_set).trans mod_set).trans m7)
  have hG7 := Less.mod hG m05 hW
  have hl7 := hf8.wk.lt
  clear hf7' hf7 hf6 hf5 hf4 hf3 hf2 hG1 hG2 hG3 c19 c20 c21 c22 z19 z20 z21 z22 hb45 hb4 hb3 hb1 k0 k1 k2 k3
  refine tu7_region (W := W) (q0 := tu3 s 0) (q1 := tu3 s 1) (q2 := tu3 s 2) (q3 := tu3 s 3) (v0 := s.ac 0) (v1 := s.ac 1) (v2 := s.ac 2) (z0 := tu4 s 0) (z1 := tu4 s 1) (z2 := tu4 s 2) (m := fu4 s)
    (J := Jt W { s with tu := tu3 s, sat := s.sat || fu1 s || fu2 s || fu3 s } f7 (tu4 s)) (fun k hk => by rw [hk]; exact hl7) (hf8.below (Below.refl _ _).drew) (fun b v v' h hm => h.more hf8.lts hl7 b v v' hm)
    (fun b v h => h.tu b v 0 (by decide)) (fun b v h => h.tu b v 1 (by decide)) (fun b v h => h.tu b v 2 (by decide)) (fun b v h => h.tu b v 3 (by decide)) (fun b v h => h.ac b v 0 (by decide)) (fun b v h => h.ac b v 1 (by decide)) (fun b v h => h.ac b v 2 (by decide))
    (fun v hv => Qt.turn_any (tu3 s) s.ac v (Less.mod hG7 hv hW)) (fun v h => h.st v) ?_
  intro vs7 w8 mo8 hJ8 em8
  have hf9 : Stf w8 W { s with tu := tu3 s, a := tu4 s, sat := s.sat || fu1 s || fu2 s || fu3 s } _ := hJ8
  unfold tu7Fr
  rw [em8]
  clear em8
  go_wp2_with (go_at_call 61; go_must (refine (keep_f W (fu4 s) _ _ _ hf9).mono ?_); rintro e w9 ⟨rfl, hf10, m9⟩)
  refine bodyPost_end (v := .tuple #[]) (by simp [results, Tryz.results30, go_sem]) rfl ?_
  exact ⟨rfl, ⟨_, hf10⟩, (m05.trans mo8).trans m9⟩
theorem turn_any (W : Nat) (s : Sg) (w : World) (h : St w W s) (d0 : 1 ≤ s.c 0) (d1 : s.c 0 ≤ 17179869184) (hG : Less w) (hW : W ≠ 0) :
    Calls Tryz.prog 30 #[.pointer (some ⟨W, 0, none⟩)] w fun e w' => e = .returned (.tuple #[]) ∧ St w' W (turS s) ∧ Mod (fun b => b = W) w w' := by
  cases hm : s.ms
  · exact turn_yes W s w h hm d0 d1 hG hW
  · exact turn_not W s w h hm
end Go.Proofs.YtoefekkdjcflmaaGreatDoor.Et
namespace Go.Proofs.YtoefekkdjcflmaaGreatDoor
open Go.RowKit Go.Sort Qm
theorem fill_own (R C : Nat) (hR : R ≤ 8) (hC : C ≤ 8) (F : Nat) (hF : ∀ (args : Array Value) (a : World), Sem.run Tryz.prog (callFunc F args) a = Result.ok (Next.enter F args) a) (caps : Array Value) (t : Nat → Int) (w : World)
    (hcall : ∀ (i j : Nat) a, i < R → j < C → Below w.heap.size w a → Calls Tryz.prog F (#[.int .i64 i, .int .i64 j] ++ caps) a (fun e b => e = .returned (.int .i64 (t (i * C + j))) ∧ Below a.heap.size a b)) :
    Calls Tryz.prog 161 #[.agg #[.int .i64 R, .int .i64 C], .func (.func F) #[] caps] w fun e b => ∃ v, e = .returned (.agg #[.int .i64 R, .int .i64 C, v]) ∧ b.ownsRow w.heap.size 22 1 v (R * C) ((tab t (R * C)).map (Value.int .i64)) ∧ Below w.heap.size w b := by
  refine (filled_any R C hR hC F hF caps t none (fun _ a => Below w.heap.size w a) w (fun m e => by cases e) (Below.refl _ _) (fun _ a b h k => h.trans k) ?_).mono ?_
  · intro i j a hi hj hb
    refine (hcall i j a hi hj hb).mono ?_
    rintro e b ⟨rfl, bb⟩
    exact ⟨rfl, bt hb bb, gb_below _ bb⟩
  · rintro e b ⟨v, rfl, hown, hb, _⟩
    exact ⟨v, rfl, hown, hb⟩
theorem even_fill_own (C : Nat) (hC : C ≤ 8) (xs : List Int) (hn : xs.length = C * C) (ha : AllIn xs) (P bk : Nat) (w : World) (hA : AtBox w P bk C xs) :
    Calls Tryz.prog 161 #[.agg #[.int .i64 C, .int .i64 C], .func (.func 184) #[] #[.pointer (some ⟨P, 0, none⟩)]] w fun e b =>
      ∃ v, e = .returned (.agg #[.int .i64 C, .int .i64 C, v]) ∧ b.ownsRow w.heap.size 22 1 v (C * C) ((evn C xs).map (Value.int .i64)) ∧ Below w.heap.size w b := by
  refine fill_own C C hC hC 184 enters57 #[.pointer (some ⟨P, 0, none⟩)] (fun p => half (ge xs p + ge xs ((p % C) * C + p / C)) 1) w ?_
  intro i j a hi hj hb
  have e1 : (i * C + j) % C = j := mod_of hj
  have e2 : (i * C + j) / C = i := div_of hj
  simp only [e1, e2]
  exact even1_any i j C P bk xs a hi hj hC hn ha (hA.below hb)
set_option maxHeartbeats 800000 in
theorem even_own (C : Nat) (h1 : 1 ≤ C) (hC : C ≤ 8) (v : Value) (xs : List Int) (hn : xs.length = C * C) (ha : AllIn xs) (w : World) (hs : Sees w v xs) :
    Calls Tryz.prog 166 #[.agg #[.int .i64 C, .int .i64 C, v]] w fun e b =>
      ∃ v, e = .returned (.tuple #[.agg #[.int .i64 C, .int .i64 C, v], .bool false, .int .i64 0]) ∧ b.ownsRow w.heap.size 22 1 v (C * C) ((evn C xs).map (Value.int .i64)) ∧ Below w.heap.size w b := by
  obtain ⟨ao, cap, rfl⟩ := hs.slice
  have hl : laidB C C xs.length = true := laidB_mk h1 hC h1 hC hn
  have hrk := fun P bk w hA => even_fill_own C hC xs hn ha P bk w hA
  clear hn ha
  go_enter Tryz.func166, Tryz.ntmps166
  go_wp2
  obtain ⟨x1, x2⟩ := allocs2 w (.cells #[.int .i64 C, .int .i64 C, .slice ao xs.length cap] 29) (.cells #[.int .i64 0, .int .i64 0, .slice none 0 0] 29)
  obtain ⟨k0, k1, k2, _⟩ := mat_cells x1
  have m0 := cell_regrown k0
  have m1 := cell_regrown k1
  have m2 := cell_regrown k2
  refine wp_region_quiet_below (by kernel_rfl) (by kernel_rfl) ?_
  repeat (quiet_step (first | exact sizeOf_calm _ _ _ _ _ _ _ _ | exact turned_calm _ _ _ _ _))
  refine wpQuiet_nil ?_
  intro _ hw'
  obtain ⟨⟨dq, osq⟩, hw''⟩ := hw'
  subst hw''
  have b0 := bt (ball2 w (.cells #[.int .i64 C, .int .i64 C, .slice ao xs.length cap] 29) (.cells #[.int .i64 0, .int .i64 0, .slice none 0 0] 29)) (below_regrown ((w.alloc (.cells #[.int .i64 C, .int .i64 C, .slice ao xs.length cap] 29)).alloc (.cells #[.int .i64 0, .int .i64 0, .slice none 0 0] 29)) dq osq)
  have y1 := keep (below_regrown ((w.alloc (.cells #[.int .i64 C, .int .i64 C, .slice ao xs.length cap] 29)).alloc (.cells #[.int .i64 0, .int .i64 0, .slice none 0 0] 29)) dq osq) x1
  have y2 := keep (below_regrown ((w.alloc (.cells #[.int .i64 C, .int .i64 C, .slice ao xs.length cap] 29)).alloc (.cells #[.int .i64 0, .int .i64 0, .slice none 0 0] 29)) dq osq) x2
  obtain ⟨W, hW⟩ : ∃ W, grow (redrawn ((w.alloc (.cells #[.int .i64 C, .int .i64 C, .slice ao xs.length cap] 29)).alloc (.cells #[.int .i64 0, .int .i64 0, .slice none 0 0] 29)) dq) osq = W := ⟨_, rfl⟩
  rw [hW] at b0 y1 y2 ⊢
  clear hW m0 m1 m2 k0 k1 k2 x1 x2
  obtain ⟨k0, k1, k2, _⟩ := mat_cells y1
  go_wp2_with (first
    | (go_at_call 159; refine (laid_any _ _ _ _ _ _).mono ?_; rintro e w1 ⟨rfl, b1⟩; have a1 := keep b1 y1; have r1 := keep b1 y2; have s1 := hs.below (bt b0 b1); obtain ⟨c0, c1, c2, _⟩ := mat_cells a1)
    | (go_at_call 160; refine (numbers_any _ _ _ _ _ _).mono ?_; rintro e w2 ⟨rfl, rfl⟩; obtain ⟨d0, d1, d2, _⟩ := mat_cells (heap_old (heap_old a1 (.cells #[.int .i64 C, .int .i64 C, .slice ao xs.length cap] 29)) (.cells #[.func (.func 182) #[] #[.pointer (some ⟨w1.heap.size, 0, none⟩)]] 187)))
    | (go_at_call 144; refine (sizeOf_any _ _ _ _ _ _).mono ?_; rintro e w3 ⟨rfl, b3⟩; have A3 := (atbox_mk s1).below b3)
    | (go_at_call 161; have r3 := keep b3 (heap_old (heap_old r1 _) _); refine (hrk _ _ _ A3).mono ?_; rintro e w4 ⟨v4, rfl, o4, b4⟩; obtain ⟨ao4, cap4, rfl⟩ := own_slice o4; obtain ⟨f0, f1, f2, g0, g1, g2⟩ := mat_cells (heap_old (keep b4 r3) (.cells #[.int .i64 C, .int .i64 C, .slice ao4 (C * C) cap4] 29))))
  refine bodyPost_ret (v := .tuple #[.agg #[.int .i64 C, .int .i64 C, .slice ao4 (C * C) cap4], .bool false, .int .i64 0]) (by simp [results, Tryz.results166, go_sem, f0, f1, f2]) rfl ?_
  have b5 := bt (bt (bt b0 b1) (ball2 w1 _ _)) b3
  exact ⟨_, rfl, own_mono (ownsRow_setCell_below (ownsRow_setCell_below (ownsRow_setCell_below (o4.alloc _) (lt_of_block r3) _) (lt_of_block r3) _) (lt_of_block r3) _) b5.size, below_put ((bt b5 b4).alloc (bt b5 b4).size _) (by omega) _ _ _⟩
end Go.Proofs.YtoefekkdjcflmaaGreatDoor

