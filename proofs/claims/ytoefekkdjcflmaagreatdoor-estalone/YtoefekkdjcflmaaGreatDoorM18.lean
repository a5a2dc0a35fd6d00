/- Parts of the proof. -/
import Derived.Test.YtoefekkdjcflmaaGreatDoorM17
namespace Go.Proofs.YtoefekkdjcflmaaGreatDoor.Et
open Go.RowKit Go.Sort Go.Proofs.YtoefekkdjcflmaaGreatDoor.Qm
set_option linter.unusedVariables false
theorem enters_small : ∀ (args : Array Value) (a : World), Sem.run Tryz.prog (callFunc 60 args) a = Result.ok (Next.enter 60 args) a := by
  intro args a; simp [callFunc, Tryz.func60, go_sem]; rfl
def tu1Ops : Array Oper := #[
 ⟨some 11, .move (.tmp 0), 96, "est.go:118", #[], none⟩,
 ⟨some 12, .nilCheck (.tmp 11), 0, "est.go:118", #[eD 0], none⟩,
 ⟨some 13, .fieldAddr 66 (.tmp 12) 1, 0, "est.go:118", #[eD 1], none⟩,
 ⟨some 14, .fieldAddr 39 (.tmp 13) 1, 0, "est.go:118", #[eD 2], none⟩,
 ⟨some 15, .load 37 (.tmp 14), 37, "est.go:118", #[eD 3], none⟩,
 ⟨some 16, .move (.tmp 0), 96, "est.go:118", #[], none⟩,
 ⟨some 17, .nilCheck (.tmp 16), 0, "est.go:118", #[eD 5], none⟩,
 ⟨some 18, .fieldAddr 66 (.tmp 17) 0, 0, "est.go:118", #[eD 6], none⟩,
 ⟨some 19, .fieldAddr 24 (.tmp 18) 0, 0, "est.go:118", #[eD 7], none⟩,
 ⟨some 20, .load 22 (.tmp 19), 22, "est.go:118", #[eD 8], none⟩,
 ⟨some 21, .call ⟨.value (.func 60), #[.tmp 15, .tmp 20], #[37, 22]⟩, 97, "est.go:118", #[eD 4, eD 9], none⟩,
 ⟨some 10, .move (.tmp 21), 97, "est.go:118", #[eD 10], none⟩,
 ⟨some 22, .extract (.tmp 10) 0, 26, "est.go:118", #[eD 11], none⟩,
 ⟨some 23, .extract (.tmp 10) 1, 4, "est.go:118", #[eD 11, ⟨15, .gcOnly .lateStores⟩], none⟩,
 ⟨some 2, .alloc 26, 0, "est.go:118", #[], none⟩,
 ⟨none, .store 26 (.tmp 2) (.tmp 22), 0, "est.go:118", #[eD 14, eD 12, eC 10, eP 0, eP 1, eP 2, eP 3, eP 4, eP 5, eP 6, eP 7, eP 8, eP 9, eP 10, eP 11, eP 12, ⟨13, .textOnly .lateStores⟩, eP 14], none⟩,
 ⟨some 3, .assign (.tmp 23), 4, "est.go:118", #[eD 13, eC 15, eP 0, eP 1, eP 2, eP 3, eP 4, eP 5, eP 6, eP 7, eP 8, eP 9, eP 10, eP 11, eP 12, eP 13, eP 14, eP 15], none⟩]
def tu1Dst (i : Nat) : Nat := [11, 12, 13, 14, 15, 16, 17, 18, 19, 20, 21, 10, 22, 23, 2, 1015, 3].getD i 0
def tu1Fr (W : Nat) (u1 u4 u5 u6 u7 u8 u9 u24 u25 u26 u27 u28 u29 u30 u31 u32 u33 u34 u35 u36 u37 u38 u39 u40 u41 u42 u43 u44 u45 u46 u47 u48 u49 u50 u51 u52 u53 u54 u55 u56 u57 u58 u59 u60 u61 u62 u63 u64 u65 u66 u67 u68 u69 u70 u71 : Value) (vs : Nat → Value) : Act := ⟨#[.pointer (some ⟨W, 0, none⟩), u1, vs 2, vs 3, u4, u5, u6, u7, u8, u9, vs 10, vs 11, vs 12, vs 13, vs 14, vs 15, vs 16, vs 17, vs 18, vs 19, vs 20, vs 21, vs 22, vs 23, u24, u25, u26, u27, u28, u29, u30, u31, u32, u33, u34, u35, u36, u37, u38, u39, u40, u41, u42, u43, u44, u45, u46, u47, u48, u49, u50, u51, u52, u53, u54, u55, u56, u57, u58, u59, u60, u61, u62, u63, u64, u65, u66, u67, u68, u69, u70, u71], []⟩
def tu1T (B : Nat) (W : Nat) (g0 : Int) (g1 : Int) (g2 : Int) (d : Int) (z0 : Int) (z1 : Int) (z2 : Int) (z3 : Int) (m : Bool) : Nat → Value → Value → (Nat → Prop) → World → Prop
  | 0, v, _, _, _ => v = .pointer (some ⟨W, 0, none⟩)
  | 1, v, _, _, _ => v = .pointer (some ⟨W, 0, none⟩)
  | 2, v, _, _, _ => v = .pointer (some ⟨W, 6, none⟩)
  | 3, v, _, _, _ => v = .pointer (some ⟨W, 7, none⟩)
  | 4, v, _, _, _ => v = .agg #[.int .i64 (g0), .int .i64 (g1), .int .i64 (g2)]
  | 5, v, _, _, _ => v = .pointer (some ⟨W, 0, none⟩)
  | 6, v, _, _, _ => v = .pointer (some ⟨W, 0, none⟩)
  | 7, v, _, _, _ => v = .pointer (some ⟨W, 0, none⟩)
  | 8, v, _, _, _ => v = .pointer (some ⟨W, 0, none⟩)
  | 9, v, _, _, _ => v = .int .i64 (d)
  | 10, v, _, _, _ => v = .tuple #[.agg #[.int .i64 (z0), .int .i64 (z1), .int .i64 (z2), .int .i64 (z3)], .bool m]
  | 11, v, _, _, _ => v = .tuple #[.agg #[.int .i64 (z0), .int .i64 (z1), .int .i64 (z2), .int .i64 (z3)], .bool m]
  | 12, v, _, _, _ => v = .agg #[.int .i64 (z0), .int .i64 (z1), .int .i64 (z2), .int .i64 (z3)]
  | 13, v, _, _, _ => v = .bool m
  | 14, v, _, S, w => TP B #[.int .i64 0, .int .i64 0, .int .i64 0, .int .i64 0] 26 v S w
  | 15, _, u, S, w => TP B #[.int .i64 (z0), .int .i64 (z1), .int .i64 (z2), .int .i64 (z3)] 26 u S w
  | 16, v, _, _, _ => v = .bool m
  | _, _, _, _, _ => True
set_option maxRecDepth 40000 in
set_option maxHeartbeats 1600000 in
theorem tu1_region {Q : Exit → Act → World → Prop} {w0 : World} {W : Nat} {g0 : Int} {g1 : Int} {g2 : Int} {d : Int} {z0 : Int} {z1 : Int} {z2 : Int} {z3 : Int} {m : Bool} {u1 u4 u5 u6 u7 u8 u9 u24 u25 u26 u27 u28 u29 u30 u31 u32 u33 u34 u35 u36 u37 u38 u39 u40 u41 u42 u43 u44 u45 u46 u47 u48 u49 u50 u51 u52 u53 u54 u55 u56 u57 u58 u59 u60 u61 u62 u63 u64 u65 u66 u67 u68 u69 u70 u71 : Value}
    (l7 : ∀ w, Mod (fun _ => False) w0 w → w.cell? ⟨W, 7, none⟩ = some (.int .i64 g0)) (l8 : ∀ w, Mod (fun _ => False) w0 w → w.cell? ⟨W, 7 + 1, none⟩ = some (.int .i64 g1)) (l9 : ∀ w, Mod (fun _ => False) w0 w → w.cell? ⟨W, 7 + 2, none⟩ = some (.int .i64 g2)) (l0 : ∀ w, Mod (fun _ => False) w0 w → w.cell? ⟨W, 0, none⟩ = some (.int .i64 d))
    (hc : ∀ w, Mod (fun _ => False) w0 w → Calls Tryz.prog 60 #[.agg #[.int .i64 (g0), .int .i64 (g1), .int .i64 (g2)], .int .i64 (d)] w fun e b => e = .returned (.tuple #[.agg #[.int .i64 (z0), .int .i64 (z1), .int .i64 (z2), .int .i64 (z3)], .bool m]) ∧ Below w.heap.size w b)
    (hQ : ∀ vs D w, Mod (fun _ => False) w0 w → vs 2 = .pointer (some ⟨D, 0, none⟩) → w0.heap.size ≤ D → w.heap[D]? = some (.cells #[.int .i64 (z0), .int .i64 (z1), .int .i64 (z2), .int .i64 (z3)] 26 (0, 0)) → vs 3 = .bool m → Q .normal (tu1Fr W u1 u4 u5 u6 u7 u8 u9 u24 u25 u26 u27 u28 u29 u30 u31 u32 u33 u34 u35 u36 u37 u38 u39 u40 u41 u42 u43 u44 u45 u46 u47 u48 u49 u50 u51 u52 u53 u54 u55 u56 u57 u58 u59 u60 u61 u62 u63 u64 u65 u66 u67 u68 u69 u70 u71 vs) w) :
    (Code.region 1 tu1Ops true).wp Tryz.prog Q (tu1Fr W u1 u4 u5 u6 u7 u8 u9 u24 u25 u26 u27 u28 u29 u30 u31 u32 u33 u34 u35 u36 u37 u38 u39 u40 u41 u42 u43 u44 u45 u46 u47 u48 u49 u50 u51 u52 u53 u54 u55 u56 u57 u58 u59 u60 u61 u62 u63 u64 u65 u66 u67 u68 u69 u70 u71 (fun _ => undef)) w0 := by
  refine wp_region_sh (by kernel_rfl) (by decide) tu1Dst (by decide) (tu1Fr W u1 u4 u5 u6 u7 u8 u9 u24 u25 u26 u27 u28 u29 u30 u31 u32 u33 u34 u35 u36 u37 u38 u39 u40 u41 u42 u43 u44 u45 u46 u47 u48 u49 u50 u51 u52 u53 u54 u55 u56 u57 u58 u59 u60 u61 u62 u63 u64 u65 u66 u67 u68 u69 u70 u71) (fun _ => undef) (fun i => if i = 15 then 14 else i) (by decide) (fun _ => False) (fun _ h => h.elim) (fun _ _ => True) trivial
    (fun s j => s = 15 ∧ j = 14) (fun s j h => by obtain ⟨rfl, rfl⟩ := h; exact ⟨by decide, by decide⟩) (fun s s2 j h h2 => h.1.trans h2.1.symm) (tu1T w0.heap.size W g0 g1 g2 d z0 z1 z2 z3 m) ?_ ?_ ?_
  · intro i v u S w w' hi h hw hw' hz hS
    have hi' : i < 17 := hi
    rcases (by omega : i = 0 ∨ i = 1 ∨ i = 2 ∨ i = 3 ∨ i = 4 ∨ i = 5 ∨ i = 6 ∨ i = 7 ∨ i = 8 ∨ i = 9 ∨ i = 10 ∨ i = 11 ∨ i = 12 ∨ i = 13 ∨ i = 14 ∨ i = 15 ∨ i = 16) with rfl | rfl | rfl | rfl | rfl | rfl | rfl | rfl | rfl | rfl | rfl | rfl | rfl | rfl | rfl | rfl | rfl
    · exact h
    · exact h
    · exact h
    · exact h
    · exact h
    · exact h
    · exact h
    · exact h
    · exact h
    · exact h
    · exact h
    · exact h
    · exact h
    · exact h
    · exact TP.stab h hS
    · exact TP.stab (show TP w0.heap.size #[.int .i64 (z0), .int .i64 (z1), .int .i64 (z2), .int .i64 (z3)] 26 u S w from h) hS
    · exact h
  · intro i hi L vs w S hb hI hL hpr hsu hp hbd hkl _
    have hi' : i < 17 := hi
    rcases (by omega : i = 0 ∨ i = 1 ∨ i = 2 ∨ i = 3 ∨ i = 4 ∨ i = 5 ∨ i = 6 ∨ i = 7 ∨ i = 8 ∨ i = 9 ∨ i = 10 ∨ i = 11 ∨ i = 12 ∨ i = 13 ∨ i = 14 ∨ i = 15 ∨ i = 16) with rfl | rfl | rfl | rfl | rfl | rfl | rfl | rfl | rfl | rfl | rfl | rfl | rfl | rfl | rfl | rfl | rfl
    · exact wpOp_of _ rfl rfl (op_move rfl rfl ⟨_, fun _ => False, rfl, rfl, fun _ h => h.elim, fun h => (by obtain ⟨s9, h9⟩ := h; exact absurd h9.2 (by decide)), Mod.refl _ _, hI⟩)
    · have h0 : vs 11 = .pointer (some ⟨W, 0, none⟩) := hp 0 (by decide) (fun _ h9 => absurd h9.2 (by decide))
      exact wpOp_of _ rfl rfl (op_nil rfl h0 ⟨_, fun _ => False, rfl, rfl, fun _ h => h.elim, fun h => (by obtain ⟨s9, h9⟩ := h; exact absurd h9.2 (by decide)), Mod.refl _ _, hI⟩)
    · have h1 : vs 12 = .pointer (some ⟨W, 0, none⟩) := hp 1 (by decide) (fun _ h9 => absurd h9.2 (by decide))
      exact wpOp_of _ rfl rfl (op_fwork1 rfl h1 ⟨_, fun _ => False, rfl, rfl, fun _ h => h.elim, fun h => (by obtain ⟨s9, h9⟩ := h; exact absurd h9.2 (by decide)), Mod.refl _ _, hI⟩)
    · have h2 : vs 13 = .pointer (some ⟨W, 6, none⟩) := hp 2 (by decide) (fun _ h9 => absurd h9.2 (by decide))
      exact wpOp_of _ rfl rfl (op_fSample1 rfl h2 ⟨_, fun _ => False, rfl, rfl, fun _ h => h.elim, fun h => (by obtain ⟨s9, h9⟩ := h; exact absurd h9.2 (by decide)), Mod.refl _ _, hI⟩)
    · have h3 : vs 14 = .pointer (some ⟨W, 7, none⟩) := hp 3 (by decide) (fun _ h9 => absurd h9.2 (by decide))
      exact wpOp_of _ rfl rfl (op_ldVec rfl h3 (l7 w hb) (l8 w hb) (l9 w hb) ⟨_, fun _ => False, rfl, rfl, fun _ h => h.elim, fun h => (by obtain ⟨s9, h9⟩ := h; exact absurd h9.2 (by decide)), Mod.refl _ _, hI⟩)
    · exact wpOp_of _ rfl rfl (op_move rfl rfl ⟨_, fun _ => False, rfl, rfl, fun _ h => h.elim, fun h => (by obtain ⟨s9, h9⟩ := h; exact absurd h9.2 (by decide)), Mod.refl _ _, hI⟩)
    · have h5 : vs 16 = .pointer (some ⟨W, 0, none⟩) := hp 5 (by decide) (fun _ h9 => absurd h9.2 (by decide))
      exact wpOp_of _ rfl rfl (op_nil rfl h5 ⟨_, fun _ => False, rfl, rfl, fun _ h => h.elim, fun h => (by obtain ⟨s9, h9⟩ := h; exact absurd h9.2 (by decide)), Mod.refl _ _, hI⟩)
    · have h6 : vs 17 = .pointer (some ⟨W, 0, none⟩) := hp 6 (by decide) (fun _ h9 => absurd h9.2 (by decide))
      exact wpOp_of _ rfl rfl (op_fwork0 rfl h6 ⟨_, fun _ => False, rfl, rfl, fun _ h => h.elim, fun h => (by obtain ⟨s9, h9⟩ := h; exact absurd h9.2 (by decide)), Mod.refl _ _, hI⟩)
    · have h7 : vs 18 = .pointer (some ⟨W, 0, none⟩) := hp 7 (by decide) (fun _ h9 => absurd h9.2 (by decide))
      exact wpOp_of _ rfl rfl (op_fConf0 rfl h7 ⟨_, fun _ => False, rfl, rfl, fun _ h => h.elim, fun h => (by obtain ⟨s9, h9⟩ := h; exact absurd h9.2 (by decide)), Mod.refl _ _, hI⟩)
    · have h8 : vs 19 = .pointer (some ⟨W, 0, none⟩) := hp 8 (by decide) (fun _ h9 => absurd h9.2 (by decide))
      exact wpOp_of _ rfl rfl (op_ldQ rfl h8 (l0 w hb) ⟨_, fun _ => False, rfl, rfl, fun _ h => h.elim, fun h => (by obtain ⟨s9, h9⟩ := h; exact absurd h9.2 (by decide)), Mod.refl _ _, hI⟩)
    · have h4 : vs 15 = .agg #[.int .i64 (g0), .int .i64 (g1), .int .i64 (g2)] := hp 4 (by decide) (fun _ h9 => absurd h9.2 (by decide))
      have h9 : vs 20 = .int .i64 (d) := hp 9 (by decide) (fun _ h9 => absurd h9.2 (by decide))
      exact wpOp_of _ rfl rfl (op_call_tt enters_small rfl h4 h9 (hc w hb) (by rintro e b ⟨rfl, b'⟩; exact ⟨_, rfl, _, fun _ => False, rfl, rfl, fun _ h => h.elim, fun h => (by obtain ⟨s9, h9⟩ := h; exact absurd h9.2 (by decide)), Mod.of b', trivial⟩))
    · have h10 : vs 21 = .tuple #[.agg #[.int .i64 (z0), .int .i64 (z1), .int .i64 (z2), .int .i64 (z3)], .bool m] := hp 10 (by decide) (fun _ h9 => absurd h9.2 (by decide))
      exact wpOp_of _ rfl rfl (op_move rfl h10 ⟨_, fun _ => False, rfl, rfl, fun _ h => h.elim, fun h => (by obtain ⟨s9, h9⟩ := h; exact absurd h9.2 (by decide)), Mod.refl _ _, hI⟩)
    · have h11 : vs 10 = .tuple #[.agg #[.int .i64 (z0), .int .i64 (z1), .int .i64 (z2), .int .i64 (z3)], .bool m] := hp 11 (by decide) (fun _ h9 => absurd h9.2 (by decide))
      exact wpOp_of _ rfl rfl (op_extract rfl h11 rfl ⟨_, fun _ => False, rfl, rfl, fun _ h => h.elim, fun h => (by obtain ⟨s9, h9⟩ := h; exact absurd h9.2 (by decide)), Mod.refl _ _, hI⟩)
    · have h11 : vs 10 = .tuple #[.agg #[.int .i64 (z0), .int .i64 (z1), .int .i64 (z2), .int .i64 (z3)], .bool m] := hp 11 (by decide) (fun _ h9 => absurd h9.2 (by decide))
      exact wpOp_of _ rfl rfl (op_extract rfl h11 rfl ⟨_, fun _ => False, rfl, rfl, fun _ h => h.elim, fun h => (by obtain ⟨s9, h9⟩ := h; exact absurd h9.2 (by decide)), Mod.refl _ _, hI⟩)
    · exact wpOp_of _ rfl rfl (op_alQuat rfl ⟨_, fun b => b = w.heap.size, rfl, ⟨_, rfl, rfl, hb.size, heap_new _ _⟩, fun b h => .inr (by subst h; simp), fun _ b h => by omega, Mod.of ((Below.refl _ w).alloc (Nat.le_refl _) _), trivial⟩)
    · obtain ⟨D, hD, hSD, hBD, hbl⟩ : TP w0.heap.size #[.int .i64 0, .int .i64 0, .int .i64 0, .int .i64 0] 26 (vs 2) (S 14) w := hp 14 (by decide) (fun _ h9 => h9.1)
      have h12 : vs 22 = .agg #[.int .i64 (z0), .int .i64 (z1), .int .i64 (z2), .int .i64 (z3)] := hp 12 (by decide) (fun _ h9 => absurd h9.2 (by decide))
      refine wpOp_of _ rfl rfl (op_stQuat rfl rfl hD h12 hbl ?_)
      exact ⟨undef, fun q => q = D, rfl, ⟨D, hD, rfl, hBD, putQuat hbl⟩, fun q h => .inl ⟨14, by decide, fun _ h9 => h9.1, h ▸ hSD⟩, fun h => (by obtain ⟨s9, h9⟩ := h; exact absurd h9.2 (by decide)), (modQuat _ _ _ _).mono fun q _ hq => .inr ⟨14, ⟨rfl, rfl⟩, hq ▸ hSD⟩, trivial⟩
    · have h13 : vs 23 = .bool m := hp 13 (by decide) (fun _ h9 => absurd h9.2 (by decide))
      exact wpOp_of _ rfl rfl (op_assign rfl h13 ⟨_, fun _ => False, rfl, rfl, fun _ h => h.elim, fun h => (by obtain ⟨s9, h9⟩ := h; exact absurd h9.2 (by decide)), Mod.refl _ _, hI⟩)
  · intro vs w S L hall hI hb hSz hT
    obtain ⟨D, g1, _, g3, g4⟩ : TP w0.heap.size #[.int .i64 (z0), .int .i64 (z1), .int .i64 (z2), .int .i64 (z3)] 26 (vs 2) (S 15) w := hT 15 (by decide) (fun s h => by omega)
    exact hQ vs D w hb g1 g3 g4 (hT 16 (by decide) (fun s h => by omega))
set_option linter.unusedVariables false
theorem enters_qmul : ∀ (args : Array Value) (a : World), Sem.run Tryz.prog (callFunc 62 args) a = Result.ok (Next.enter 62 args) a := by
  intro args a; simp [callFunc, Tryz.func62, go_sem]; rfl
def tu3Ops : Array Oper := #[
 ⟨some 28, .move (.tmp 0), 96, "est.go:120", #[], none⟩,
 ⟨some 29, .nilCheck (.tmp 28), 0, "est.go:120", #[eD 0], none⟩,
 ⟨some 30, .fieldAddr 66 (.tmp 29) 2, 0, "est.go:120", #[eD 1], none⟩,
 ⟨some 31, .fieldAddr 35 (.tmp 30) 0, 0, "est.go:120", #[eD 2], none⟩,
 ⟨some 32, .load 26 (.tmp 31), 26, "est.go:120", #[eD 3], none⟩,
 ⟨some 33, .load 26 (.tmp 2), 26, "est.go:120", #[], none⟩,
 ⟨some 34, .call ⟨.value (.func 62), #[.tmp 32, .tmp 33], #[26, 26]⟩, 97, "est.go:120", #[eD 4, eD 5], none⟩,
 ⟨some 27, .move (.tmp 34), 97, "est.go:120", #[eD 6], none⟩,
 ⟨some 35, .extract (.tmp 27) 0, 26, "est.go:120", #[eD 7], none⟩,
 ⟨some 36, .extract (.tmp 27) 1, 4, "est.go:120", #[eD 7, ⟨11, .gcOnly .lateStores⟩], none⟩,
 ⟨some 4, .alloc 26, 0, "est.go:120", #[], none⟩,
 ⟨none, .store 26 (.tmp 4) (.tmp 35), 0, "est.go:120", #[eD 10, eD 8, eC 6, eP 0, eP 1, eP 2, eP 3, eP 4, eP 5, eP 6, eP 7, eP 8, ⟨9, .textOnly .lateStores⟩, eP 10], none⟩,
 ⟨some 3, .assign (.tmp 36), 4, "est.go:120", #[eD 9, eC 11, eP 0, eP 1, eP 2, eP 3, eP 4, eP 5, eP 6, eP 7, eP 8, eP 9, eP 10, eP 11], none⟩]
def tu3Dst (i : Nat) : Nat := [28, 29, 30, 31, 32, 33, 34, 27, 35, 36, 4, 1011, 3].getD i 0
def tu3Fr (W : Nat) (D2 : Nat) (u1 u5 u6 u7 u8 u9 u10 u11 u12 u13 u14 u15 u16 u17 u18 u19 u20 u21 u22 u23 u24 u25 u26 u37 u38 u39 u40 u41 u42 u43 u44 u45 u46 u47 u48 u49 u50 u51 u52 u53 u54 u55 u56 u57 u58 u59 u60 u61 u62 u63 u64 u65 u66 u67 u68 u69 u70 u71 : Value) (vs : Nat → Value) : Act := ⟨#[.pointer (some ⟨W, 0, none⟩), u1, .pointer (some ⟨D2, 0, none⟩), vs 3, vs 4, u5, u6, u7, u8, u9, u10, u11, u12, u13, u14, u15, u16, u17, u18, u19, u20, u21, u22, u23, u24, u25, u26, vs 27, vs 28, vs 29, vs 30, vs 31, vs 32, vs 33, vs 34, vs 35, vs 36, u37, u38, u39, u40, u41, u42, u43, u44, u45, u46, u47, u48, u49, u50, u51, u52, u53, u54, u55, u56, u57, u58, u59, u60, u61, u62, u63, u64, u65, u66, u67, u68, u69, u70, u71], []⟩
def tu3T (B : Nat) (W : Nat) (q0 : Int) (q1 : Int) (q2 : Int) (q3 : Int) (s0 : Int) (s1 : Int) (s2 : Int) (s3 : Int) (z0 : Int) (z1 : Int) (z2 : Int) (z3 : Int) (m : Bool) : Nat → Value → Value → (Nat → Prop) → World → Prop
  | 0, v, _, _, _ => v = .pointer (some ⟨W, 0, none⟩)
  | 1, v, _, _, _ => v = .pointer (some ⟨W, 0, none⟩)
  | 2, v, _, _, _ => v = .pointer (some ⟨W, 19, none⟩)
  | 3, v, _, _, _ => v = .pointer (some ⟨W, 19, none⟩)
  | 4, v, _, _, _ => v = .agg #[.int .i64 (q0), .int .i64 (q1), .int .i64 (q2), .int .i64 (q3)]
  | 5, v, _, _, _ => v = .agg #[.int .i64 (s0), .int .i64 (s1), .int .i64 (s2), .int .i64 (s3)]
  | 6, v, _, _, _ => v = .tuple #[.agg #[.int .i64 (z0), .int .i64 (z1), .int .i64 (z2), .int .i64 (z3)], .bool m]
  | 7, v, _, _, _ => v = .tuple #[.agg #[.int .i64 (z0), .int .i64 (z1), .int .i64 (z2), .int .i64 (z3)], .bool m]
  | 8, v, _, _, _ => v = .agg #[.int .i64 (z0), .int .i64 (z1), .int .i64 (z2), .int .i64 (z3)]
  | 9, v, _, _, _ => v = .bool m
  | 10, v, _, S, w => TP B #[.int .i64 0, .int .i64 0, .int .i64 0, .int .i64 0] 26 v S w
  | 11, _, u, S, w => TP B #[.int .i64 (z0), .int .i64 (z1), .int .i64 (z2), .int .i64 (z3)] 26 u S w
  | 12, v, _, _, _ => v = .bool m
  | _, _, _, _, _ => True
set_option maxRecDepth 40000 in
set_option maxHeartbeats 1600000 in
theorem tu3_region {Q : Exit → Act → World → Prop} {w0 : World} {W : Nat} {D2 : Nat} {q0 : Int} {q1 : Int} {q2 : Int} {q3 : Int} {s0 : Int} {s1 : Int} {s2 : Int} {s3 : Int} {z0 : Int} {z1 : Int} {z2 : Int} {z3 : Int} {m : Bool} {u1 u5 u6 u7 u8 u9 u10 u11 u12 u13 u14 u15 u16 u17 u18 u19 u20 u21 u22 u23 u24 u25 u26 u37 u38 u39 u40 u41 u42 u43 u44 u45 u46 u47 u48 u49 u50 u51 u52 u53 u54 u55 u56 u57 u58 u59 u60 u61 u62 u63 u64 u65 u66 u67 u68 u69 u70 u71 u3 : Value}
    (l0 : ∀ w, Mod (fun _ => False) w0 w → w.cell? ⟨W, 19, none⟩ = some (.int .i64 q0)) (l1 : ∀ w, Mod (fun _ => False) w0 w → w.cell? ⟨W, 19 + 1, none⟩ = some (.int .i64 q1)) (l2 : ∀ w, Mod (fun _ => False) w0 w → w.cell? ⟨W, 19 + 2, none⟩ = some (.int .i64 q2)) (l3 : ∀ w, Mod (fun _ => False) w0 w → w.cell? ⟨W, 19 + 3, none⟩ = some (.int .i64 q3)) (n0 : ∀ w, Mod (fun _ => False) w0 w → w.cell? ⟨D2, 0, none⟩ = some (.int .i64 s0)) (n1 : ∀ w, Mod (fun _ => False) w0 w → w.cell? ⟨D2, 0 + 1, none⟩ = some (.int .i64 s1)) (n2 : ∀ w, Mod (fun _ => False) w0 w → w.cell? ⟨D2, 0 + 2, none⟩ = some (.int .i64 s2)) (n3 : ∀ w, Mod (fun _ => False) w0 w → w.cell? ⟨D2, 0 + 3, none⟩ = some (.int .i64 s3))
    (hc : ∀ w, Mod (fun _ => False) w0 w → Calls Tryz.prog 62 #[.agg #[.int .i64 (q0), .int .i64 (q1), .int .i64 (q2), .int .i64 (q3)], .agg #[.int .i64 (s0), .int .i64 (s1), .int .i64 (s2), .int .i64 (s3)]] w fun e b => e = .returned (.tuple #[.agg #[.int .i64 (z0), .int .i64 (z1), .int .i64 (z2), .int .i64 (z3)], .bool m]) ∧ Below w.heap.size w b)
    (hQ : ∀ vs D w, Mod (fun _ => False) w0 w → vs 4 = .pointer (some ⟨D, 0, none⟩) → w0.heap.size ≤ D → w.heap[D]? = some (.cells #[.int .i64 (z0), .int .i64 (z1), .int .i64 (z2), .int .i64 (z3)] 26 (0, 0)) → vs 3 = .bool m → Q .normal (tu3Fr W D2 u1 u5 u6 u7 u8 u9 u10 u11 u12 u13 u14 u15 u16 u17 u18 u19 u20 u21 u22 u23 u24 u25 u26 u37 u38 u39 u40 u41 u42 u43 u44 u45 u46 u47 u48 u49 u50 u51 u52 u53 u54 u55 u56 u57 u58 u59 u60 u61 u62 u63 u64 u65 u66 u67 u68 u69 u70 u71 vs) w) :
    (Code.region 3 tu3Ops true).wp Tryz.prog Q (tu3Fr W D2 u1 u5 u6 u7 u8 u9 u10 u11 u12 u13 u14 u15 u16 u17 u18 u19 u20 u21 u22 u23 u24 u25 u26 u37 u38 u39 u40 u41 u42 u43 u44 u45 u46 u47 u48 u49 u50 u51 u52 u53 u54 u55 u56 u57 u58 u59 u60 u61 u62 u63 u64 u65 u66 u67 u68 u69 u70 u71 (fun k => if k = 3 then u3 else undef)) w0 := by
  refine wp_region_sh (by kernel_rfl) (by decide) tu3Dst (by decide) (tu3Fr W D2 u1 u5 u6 u7 u8 u9 u10 u11 u12 u13 u14 u15 u16 u17 u18 u19 u20 u21 u22 u23 u24 u25 u26 u37 u38 u39 u40 u41 u42 u43 u44 u45 u46 u47 u48 u49 u50 u51 u52 u53 u54 u55 u56 u57 u58 u59 u60 u61 u62 u63 u64 u65 u66 u67 u68 u69 u70 u71) (fun k => if k = 3 then u3 else undef) (fun i => if i = 11 then 10 else i) (by decide) (fun _ => False) (fun _ h => h.elim) (fun _ _ => True) trivial
    (fun s j => s = 11 ∧ j = 10) (fun s j h => by obtain ⟨rfl, rfl⟩ := h; exact ⟨by decide, by decide⟩) (fun s s2 j h h2 => h.1.trans h2.1.symm) (tu3T w0.heap.size W q0 q1 q2 q3 s0 s1 s2 s3 z0 z1 z2 z3 m) ?_ ?_ ?_
  · intro i v u S w w' hi h hw hw' hz hS
    have hi' : i < 13 := hi
    rcases (by omega : i = 0 ∨ i = 1 ∨ i = 2 ∨ i = 3 ∨ i = 4 ∨ i = 5 ∨ i = 6 ∨ i = 7 ∨ i = 8 ∨ i = 9 ∨ i = 10 ∨ i = 11 ∨ i = 12) with rfl | rfl | rfl | rfl | rfl | rfl | rfl | rfl | rfl | rfl | rfl | rfl | rfl
    · exact h
    · exact h
    · exact h
    · exact h
    · exact h
    · exact h
    · exact h
    · exact h
    · exact h
    · exact h
    · exact TP.stab h hS
    · exact TP.stab (show TP w0.heap.size #[.int .i64 (z0), .int .i64 (z1), .int .i64 (z2), .int .i64 (z3)] 26 u S w from h) hS
    · exact h
  · intro i hi L vs w S hb hI hL hpr hsu hp hbd hkl _
    have hi' : i < 13 := hi
    rcases (by omega : i = 0 ∨ i = 1 ∨ i = 2 ∨ i = 3 ∨ i = 4 ∨ i = 5 ∨ i = 6 ∨ i = 7 ∨ i = 8 ∨ i = 9 ∨ i = 10 ∨ i = 11 ∨ i = 12) with rfl | rfl | rfl | rfl | rfl | rfl | rfl | rfl | rfl | rfl | rfl | rfl | rfl
    · exact wpOp_of _ rfl rfl (op_move rfl rfl ⟨_, fun _ => False, rfl, rfl, fun _ h => h.elim, fun h => (by obtain ⟨s9, h9⟩ := h; exact absurd h9.2 (by decide)), Mod.refl _ _, hI⟩)
    · have h0 : vs 28 = .pointer (some ⟨W, 0, none⟩) := hp 0 (by decide) (fun _ h9 => absurd h9.2 (by decide))
      exact wpOp_of _ rfl rfl (op_nil rfl h0 ⟨_, fun _ => False, rfl, rfl, fun _ h => h.elim, fun h => (by obtain ⟨s9, h9⟩ := h; exact absurd h9.2 (by decide)), Mod.refl _ _, hI⟩)
    · have h1 : vs 29 = .pointer (some ⟨W, 0, none⟩) := hp 1 (by decide) (fun _ h9 => absurd h9.2 (by decide))
      exact wpOp_of _ rfl rfl (op_fwork2 rfl h1 ⟨_, fun _ => False, rfl, rfl, fun _ h => h.elim, fun h => (by obtain ⟨s9, h9⟩ := h; exact absurd h9.2 (by decide)), Mod.refl _ _, hI⟩)
    · have h2 : vs 30 = .pointer (some ⟨W, 19, none⟩) := hp 2 (by decide) (fun _ h9 => absurd h9.2 (by decide))
      exact wpOp_of _ rfl rfl (op_fEst0 rfl h2 ⟨_, fun _ => False, rfl, rfl, fun _ h => h.elim, fun h => (by obtain ⟨s9, h9⟩ := h; exact absurd h9.2 (by decide)), Mod.refl _ _, hI⟩)
    · have h3 : vs 31 = .pointer (some ⟨W, 19, none⟩) := hp 3 (by decide) (fun _ h9 => absurd h9.2 (by decide))
      exact wpOp_of _ rfl rfl (op_ldQuat rfl h3 (l0 w hb) (l1 w hb) (l2 w hb) (l3 w hb) ⟨_, fun _ => False, rfl, rfl, fun _ h => h.elim, fun h => (by obtain ⟨s9, h9⟩ := h; exact absurd h9.2 (by decide)), Mod.refl _ _, hI⟩)
    · exact wpOp_of _ rfl rfl (op_ldQuat rfl rfl (n0 w hb) (n1 w hb) (n2 w hb) (n3 w hb) ⟨_, fun _ => False, rfl, rfl, fun _ h => h.elim, fun h => (by obtain ⟨s9, h9⟩ := h; exact absurd h9.2 (by decide)), Mod.refl _ _, hI⟩)
    · have h4 : vs 32 = .agg #[.int .i64 (q0), .int .i64 (q1), .int .i64 (q2), .int .i64 (q3)] := hp 4 (by decide) (fun _ h9 => absurd h9.2 (by decide))
      have h5 : vs 33 = .agg #[.int .i64 (s0), .int .i64 (s1), .int .i64 (s2), .int .i64 (s3)] := hp 5 (by decide) (fun _ h9 => absurd h9.2 (by decide))
      exact wpOp_of _ rfl rfl (op_call_tt enters_qmul rfl h4 h5 (hc w hb) (by rintro e b ⟨rfl, b'⟩; exact ⟨_, rfl, _, fun _ => False, rfl, rfl, fun _ h => h.elim, fun h => (by obtain ⟨s9, h9⟩ := h; exact absurd h9.2 (by decide)), Mod.of b', trivial⟩))
    · have h6 : vs 34 = .tuple #[.agg #[.int .i64 (z0), .int .i64 (z1), .int .i64 (z2), .int .i64 (z3)], .bool m] := hp 6 (by decide) (fun _ h9 => absurd h9.2 (by decide))
      exact wpOp_of _ rfl rfl (op_move rfl h6 ⟨_, fun _ => False, rfl, rfl, fun _ h => h.elim, fun h => (by obtain ⟨s9, h9⟩ := h; exact absurd h9.2 (by decide)), Mod.refl _ _, hI⟩)
    · have h7 : vs 27 = .tuple #[.agg #[.int .i64 (z0), .int .i64 (z1), .int .i64 (z2), .int .i64 (z3)], .bool m] := hp 7 (by decide) (fun _ h9 => absurd h9.2 (by decide))
      exact wpOp_of _ rfl rfl (op_extract rfl h7 rfl ⟨_, fun _ => False, rfl, rfl, fun _ h => h.elim, fun h => (by obtain ⟨s9, h9⟩ := h; exact absurd h9.2 (by decide)), Mod.refl _ _, hI⟩)
    · have h7 : vs 27 = .tuple #[.agg #[.int .i64 (z0), .int .i64 (z1), .int .i64 (z2), .int .i64 (z3)], .bool m] := hp 7 (by decide) (fun _ h9 => absurd h9.2 (by decide))
      exact wpOp_of _ rfl rfl (op_extract rfl h7 rfl ⟨_, fun _ => False, rfl, rfl, fun _ h => h.elim, fun h => (by obtain ⟨s9, h9⟩ := h; exact absurd h9.2 (by decide)), Mod.refl _ _, hI⟩)
    · exact wpOp_of _ rfl rfl (op_alQuat rfl ⟨_, fun b => b = w.heap.size, rfl, ⟨_, rfl, rfl, hb.size, heap_new _ _⟩, fun b h => .inr (by subst h; simp), fun _ b h => by omega, Mod.of ((Below.refl _ w).alloc (Nat.le_refl _) _), trivial⟩)
    · obtain ⟨D, hD, hSD, hBD, hbl⟩ : TP w0.heap.size #[.int .i64 0, .int .i64 0, .int .i64 0, .int .i64 0] 26 (vs 4) (S 10) w := hp 10 (by decide) (fun _ h9 => h9.1)
      have h8 : vs 35 = .agg #[.int .i64 (z0), .int .i64 (z1), .int .i64 (z2), .int .i64 (z3)] := hp 8 (by decide) (fun _ h9 => absurd h9.2 (by decide))
      refine wpOp_of _ rfl rfl (op_stQuat rfl rfl hD h8 hbl ?_)
      exact ⟨undef, fun q => q = D, rfl, ⟨D, hD, rfl, hBD, putQuat hbl⟩, fun q h => .inl ⟨10, by decide, fun _ h9 => h9.1, h ▸ hSD⟩, fun h => (by obtain ⟨s9, h9⟩ := h; exact absurd h9.2 (by decide)), (modQuat _ _ _ _).mono fun q _ hq => .inr ⟨10, ⟨rfl, rfl⟩, hq ▸ hSD⟩, trivial⟩
    · have h9 : vs 36 = .bool m := hp 9 (by decide) (fun _ h9 => absurd h9.2 (by decide))
      exact wpOp_of _ rfl rfl (op_assign rfl h9 ⟨_, fun _ => False, rfl, rfl, fun _ h => h.elim, fun h => (by obtain ⟨s9, h9⟩ := h; exact absurd h9.2 (by decide)), Mod.refl _ _, hI⟩)
  · intro vs w S L hall hI hb hSz hT
    obtain ⟨D, g1, _, g3, g4⟩ : TP w0.heap.size #[.int .i64 (z0), .int .i64 (z1), .int .i64 (z2), .int .i64 (z3)] 26 (vs 4) (S 11) w := hT 11 (by decide) (fun s h => by omega)
    exact hQ vs D w hb g1 g3 g4 (hT 12 (by decide) (fun s h => by omega))
end Go.Proofs.YtoefekkdjcflmaaGreatDoor.Et

