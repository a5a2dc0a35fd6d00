/- Parts of the proof. -/
import Derived.Test.YtoefekkdjcflmaaGreatDoorM28
namespace Go.Proofs.YtoefekkdjcflmaaGreatDoor.Et
open Go.RowKit Go.Sort Go.Proofs.YtoefekkdjcflmaaGreatDoor.Qm
set_option linter.unusedVariables false
theorem enters_upd : ∀ (args : Array Value) (a : World), Sem.run Tryz.prog (callFunc 119 args) a = Result.ok (Next.enter 119 args) a := by
  intro args a; simp [callFunc, Tryz.func119, go_sem]; rfl
theorem enters_onEnd : ∀ (args : Array Value) (a : World), Sem.run Tryz.prog (callFunc 70 args) a = Result.ok (Next.enter 70 args) a := by
  intro args a; simp [callFunc, Tryz.func70, go_sem]; rfl
def up1Ops : Array Oper := #[
 ⟨some 18, .move (.tmp 0), 96, "est.go:199", #[], none⟩,
 ⟨some 19, .move (.tmp 1), 3, "est.go:199", #[], none⟩,
 ⟨some 20, .nilCheck (.tmp 18), 0, "est.go:199", #[eD 0], none⟩,
 ⟨some 21, .fieldAddr 66 (.tmp 20) 2, 0, "est.go:199", #[eD 2], none⟩,
 ⟨some 22, .fieldAddr 35 (.tmp 21) 1, 0, "est.go:199", #[eD 3], none⟩,
 ⟨some 23, .indexAddr 32 (.tmp 22) (.tmp 19), 0, "est.go:199", #[eD 4, eD 1], none⟩,
 ⟨some 24, .load 31 (.tmp 23), 31, "est.go:199", #[eD 5], none⟩,
 ⟨some 25, .load 29 (.tmp 10), 29, "est.go:199", #[], none⟩,
 ⟨some 26, .move (.tmp 3), 22, "est.go:199", #[], none⟩,
 ⟨some 27, .move (.tmp 4), 22, "est.go:199", #[], none⟩,
 ⟨some 28, .move (.tmp 0), 96, "est.go:199", #[], none⟩,
 ⟨some 29, .nilCheck (.tmp 28), 0, "est.go:199", #[eD 10], none⟩,
 ⟨some 30, .fieldAddr 66 (.tmp 29) 0, 0, "est.go:199", #[eD 11], none⟩,
 ⟨some 31, .fieldAddr 24 (.tmp 30) 5, 0, "est.go:199", #[eD 12], none⟩,
 ⟨some 32, .load 22 (.tmp 31), 22, "est.go:199", #[eD 13], none⟩,
 ⟨some 33, .call ⟨.value (.func 119), #[.tmp 24, .tmp 25, .tmp 26, .tmp 27, .tmp 32], #[31, 29, 22, 22, 22]⟩, 148, "est.go:199", #[eD 6, eD 7, eD 8, eD 9, eD 14], none⟩,
 ⟨some 17, .move (.tmp 33), 148, "est.go:199", #[eD 15], none⟩,
 ⟨some 34, .extract (.tmp 17) 0, 31, "est.go:199", #[eD 16], none⟩,
 ⟨some 35, .extract (.tmp 17) 1, 4, "est.go:199", #[eD 16, ⟨22, .gcOnly .lateStores⟩], none⟩,
 ⟨some 36, .extract (.tmp 17) 2, 4, "est.go:199", #[eD 16, ⟨23, .gcOnly .lateStores⟩], none⟩,
 ⟨some 37, .extract (.tmp 17) 3, 47, "est.go:199", #[eD 16, ⟨24, .gcOnly .lateStores⟩], none⟩,
 ⟨some 11, .alloc 31, 0, "est.go:199", #[], none⟩,
 ⟨none, .store 31 (.tmp 11) (.tmp 34), 0, "est.go:199", #[eD 21, eD 17, eC 15, eP 0, eP 1, eP 2, eP 3, eP 4, eP 5, eP 6, eP 7, eP 8, eP 9, eP 10, eP 11, eP 12, eP 13, eP 14, eP 15, eP 16, eP 17, ⟨18, .textOnly .lateStores⟩, ⟨19, .textOnly .lateStores⟩, ⟨20, .textOnly .lateStores⟩, eP 21], none⟩,
 ⟨some 12, .assign (.tmp 35), 4, "est.go:199", #[eD 18, eC 22, eP 0, eP 1, eP 2, eP 3, eP 4, eP 5, eP 6, eP 7, eP 8, eP 9, eP 10, eP 11, eP 12, eP 13, eP 14, eP 15, eP 16, eP 17, eP 18, ⟨19, .textOnly .lateStores⟩, ⟨20, .textOnly .lateStores⟩, eP 21, eP 22], none⟩,
 ⟨some 13, .assign (.tmp 36), 4, "est.go:199", #[eD 19, eC 23, eP 0, eP 1, eP 2, eP 3, eP 4, eP 5, eP 6, eP 7, eP 8, eP 9, eP 10, eP 11, eP 12, eP 13, eP 14, eP 15, eP 16, eP 17, eP 18, eP 19, ⟨20, .textOnly .lateStores⟩, eP 21, eP 22, eP 23], none⟩,
 ⟨some 14, .assign (.tmp 37), 47, "est.go:199", #[eD 20, eC 24, eP 0, eP 1, eP 2, eP 3, eP 4, eP 5, eP 6, eP 7, eP 8, eP 9, eP 10, eP 11, eP 12, eP 13, eP 14, eP 15, eP 16, eP 17, eP 18, eP 19, eP 20, eP 21, eP 22, eP 23, eP 24], none⟩]
def up1Dst (i : Nat) : Nat := [18, 19, 20, 21, 22, 23, 24, 25, 26, 27, 28, 29, 30, 31, 32, 33, 17, 34, 35, 36, 37, 11, 1022, 12, 13, 14].getD i 0
def up1Fr (W : Nat) (D10 : Nat) (i : Nat) (z : Int) (r : Int) (u2 u5 u6 u7 u8 u9 u15 u16 u38 u39 u40 u41 u42 u43 u44 u45 u46 u47 u48 u49 u50 u51 u52 u53 u54 u55 u56 u57 u58 u59 u60 u61 u62 u63 : Value) (vs : Nat → Value) : Act := ⟨#[.pointer (some ⟨W, 0, none⟩), .int .i64 (i : Nat), u2, .int .i64 z, .int .i64 r, u5, u6, u7, u8, u9, .pointer (some ⟨D10, 0, none⟩), vs 11, vs 12, vs 13, vs 14, u15, u16, vs 17, vs 18, vs 19, vs 20, vs 21, vs 22, vs 23, vs 24, vs 25, vs 26, vs 27, vs 28, vs 29, vs 30, vs 31, vs 32, vs 33, vs 34, vs 35, vs 36, vs 37, u38, u39, u40, u41, u42, u43, u44, u45, u46, u47, u48, u49, u50, u51, u52, u53, u54, u55, u56, u57, u58, u59, u60, u61, u62, u63], []⟩
def up1T (B : Nat) (W : Nat) (i : Nat) (xo : Option Addr) (xn : Nat) (xc : Nat) (po : Option Addr) (pn : Nat) (pc : Nat) (ho : Option Addr) (hn : Nat) (hc : Nat) (z : Int) (r : Int) (g : Int) (X : List Int) (P : List Int) (tk : Bool) (od : Bool) : Nat → Value → Value → (Nat → Prop) → World → Prop
  | 0, v, _, _, _ => v = .pointer (some ⟨W, 0, none⟩)
  | 1, v, _, _, _ => v = .int .i64 (i : Nat)
  | 2, v, _, _, _ => v = .pointer (some ⟨W, 0, none⟩)
  | 3, v, _, _, _ => v = .pointer (some ⟨W, 19, none⟩)
  | 4, v, _, _, _ => v = .pointer (some ⟨W, 23, none⟩)
  | 5, v, _, _, _ => v = .pointer (some ⟨W, 23 + 6 * i, none⟩)
  | 6, v, _, _, _ => v = .agg #[.int .i64 3, .int .i64 1, .slice xo xn xc, .int .i64 3, .int .i64 3, .slice po pn pc]
  | 7, v, _, _, _ => v = .agg #[.int .i64 1, .int .i64 3, .slice ho hn hc]
  | 8, v, _, _, _ => v = .int .i64 z
  | 9, v, _, _, _ => v = .int .i64 r
  | 10, v, _, _, _ => v = .pointer (some ⟨W, 0, none⟩)
  | 11, v, _, _, _ => v = .pointer (some ⟨W, 0, none⟩)
  | 12, v, _, _, _ => v = .pointer (some ⟨W, 0, none⟩)
  | 13, v, _, _, _ => v = .pointer (some ⟨W, 5, none⟩)
  | 14, v, _, _, _ => v = .int .i64 g
  | 15, v, _, S, w => TV2 0 B (fun s t => .tuple #[.agg #[.int .i64 3, .int .i64 1, s, .int .i64 3, .int .i64 3, t], .bool tk, .bool od, .int .i64 0]) X P v S w
  | 16, v, _, S, w => TV2 0 B (fun s t => .tuple #[.agg #[.int .i64 3, .int .i64 1, s, .int .i64 3, .int .i64 3, t], .bool tk, .bool od, .int .i64 0]) X P v S w
  | 17, v, _, S, w => TV2 0 B (fun s t => .agg #[.int .i64 3, .int .i64 1, s, .int .i64 3, .int .i64 3, t]) X P v S w
  | 18, v, _, _, _ => v = .bool tk
  | 19, v, _, _, _ => v = .bool od
  | 20, v, _, _, _ => v = .int .i64 0
  | 21, v, _, S, w => TP B #[.int .i64 0, .int .i64 0, .slice none 0 0, .int .i64 0, .int .i64 0, .slice none 0 0] 31 v S w
  | 22, _, u, S, w => TP2 B 0 B (fun s t => #[.int .i64 3, .int .i64 1, s, .int .i64 3, .int .i64 3, t]) X P 31 u S w
  | 23, v, _, _, _ => v = .bool tk
  | 24, v, _, _, _ => v = .bool od
  | 25, v, _, _, _ => v = .int .i64 0
  | _, _, _, _, _ => True
set_option maxRecDepth 40000 in
set_option maxHeartbeats 1600000 in
theorem up1_region {Q : Exit → Act → World → Prop} {w0 : World} {W : Nat} {D10 : Nat} {i : Nat} {xo : Option Addr} {xn : Nat} {xc : Nat} {po : Option Addr} {pn : Nat} {pc : Nat} {ho : Option Addr} {hn : Nat} {hc : Nat} {z : Int} {r : Int} {g : Int} {X : List Int} {P : List Int} {tk : Bool} {od : Bool} {u2 u5 u6 u7 u8 u9 u15 u16 u38 u39 u40 u41 u42 u43 u44 u45 u46 u47 u48 u49 u50 u51 u52 u53 u54 u55 u56 u57 u58 u59 u60 u61 u62 u63 : Value}
    (hi3 : i < 3) (hA : ∀ w, Mod (fun _ => False) w0 w → w.cell? ⟨W, 23 + 6 * i, none⟩ = some (.int .i64 3) ∧ w.cell? ⟨W, 23 + 6 * i + 1, none⟩ = some (.int .i64 1) ∧ w.cell? ⟨W, 23 + 6 * i + 2, none⟩ = some (.slice xo xn xc) ∧ w.cell? ⟨W, 23 + 6 * i + 3, none⟩ = some (.int .i64 3) ∧ w.cell? ⟨W, 23 + 6 * i + 4, none⟩ = some (.int .i64 3) ∧ w.cell? ⟨W, 23 + 6 * i + 5, none⟩ = some (.slice po pn pc))
    (hM : ∀ w, Mod (fun _ => False) w0 w → w.cell? ⟨D10, 0, none⟩ = some (.int .i64 1) ∧ w.cell? ⟨D10, 0 + 1, none⟩ = some (.int .i64 3) ∧ w.cell? ⟨D10, 0 + 2, none⟩ = some (.slice ho hn hc)) (l5 : ∀ w, Mod (fun _ => False) w0 w → w.cell? ⟨W, 5, none⟩ = some (.int .i64 g))
    (hU : ∀ w, Mod (fun _ => False) w0 w → Calls Tryz.prog 119 #[.agg #[.int .i64 3, .int .i64 1, .slice xo xn xc, .int .i64 3, .int .i64 3, .slice po pn pc], .agg #[.int .i64 1, .int .i64 3, .slice ho hn hc], .int .i64 z, .int .i64 r, .int .i64 g] w fun e b => ∃ va vb, e = .returned (.tuple #[.agg #[.int .i64 3, .int .i64 1, va, .int .i64 3, .int .i64 3, vb], .bool tk, .bool od, .int .i64 0]) ∧ Sees b va X ∧ Sees b vb P ∧ New w.heap.size va ∧ New w.heap.size vb ∧ Below w.heap.size w b) (z_X : 0 < X.length) (z_P : 0 < P.length)
    (hQ : ∀ vs D ao ac bo bc w, Mod (fun _ => False) w0 w → vs 11 = .pointer (some ⟨D, 0, none⟩) → w0.heap.size ≤ D → w.heap[D]? = some (.cells #[.int .i64 3, .int .i64 1, (.slice ao X.length ac), .int .i64 3, .int .i64 3, (.slice bo P.length bc)] 31 (0, 0)) → Sees w (.slice ao X.length ac) X → Sees w (.slice bo P.length bc) P → New w0.heap.size (.slice ao X.length ac) → New w0.heap.size (.slice bo P.length bc) → vs 12 = .bool tk → vs 13 = .bool od → Q .normal (up1Fr W D10 i z r u2 u5 u6 u7 u8 u9 u15 u16 u38 u39 u40 u41 u42 u43 u44 u45 u46 u47 u48 u49 u50 u51 u52 u53 u54 u55 u56 u57 u58 u59 u60 u61 u62 u63 vs) w) :
    (Code.region 1 up1Ops true).wp Tryz.prog Q (up1Fr W D10 i z r u2 u5 u6 u7 u8 u9 u15 u16 u38 u39 u40 u41 u42 u43 u44 u45 u46 u47 u48 u49 u50 u51 u52 u53 u54 u55 u56 u57 u58 u59 u60 u61 u62 u63 (fun _ => undef)) w0 := by
  refine wp_region_sh (by kernel_rfl) (by decide) up1Dst (by decide) (up1Fr W D10 i z r u2 u5 u6 u7 u8 u9 u15 u16 u38 u39 u40 u41 u42 u43 u44 u45 u46 u47 u48 u49 u50 u51 u52 u53 u54 u55 u56 u57 u58 u59 u60 u61 u62 u63) (fun _ => undef) (fun i => if i = 22 then 21 else i) (by decide) (fun _ => False) (fun _ h => h.elim) (fun _ _ => True) trivial
    (fun s j => s = 22 ∧ j = 21) (fun s j h => by obtain ⟨rfl, rfl⟩ := h; exact ⟨by decide, by decide⟩) (fun s s2 j h h2 => h.1.trans h2.1.symm) (up1T w0.heap.size W i xo xn xc po pn pc ho hn hc z r g X P tk od) ?_ ?_ ?_
  · intro i v u S w w' hi h hw hw' hz hS
    have hi' : i < 26 := hi
    rcases (by omega : i = 0 ∨ i = 1 ∨ i = 2 ∨ i = 3 ∨ i = 4 ∨ i = 5 ∨ i = 6 ∨ i = 7 ∨ i = 8 ∨ i = 9 ∨ i = 10 ∨ i = 11 ∨ i = 12 ∨ i = 13 ∨ i = 14 ∨ i = 15 ∨ i = 16 ∨ i = 17 ∨ i = 18 ∨ i = 19 ∨ i = 20 ∨ i = 21 ∨ i = 22 ∨ i = 23 ∨ i = 24 ∨ i = 25) with rfl | rfl | rfl | rfl | rfl | rfl | rfl | rfl | rfl | rfl | rfl | rfl | rfl | rfl | rfl | rfl | rfl | rfl | rfl | rfl | rfl | rfl | rfl | rfl | rfl | rfl
    · exact h
    · exact h
    · exact h
    · exact h
    · exact h
    · exact h
    · exact h
    · exact h
    · exact h
    · exact h
    · exact h
    · exact h
    · exact h
    · exact h
    · exact h
    · exact TV2.stab (show TV2 0 w0.heap.size (fun s t => .tuple #[.agg #[.int .i64 3, .int .i64 1, s, .int .i64 3, .int .i64 3, t], .bool tk, .bool od, .int .i64 0]) X P v S w from h) (agr_zero hz hS)
    · exact TV2.stab (show TV2 0 w0.heap.size (fun s t => .tuple #[.agg #[.int .i64 3, .int .i64 1, s, .int .i64 3, .int .i64 3, t], .bool tk, .bool od, .int .i64 0]) X P v S w from h) (agr_zero hz hS)
    · exact TV2.stab (show TV2 0 w0.heap.size (fun s t => .agg #[.int .i64 3, .int .i64 1, s, .int .i64 3, .int .i64 3, t]) X P v S w from h) (agr_zero hz hS)
    · exact h
    · exact h
    · exact h
    · exact TP.stab h hS
    · exact TP2.stab (show TP2 w0.heap.size 0 w0.heap.size (fun s t => #[.int .i64 3, .int .i64 1, s, .int .i64 3, .int .i64 3, t]) X P 31 u S w from h) (agr_zero hz hS)
    · exact h
    · exact h
    · exact h
  · intro i hi L vs w S hb hI hL hpr hsu hp hbd hkl _
    have hi' : i < 26 := hi
    rcases (by omega : i = 0 ∨ i = 1 ∨ i = 2 ∨ i = 3 ∨ i = 4 ∨ i = 5 ∨ i = 6 ∨ i = 7 ∨ i = 8 ∨ i = 9 ∨ i = 10 ∨ i = 11 ∨ i = 12 ∨ i = 13 ∨ i = 14 ∨ i = 15 ∨ i = 16 ∨ i = 17 ∨ i = 18 ∨ i = 19 ∨ i = 20 ∨ i = 21 ∨ i = 22 ∨ i = 23 ∨ i = 24 ∨ i = 25) with rfl | rfl | rfl | rfl | rfl | rfl | rfl | rfl | rfl | rfl | rfl | rfl | rfl | rfl | rfl | rfl | rfl | rfl | rfl | rfl | rfl | rfl | rfl | rfl | rfl | rfl
    · exact wpOp_of _ rfl rfl (op_move rfl rfl ⟨_, fun _ => False, rfl, rfl, fun _ h => h.elim, fun h => (by obtain ⟨s9, h9⟩ := h; exact absurd h9.2 (by decide)), Mod.refl _ _, hI⟩)
    · exact wpOp_of _ rfl rfl (op_move rfl rfl ⟨_, fun _ => False, rfl, rfl, fun _ h => h.elim, fun h => (by obtain ⟨s9, h9⟩ := h; exact absurd h9.2 (by decide)), Mod.refl _ _, hI⟩)
    · have h0 : vs 18 = .pointer (some ⟨W, 0, none⟩) := hp 0 (by decide) (fun _ h9 => absurd h9.2 (by decide))
      exact wpOp_of _ rfl rfl (op_nil rfl h0 ⟨_, fun _ => False, rfl, rfl, fun _ h => h.elim, fun h => (by obtain ⟨s9, h9⟩ := h; exact absurd h9.2 (by decide)), Mod.refl _ _, hI⟩)
    · have h2 : vs 20 = .pointer (some ⟨W, 0, none⟩) := hp 2 (by decide) (fun _ h9 => absurd h9.2 (by decide))
      exact wpOp_of _ rfl rfl (op_fwork2 rfl h2 ⟨_, fun _ => False, rfl, rfl, fun _ h => h.elim, fun h => (by obtain ⟨s9, h9⟩ := h; exact absurd h9.2 (by decide)), Mod.refl _ _, hI⟩)
    · have h3 : vs 21 = .pointer (some ⟨W, 19, none⟩) := hp 3 (by decide) (fun _ h9 => absurd h9.2 (by decide))
      exact wpOp_of _ rfl rfl (op_fEst1 rfl h3 ⟨_, fun _ => False, rfl, rfl, fun _ h => h.elim, fun h => (by obtain ⟨s9, h9⟩ := h; exact absurd h9.2 (by decide)), Mod.refl _ _, hI⟩)
    · have h4 : vs 22 = .pointer (some ⟨W, 23, none⟩) := hp 4 (by decide) (fun _ h9 => absurd h9.2 (by decide))
      have h1 : vs 19 = .int .i64 (i : Nat) := hp 1 (by decide) (fun _ h9 => absurd h9.2 (by decide))
      exact wpOp_of _ rfl rfl (op_ixAx hi3 rfl h4 h1 ⟨_, fun _ => False, rfl, rfl, fun _ h => h.elim, fun h => (by obtain ⟨s9, h9⟩ := h; exact absurd h9.2 (by decide)), Mod.refl _ _, hI⟩)
    · have h5 : vs 23 = .pointer (some ⟨W, 23 + 6 * i, none⟩) := hp 5 (by decide) (fun _ h9 => absurd h9.2 (by decide))
      exact wpOp_of _ rfl rfl (op_ldTrack rfl h5 ((hA w hb).1) ((hA w hb).2.1) ((hA w hb).2.2.1) ((hA w hb).2.2.2.1) ((hA w hb).2.2.2.2.1) ((hA w hb).2.2.2.2.2) ⟨_, fun _ => False, rfl, rfl, fun _ h => h.elim, fun h => (by obtain ⟨s9, h9⟩ := h; exact absurd h9.2 (by decide)), Mod.refl _ _, hI⟩)
    · exact wpOp_of _ rfl rfl (op_loadM rfl rfl ((hM w hb).1) ((hM w hb).2.1) ((hM w hb).2.2) ⟨_, fun _ => False, rfl, rfl, fun _ h => h.elim, fun h => (by obtain ⟨s9, h9⟩ := h; exact absurd h9.2 (by decide)), Mod.refl _ _, hI⟩)
    · exact wpOp_of _ rfl rfl (op_move rfl rfl ⟨_, fun _ => False, rfl, rfl, fun _ h => h.elim, fun h => (by obtain ⟨s9, h9⟩ := h; exact absurd h9.2 (by decide)), Mod.refl _ _, hI⟩)
    · exact wpOp_of _ rfl rfl (op_move rfl rfl ⟨_, fun _ => False, rfl, rfl, fun _ h => h.elim, fun h => (by obtain ⟨s9, h9⟩ := h; exact absurd h9.2 (by decide)), Mod.refl _ _, hI⟩)
    · exact wpOp_of _ rfl rfl (op_move rfl rfl ⟨_, fun _ => False, rfl, rfl, fun _ h => h.elim, fun h => (by obtain ⟨s9, h9⟩ := h; exact absurd h9.2 (by decide)), Mod.refl _ _, hI⟩)
    · have h10 : vs 28 = .pointer (some ⟨W, 0, none⟩) := hp 10 (by decide) (fun _ h9 => absurd h9.2 (by decide))
      exact wpOp_of _ rfl rfl (op_nil rfl h10 ⟨_, fun _ => False, rfl, rfl, fun _ h => h.elim, fun h => (by obtain ⟨s9, h9⟩ := h; exact absurd h9.2 (by decide)), Mod.refl _ _, hI⟩)
    · have h11 : vs 29 = .pointer (some ⟨W, 0, none⟩) := hp 11 (by decide) (fun _ h9 => absurd h9.2 (by decide))
      exact wpOp_of _ rfl rfl (op_fwork0 rfl h11 ⟨_, fun _ => False, rfl, rfl, fun _ h => h.elim, fun h => (by obtain ⟨s9, h9⟩ := h; exact absurd h9.2 (by decide)), Mod.refl _ _, hI⟩)
    · have h12 : vs 30 = .pointer (some ⟨W, 0, none⟩) := hp 12 (by decide) (fun _ h9 => absurd h9.2 (by decide))
      exact wpOp_of _ rfl rfl (op_fConf5 rfl h12 ⟨_, fun _ => False, rfl, rfl, fun _ h => h.elim, fun h => (by obtain ⟨s9, h9⟩ := h; exact absurd h9.2 (by decide)), Mod.refl _ _, hI⟩)
    · have h13 : vs 31 = .pointer (some ⟨W, 5, none⟩) := hp 13 (by decide) (fun _ h9 => absurd h9.2 (by decide))
      exact wpOp_of _ rfl rfl (op_ldQ rfl h13 (l5 w hb) ⟨_, fun _ => False, rfl, rfl, fun _ h => h.elim, fun h => (by obtain ⟨s9, h9⟩ := h; exact absurd h9.2 (by decide)), Mod.refl _ _, hI⟩)
    · have h6 : vs 24 = .agg #[.int .i64 3, .int .i64 1, .slice xo xn xc, .int .i64 3, .int .i64 3, .slice po pn pc] := hp 6 (by decide) (fun _ h9 => absurd h9.2 (by decide))
      have h7 : vs 25 = .agg #[.int .i64 1, .int .i64 3, .slice ho hn hc] := hp 7 (by decide) (fun _ h9 => absurd h9.2 (by decide))
      have h8 : vs 26 = .int .i64 z := hp 8 (by decide) (fun _ h9 => absurd h9.2 (by decide))
      have h9 : vs 27 = .int .i64 r := hp 9 (by decide) (fun _ h9 => absurd h9.2 (by decide))
      have h14 : vs 32 = .int .i64 g := hp 14 (by decide) (fun _ h9 => absurd h9.2 (by decide))
      exact wpOp_of _ rfl rfl (op_call_ttttt enters_upd rfl h6 h7 h8 h9 h14 (hU w hb) (by rintro e b ⟨va, vb, rfl, s1, s2, n1, n2, b'⟩; have hl1 := s1.lt z_X; have hl2 := s2.lt z_P; obtain ⟨o1, c1, rfl⟩ := s1.slice; obtain ⟨o2, c2, rfl⟩ := s2.slice; exact ⟨_, rfl, _, fun q => (Value.slice o1 X.length c1).ownBlock = some q ∨ (Value.slice o2 P.length c2).ownBlock = some q, rfl, ⟨o1, c1, o2, c2, rfl, s1, s2, fun q hq => .inl (.inl hq), fun q hq => .inl (.inr hq)⟩, fun q hq => hq.elim (fun h => .inr ⟨n1 q h, hl1 q h⟩) (fun h => .inr ⟨n2 q h, hl2 q h⟩), fun h => (by obtain ⟨s9, h9⟩ := h; exact absurd h9.2 (by decide)), Mod.of b', trivial⟩))
    · obtain ⟨o15, p15, q15, r15, h15, s15, t15, k15, l15⟩ : TV2 0 w0.heap.size (fun s t => .tuple #[.agg #[.int .i64 3, .int .i64 1, s, .int .i64 3, .int .i64 3, t], .bool tk, .bool od, .int .i64 0]) X P (vs 33) (S 15) w := hp 15 (by decide) (fun _ h9 => absurd h9.2 (by decide))
      exact wpOp_of _ rfl rfl (op_move rfl h15 ⟨_, S 15, rfl, ⟨o15, p15, q15, r15, rfl, s15, t15, k15, l15⟩, fun q hq => .inl ⟨15, by decide, fun _ h9 => absurd h9.2 (by decide), hq⟩, fun h => (by obtain ⟨s9, h9⟩ := h; exact absurd h9.2 (by decide)), Mod.refl _ _, hI⟩)
    · obtain ⟨o16, p16, q16, r16, h16, s16, t16, k16, l16⟩ : TV2 0 w0.heap.size (fun s t => .tuple #[.agg #[.int .i64 3, .int .i64 1, s, .int .i64 3, .int .i64 3, t], .bool tk, .bool od, .int .i64 0]) X P (vs 17) (S 16) w := hp 16 (by decide) (fun _ h9 => absurd h9.2 (by decide))
      exact wpOp_of _ rfl rfl (op_extract rfl h16 rfl ⟨_, S 16, rfl, ⟨o16, p16, q16, r16, rfl, s16, t16, k16, l16⟩, fun q hq => .inl ⟨16, by decide, fun _ h9 => absurd h9.2 (by decide), hq⟩, fun h => (by obtain ⟨s9, h9⟩ := h; exact absurd h9.2 (by decide)), Mod.refl _ _, hI⟩)
    · obtain ⟨o16, p16, q16, r16, h16, s16, t16, k16, l16⟩ : TV2 0 w0.heap.size (fun s t => .tuple #[.agg #[.int .i64 3, .int .i64 1, s, .int .i64 3, .int .i64 3, t], .bool tk, .bool od, .int .i64 0]) X P (vs 17) (S 16) w := hp 16 (by decide) (fun _ h9 => absurd h9.2 (by decide))
      exact wpOp_of _ rfl rfl (op_extract rfl h16 rfl ⟨_, fun _ => False, rfl, rfl, fun _ h => h.elim, fun h => (by obtain ⟨s9, h9⟩ := h; exact absurd h9.2 (by decide)), Mod.refl _ _, hI⟩)
    · obtain ⟨o16, p16, q16, r16, h16, s16, t16, k16, l16⟩ : TV2 0 w0.heap.size (fun s t => .tuple #[.agg #[.int .i64 3, .int .i64 1, s, .int .i64 3, .int .i64 3, t], .bool tk, .bool od, .int .i64 0]) X P (vs 17) (S 16) w := hp 16 (by decide) (fun _ h9 => absurd h9.2 (by decide))
      exact wpOp_of _ rfl rfl (op_extract rfl h16 rfl ⟨_, fun _ => False, rfl, rfl, fun _ h => h.elim, fun h => (by obtain ⟨s9, h9⟩ := h; exact absurd h9.2 (by decide)), Mod.refl _ _, hI⟩)
    · obtain ⟨o16, p16, q16, r16, h16, s16, t16, k16, l16⟩ : TV2 0 w0.heap.size (fun s t => .tuple #[.agg #[.int .i64 3, .int .i64 1, s, .int .i64 3, .int .i64 3, t], .bool tk, .bool od, .int .i64 0]) X P (vs 17) (S 16) w := hp 16 (by decide) (fun _ h9 => absurd h9.2 (by decide))
      exact wpOp_of _ rfl rfl (op_extract rfl h16 rfl ⟨_, fun _ => False, rfl, rfl, fun _ h => h.elim, fun h => (by obtain ⟨s9, h9⟩ := h; exact absurd h9.2 (by decide)), Mod.refl _ _, hI⟩)
    · exact wpOp_of _ rfl rfl (op_alloc26 rfl ⟨_, fun b => b = w.heap.size, rfl, ⟨_, rfl, rfl, hb.size, heap_new _ _⟩, fun b h => .inr (by subst h; simp), fun _ b h => by omega, Mod.of ((Below.refl _ w).alloc (Nat.le_refl _) _), trivial⟩)
    · obtain ⟨D, hD, hSD, hBD, hbl⟩ : TP w0.heap.size #[.int .i64 0, .int .i64 0, .slice none 0 0, .int .i64 0, .int .i64 0, .slice none 0 0] 31 (vs 11) (S 21) w := hp 21 (by decide) (fun _ h9 => h9.1)
      obtain ⟨o17, p17, q17, r17, h17, s17, t17, k17, l17⟩ : TV2 0 w0.heap.size (fun s t => .agg #[.int .i64 3, .int .i64 1, s, .int .i64 3, .int .i64 3, t]) X P (vs 34) (S 17) w := hp 17 (by decide) (fun _ h9 => absurd h9.2 (by decide))
      have hne : ∀ v, OkS 0 w0.heap.size (S 17) v → ∀ q, v.ownBlock = some q → q ≠ D := fun v hv q hq e => (hv q hq).elim (fun h => hkl 21 ⟨rfl, rfl⟩ 17 (by decide) (by decide) D hSD (e ▸ h)) (fun h => by omega)
      refine wpOp_of _ rfl rfl (op_storeT rfl rfl hD h17 hbl ?_)
      exact ⟨undef, fun q => q = D ∨ S 17 q, rfl, ⟨D, o17, p17, q17, r17, hD, .inl rfl, hBD, put_six hbl, s17.six (hne _ k17) _ _ _ _ _ _, t17.six (hne _ l17) _ _ _ _ _ _, fun q hq => (k17 q hq).imp .inr id, fun q hq => (l17 q hq).imp .inr id⟩, fun q hq => hq.elim (fun h => .inl ⟨21, by decide, fun _ h9 => h9.1, h ▸ hSD⟩) (fun h => .inl ⟨17, by decide, fun _ h9 => absurd h9.2 (by decide), h⟩), fun h => (by obtain ⟨s9, h9⟩ := h; exact absurd h9.2 (by decide)), (mod_six _ _ _ _ _ _).mono fun q _ hq => .inr ⟨21, ⟨rfl, rfl⟩, hq ▸ hSD⟩, trivial⟩
    · have h18 : vs 35 = .bool tk := hp 18 (by decide) (fun _ h9 => absurd h9.2 (by decide))
      exact wpOp_of _ rfl rfl (op_assign rfl h18 ⟨_, fun _ => False, rfl, rfl, fun _ h => h.elim, fun h => (by obtain ⟨s9, h9⟩ := h; exact absurd h9.2 (by decide)), Mod.refl _ _, hI⟩)
    · have h19 : vs 36 = .bool od := hp 19 (by decide) (fun _ h9 => absurd h9.2 (by decide))
      exact wpOp_of _ rfl rfl (op_assign rfl h19 ⟨_, fun _ => False, rfl, rfl, fun _ h => h.elim, fun h => (by obtain ⟨s9, h9⟩ := h; exact absurd h9.2 (by decide)), Mod.refl _ _, hI⟩)
    · have h20 : vs 37 = .int .i64 0 := hp 20 (by decide) (fun _ h9 => absurd h9.2 (by decide))
      exact wpOp_of _ rfl rfl (op_assign rfl h20 ⟨_, fun _ => False, rfl, rfl, fun _ h => h.elim, fun h => (by obtain ⟨s9, h9⟩ := h; exact absurd h9.2 (by decide)), Mod.refl _ _, hI⟩)
  · intro vs w S L hall hI hb hSz hT
    obtain ⟨D, ao, ac, bo, bc, g1, _, g3, g4, g5, g6, g7, g8⟩ : TP2 w0.heap.size 0 w0.heap.size (fun s t => #[.int .i64 3, .int .i64 1, s, .int .i64 3, .int .i64 3, t]) X P 31 (vs 11) (S 22) w := hT 22 (by decide) (fun s h => by omega)
    exact hQ vs D ao ac bo bc w hb g1 g3 g4 g5 g6 (fun q hq => (g7 q hq).elim (fun h => (hSz 22 (by decide) q h).2) (fun h => absurd h.1 (Nat.not_lt_zero _))) (fun q hq => (g8 q hq).elim (fun h => (hSz 22 (by decide) q h).2) (fun h => absurd h.1 (Nat.not_lt_zero _))) (hT 23 (by decide) (fun s h => by omega)) (hT 24 (by decide) (fun s h => by omega))
def up3Ops : Array Oper := #[
 ⟨some 41, .move (.tmp 0), 96, "est.go:201", #[], none⟩,
 ⟨some 42, .move (.tmp 1), 3, "est.go:201", #[], none⟩,
 ⟨some 43, .load 31 (.tmp 11), 31, "est.go:201", #[], none⟩,
 ⟨some 44, .nilCheck (.tmp 41), 0, "est.go:201", #[eD 0], none⟩,
 ⟨some 45, .fieldAddr 66 (.tmp 44) 2, 0, "est.go:201", #[eD 3], none⟩,
 ⟨some 46, .fieldAddr 35 (.tmp 45) 1, 0, "est.go:201", #[eD 4], none⟩,
 ⟨some 47, .indexAddr 32 (.tmp 46) (.tmp 42), 0, "est.go:201", #[eD 5, eD 1, eP 0, eP 1, eP 2], none⟩,
 ⟨none, .store 31 (.tmp 47) (.tmp 43), 0, "est.go:201", #[eD 6, eD 2, eP 0, eP 1, eP 2], none⟩]
def up3Dst (i : Nat) : Nat := [41, 42, 43, 44, 45, 46, 47, 1007].getD i 0
def up3Fr (W : Nat) (D11 : Nat) (i : Nat) (u2 u3 u4 u5 u6 u7 u8 u9 u10 u12 u13 u14 u15 u16 u17 u18 u19 u20 u21 u22 u23 u24 u25 u26 u27 u28 u29 u30 u31 u32 u33 u34 u35 u36 u37 u38 u39 u40 u48 u49 u50 u51 u52 u53 u54 u55 u56 u57 u58 u59 u60 u61 u62 u63 : Value) (vs : Nat → Value) : Act := ⟨#[.pointer (some ⟨W, 0, none⟩), .int .i64 (i : Nat), u2, u3, u4, u5, u6, u7, u8, u9, u10, .pointer (some ⟨D11, 0, none⟩), u12, u13, u14, u15, u16, u17, u18, u19, u20, u21, u22, u23, u24, u25, u26, u27, u28, u29, u30, u31, u32, u33, u34, u35, u36, u37, u38, u39, u40, vs 41, vs 42, vs 43, vs 44, vs 45, vs 46, vs 47, u48, u49, u50, u51, u52, u53, u54, u55, u56, u57, u58, u59, u60, u61, u62, u63], []⟩
def up3T (W : Nat) (i : Nat) (xo : Option Addr) (xn : Nat) (xc : Nat) (po : Option Addr) (pn : Nat) (pc : Nat) : Nat → Value → Value → (Nat → Prop) → World → Prop
  | 0, v, _, _, _ => v = .pointer (some ⟨W, 0, none⟩)
  | 1, v, _, _, _ => v = .int .i64 (i : Nat)
  | 2, v, _, _, _ => v = .agg #[.int .i64 3, .int .i64 1, .slice xo xn xc, .int .i64 3, .int .i64 3, .slice po pn pc]
  | 3, v, _, _, _ => v = .pointer (some ⟨W, 0, none⟩)
  | 4, v, _, _, _ => v = .pointer (some ⟨W, 19, none⟩)
  | 5, v, _, _, _ => v = .pointer (some ⟨W, 23, none⟩)
  | 6, v, _, _, _ => v = .pointer (some ⟨W, 23 + 6 * i, none⟩)
  | 7, _, _, _, _ => True
  | _, _, _, _, _ => True
set_option maxRecDepth 40000 in
set_option maxHeartbeats 1600000 in
theorem up3_region {Q : Exit → Act → World → Prop} {w0 : World} {W : Nat} {D11 : Nat} {i : Nat} {xo : Option Addr} {xn : Nat} {xc : Nat} {po : Option Addr} {pn : Nat} {pc : Nat} {J : Bool → World → Prop} {u2 u3 u4 u5 u6 u7 u8 u9 u10 u12 u13 u14 u15 u16 u17 u18 u19 u20 u21 u22 u23 u24 u25 u26 u27 u28 u29 u30 u31 u32 u33 u34 u35 u36 u37 u38 u39 u40 u48 u49 u50 u51 u52 u53 u54 u55 u56 u57 u58 u59 u60 u61 u62 u63 : Value}
    (hsh : ∀ k, k = W → k < w0.heap.size) (hJ0 : J false w0.drew) (hi3 : i < 3)
    (hD : ∀ w, Mod (fun k => k = W) w0 w → w.cell? ⟨D11, 0, none⟩ = some (.int .i64 3) ∧ w.cell? ⟨D11, 0 + 1, none⟩ = some (.int .i64 1) ∧ w.cell? ⟨D11, 0 + 2, none⟩ = some (.slice xo xn xc) ∧ w.cell? ⟨D11, 0 + 3, none⟩ = some (.int .i64 3) ∧ w.cell? ⟨D11, 0 + 4, none⟩ = some (.int .i64 3) ∧ w.cell? ⟨D11, 0 + 5, none⟩ = some (.slice po pn pc))
    (hst : ∀ w, J false w → Mod (fun k => k = W) w0 w → (∃ x0 x1 x2 x3 x4 x5, w.cell? ⟨W, 23 + 6 * i, none⟩ = some x0 ∧ w.cell? ⟨W, 23 + 6 * i + 1, none⟩ = some x1 ∧ w.cell? ⟨W, 23 + 6 * i + 2, none⟩ = some x2 ∧ w.cell? ⟨W, 23 + 6 * i + 3, none⟩ = some x3 ∧ w.cell? ⟨W, 23 + 6 * i + 4, none⟩ = some x4 ∧ w.cell? ⟨W, 23 + 6 * i + 5, none⟩ = some x5) ∧ (∀ k, w.frozen? ⟨W, k, none⟩ = false) ∧ J true ((((((w.setCell ⟨W, 23 + 6 * i, none⟩ (.int .i64 3)).setCell ⟨W, 23 + 6 * i + 1, none⟩ (.int .i64 1)).setCell ⟨W, 23 + 6 * i + 2, none⟩ (.slice xo xn xc)).setCell ⟨W, 23 + 6 * i + 3, none⟩ (.int .i64 3)).setCell ⟨W, 23 + 6 * i + 4, none⟩ (.int .i64 3)).setCell ⟨W, 23 + 6 * i + 5, none⟩ (.slice po pn pc)))
    (hQ : ∀ vs  w, Mod (fun k => k = W) w0 w → J true w → Q .normal (up3Fr W D11 i u2 u3 u4 u5 u6 u7 u8 u9 u10 u12 u13 u14 u15 u16 u17 u18 u19 u20 u21 u22 u23 u24 u25 u26 u27 u28 u29 u30 u31 u32 u33 u34 u35 u36 u37 u38 u39 u40 u48 u49 u50 u51 u52 u53 u54 u55 u56 u57 u58 u59 u60 u61 u62 u63 vs) w) :
    (Code.region 3 up3Ops true).wp Tryz.prog Q (up3Fr W D11 i u2 u3 u4 u5 u6 u7 u8 u9 u10 u12 u13 u14 u15 u16 u17 u18 u19 u20 u21 u22 u23 u24 u25 u26 u27 u28 u29 u30 u31 u32 u33 u34 u35 u36 u37 u38 u39 u40 u48 u49 u50 u51 u52 u53 u54 u55 u56 u57 u58 u59 u60 u61 u62 u63 (fun _ => undef)) w0 := by
  refine wp_region_sh (by kernel_rfl) (by decide) up3Dst (by decide) (up3Fr W D11 i u2 u3 u4 u5 u6 u7 u8 u9 u10 u12 u13 u14 u15 u16 u17 u18 u19 u20 u21 u22 u23 u24 u25 u26 u27 u28 u29 u30 u31 u32 u33 u34 u35 u36 u37 u38 u39 u40 u48 u49 u50 u51 u52 u53 u54 u55 u56 u57 u58 u59 u60 u61 u62 u63) (fun _ => undef) (fun i => i) (by decide) (fun k => k = W) hsh (fun L w => J (L 7) w) hJ0
    (fun _ _ => False) (fun s j h => h.elim) (fun s s2 j h => h.elim) (up3T W i xo xn xc po pn pc) ?_ ?_ ?_
  · intro i v u S w w' hi h hw hw' hz hS
    have hi' : i < 8 := hi
    rcases (by omega : i = 0 ∨ i = 1 ∨ i = 2 ∨ i = 3 ∨ i = 4 ∨ i = 5 ∨ i = 6 ∨ i = 7) with rfl | rfl | rfl | rfl | rfl | rfl | rfl | rfl
    · exact h
    · exact h
    · exact h
    · exact h
    · exact h
    · exact h
    · exact h
    · exact h
  · intro i hi L vs w S hb hI hL hpr hsu hp hbd hkl _
    have hi' : i < 8 := hi
    rcases (by omega : i = 0 ∨ i = 1 ∨ i = 2 ∨ i = 3 ∨ i = 4 ∨ i = 5 ∨ i = 6 ∨ i = 7) with rfl | rfl | rfl | rfl | rfl | rfl | rfl | rfl
    · exact wpOp_of _ rfl rfl (op_move rfl rfl ⟨_, fun _ => False, rfl, rfl, fun _ h => h.elim, fun h => h.elim fun _ h9 => h9.elim, Mod.refl _ _, hI⟩)
    · exact wpOp_of _ rfl rfl (op_move rfl rfl ⟨_, fun _ => False, rfl, rfl, fun _ h => h.elim, fun h => h.elim fun _ h9 => h9.elim, Mod.refl _ _, hI⟩)
    · exact wpOp_of _ rfl rfl (op_ldTrack rfl rfl ((hD w hb).1) ((hD w hb).2.1) ((hD w hb).2.2.1) ((hD w hb).2.2.2.1) ((hD w hb).2.2.2.2.1) ((hD w hb).2.2.2.2.2) ⟨_, fun _ => False, rfl, rfl, fun _ h => h.elim, fun h => h.elim fun _ h9 => h9.elim, Mod.refl _ _, hI⟩)
    · have h0 : vs 41 = .pointer (some ⟨W, 0, none⟩) := hp 0 (by decide) (fun _ h9 => h9.elim)
      exact wpOp_of _ rfl rfl (op_nil rfl h0 ⟨_, fun _ => False, rfl, rfl, fun _ h => h.elim, fun h => h.elim fun _ h9 => h9.elim, Mod.refl _ _, hI⟩)
    · have h3 : vs 44 = .pointer (some ⟨W, 0, none⟩) := hp 3 (by decide) (fun _ h9 => h9.elim)
      exact wpOp_of _ rfl rfl (op_fwork2 rfl h3 ⟨_, fun _ => False, rfl, rfl, fun _ h => h.elim, fun h => h.elim fun _ h9 => h9.elim, Mod.refl _ _, hI⟩)
    · have h4 : vs 45 = .pointer (some ⟨W, 19, none⟩) := hp 4 (by decide) (fun _ h9 => h9.elim)
      exact wpOp_of _ rfl rfl (op_fEst1 rfl h4 ⟨_, fun _ => False, rfl, rfl, fun _ h => h.elim, fun h => h.elim fun _ h9 => h9.elim, Mod.refl _ _, hI⟩)
    · have h5 : vs 46 = .pointer (some ⟨W, 23, none⟩) := hp 5 (by decide) (fun _ h9 => h9.elim)
      have h1 : vs 42 = .int .i64 (i : Nat) := hp 1 (by decide) (fun _ h9 => h9.elim)
      exact wpOp_of _ rfl rfl (op_ixAx hi3 rfl h5 h1 ⟨_, fun _ => False, rfl, rfl, fun _ h => h.elim, fun h => h.elim fun _ h9 => h9.elim, Mod.refl _ _, hI⟩)
    · have h6 : vs 47 = .pointer (some ⟨W, 23 + 6 * i, none⟩) := hp 6 (by decide) (fun _ h9 => h9.elim)
      have h2 : vs 43 = .agg #[.int .i64 3, .int .i64 1, .slice xo xn xc, .int .i64 3, .int .i64 3, .slice po pn pc] := hp 2 (by decide) (fun _ h9 => h9.elim)
      have hJ : J false w := by
        have h : J (L 7) w := hI
        rw [hL] at h; exact h
      obtain ⟨⟨x0, x1, x2, x3, x4, x5, y0, y1, y2, y3, y4, y5⟩, ef, ej⟩ := hst w hJ hb
      exact wpOp_of _ rfl rfl (op_stTrackAt rfl rfl h6 h2 y0 y1 y2 y3 y4 y5 (ef _) (ef _) (ef _) (ef _) (ef _) (ef _) ⟨undef, fun _ => False, rfl, trivial, fun _ h => h.elim, fun h => h.elim fun _ h9 => h9.elim, (((((mod_set.trans mod_set).trans mod_set).trans mod_set).trans mod_set).trans mod_set).mono fun q _ hq => .inl hq, ej⟩)
  · intro vs w S L hall hI hb hSz hT
    have hIe : J true w := by
      have hI' : J (L 7) w := hI
      rw [hall 7 (by decide)] at hI'
      exact hI'
    exact hQ vs  w hb hIe 
def up4Ops : Array Oper := #[
 ⟨some 48, .move (.tmp 0), 96, "est.go:202", #[], none⟩,
 ⟨some 49, .move (.tmp 2), 3, "est.go:202", #[], none⟩,
 ⟨some 50, .move (.tmp 0), 96, "est.go:202", #[], none⟩,
 ⟨some 51, .move (.tmp 2), 3, "est.go:202", #[], none⟩,
 ⟨some 52, .nilCheck (.tmp 50), 0, "est.go:202", #[eD 2], none⟩,
 ⟨some 53, .fieldAddr 66 (.tmp 52) 2, 0, "est.go:202", #[eD 4], none⟩,
 ⟨some 54, .fieldAddr 35 (.tmp 53) 4, 0, "est.go:202", #[eD 5], none⟩,
 ⟨some 55, .indexAddr 33 (.tmp 54) (.tmp 51), 0, "est.go:202", #[eD 6, eD 3], none⟩,
 ⟨some 56, .load 3 (.tmp 55), 3, "est.go:202", #[eD 7], none⟩,
 ⟨some 57, .move (.tmp 12), 4, "est.go:202", #[], none⟩,
 ⟨some 58, .unOp .not 4 (.tmp 57), 4, "est.go:202", #[eD 9], none⟩,
 ⟨some 59, .call ⟨.value (.func 70), #[.tmp 56, .tmp 58], #[3, 4]⟩, 3, "est.go:202", #[eD 8, eD 10], none⟩,
 ⟨some 60, .nilCheck (.tmp 48), 0, "est.go:202", #[eD 0], none⟩,
 ⟨some 61, .fieldAddr 66 (.tmp 60) 2, 0, "est.go:202", #[eD 12], none⟩,
 ⟨some 62, .fieldAddr 35 (.tmp 61) 4, 0, "est.go:202", #[eD 13], none⟩,
 ⟨some 63, .indexAddr 33 (.tmp 62) (.tmp 49), 0, "est.go:202", #[eD 14, eD 1, eP 0, eP 1, eP 2, eP 3, eP 4, eP 5, eP 6, eP 7, eP 8, eP 9, eP 10, eP 11], none⟩,
 ⟨none, .store 3 (.tmp 63) (.tmp 59), 0, "est.go:202", #[eD 15, eD 11, eC 11, eP 0, eP 1, eP 2, eP 3, eP 4, eP 5, eP 6, eP 7, eP 8, eP 9, eP 10, eP 11], none⟩]
def up4Dst (i : Nat) : Nat := [48, 49, 50, 51, 52, 53, 54, 55, 56, 57, 58, 59, 60, 61, 62, 63, 1016].getD i 0
def up4Fr (W : Nat) (k : Nat) (tk : Bool) (u1 u3 u4 u5 u6 u7 u8 u9 u10 u11 u13 u14 u15 u16 u17 u18 u19 u20 u21 u22 u23 u24 u25 u26 u27 u28 u29 u30 u31 u32 u33 u34 u35 u36 u37 u38 u39 u40 u41 u42 u43 u44 u45 u46 u47 : Value) (vs : Nat → Value) : Act := ⟨#[.pointer (some ⟨W, 0, none⟩), u1, .int .i64 (k : Nat), u3, u4, u5, u6, u7, u8, u9, u10, u11, .bool tk, u13, u14, u15, u16, u17, u18, u19, u20, u21, u22, u23, u24, u25, u26, u27, u28, u29, u30, u31, u32, u33, u34, u35, u36, u37, u38, u39, u40, u41, u42, u43, u44, u45, u46, u47, vs 48, vs 49, vs 50, vs 51, vs 52, vs 53, vs 54, vs 55, vs 56, vs 57, vs 58, vs 59, vs 60, vs 61, vs 62, vs 63], []⟩
def up4T (W : Nat) (k : Nat) (n : Int) (m : Int) (tk : Bool) : Nat → Value → Value → (Nat → Prop) → World → Prop
  | 0, v, _, _, _ => v = .pointer (some ⟨W, 0, none⟩)
  | 1, v, _, _, _ => v = .int .i64 (k : Nat)
  | 2, v, _, _, _ => v = .pointer (some ⟨W, 0, none⟩)
  | 3, v, _, _, _ => v = .int .i64 (k : Nat)
  | 4, v, _, _, _ => v = .pointer (some ⟨W, 0, none⟩)
  | 5, v, _, _, _ => v = .pointer (some ⟨W, 19, none⟩)
  | 6, v, _, _, _ => v = .pointer (some ⟨W, 43, none⟩)
  | 7, v, _, _, _ => v = .pointer (some ⟨W, 43 + k, none⟩)
  | 8, v, _, _, _ => v = .int .i64 n
  | 9, v, _, _, _ => v = .bool tk
  | 10, v, _, _, _ => v = .bool (!tk)
  | 11, v, _, _, _ => v = .int .i64 m
  | 12, v, _, _, _ => v = .pointer (some ⟨W, 0, none⟩)
  | 13, v, _, _, _ => v = .pointer (some ⟨W, 19, none⟩)
  | 14, v, _, _, _ => v = .pointer (some ⟨W, 43, none⟩)
  | 15, v, _, _, _ => v = .pointer (some ⟨W, 43 + k, none⟩)
  | 16, _, _, _, _ => True
  | _, _, _, _, _ => True
set_option maxRecDepth 40000 in
set_option maxHeartbeats 1600000 in
theorem up4_region {Q : Exit → Act → World → Prop} {w0 : World} {W : Nat} {k : Nat} {n : Int} {m : Int} {tk : Bool} {J : Bool → World → Prop} {u1 u3 u4 u5 u6 u7 u8 u9 u10 u11 u13 u14 u15 u16 u17 u18 u19 u20 u21 u22 u23 u24 u25 u26 u27 u28 u29 u30 u31 u32 u33 u34 u35 u36 u37 u38 u39 u40 u41 u42 u43 u44 u45 u46 u47 : Value}
    (hsh : ∀ q, q = W → q < w0.heap.size) (hJ0 : J false w0.drew) (hk4 : k < 4) (lo : ∀ b w, J b w → w.cell? ⟨W, 43 + k, none⟩ = some (.int .i64 (if b then m else n)))
    (hJs : ∀ b w w', J b w → Mod (fun q => w0.heap.size ≤ q) w w' → J b w')
    (hE : ∀ w, Calls Tryz.prog 70 #[.int .i64 n, .bool (!tk)] w fun e b => e = .returned (.int .i64 m) ∧ Below w.heap.size w b)
    (hst : ∀ w, J false w → (∀ q, w.frozen? ⟨W, q, none⟩ = false) ∧ J true (w.setCell ⟨W, 43 + k, none⟩ (.int .i64 m)))
    (hQ : ∀ vs  w, Mod (fun q => q = W) w0 w → J true w → Q .normal (up4Fr W k tk u1 u3 u4 u5 u6 u7 u8 u9 u10 u11 u13 u14 u15 u16 u17 u18 u19 u20 u21 u22 u23 u24 u25 u26 u27 u28 u29 u30 u31 u32 u33 u34 u35 u36 u37 u38 u39 u40 u41 u42 u43 u44 u45 u46 u47 vs) w) :
    (Code.region 4 up4Ops true).wp Tryz.prog Q (up4Fr W k tk u1 u3 u4 u5 u6 u7 u8 u9 u10 u11 u13 u14 u15 u16 u17 u18 u19 u20 u21 u22 u23 u24 u25 u26 u27 u28 u29 u30 u31 u32 u33 u34 u35 u36 u37 u38 u39 u40 u41 u42 u43 u44 u45 u46 u47 (fun _ => undef)) w0 := by
  refine wp_region_sh (by kernel_rfl) (by decide) up4Dst (by decide) (up4Fr W k tk u1 u3 u4 u5 u6 u7 u8 u9 u10 u11 u13 u14 u15 u16 u17 u18 u19 u20 u21 u22 u23 u24 u25 u26 u27 u28 u29 u30 u31 u32 u33 u34 u35 u36 u37 u38 u39 u40 u41 u42 u43 u44 u45 u46 u47) (fun _ => undef) (fun i => i) (by decide) (fun q => q = W) hsh (fun L w => J (L 16) w) hJ0
    (fun _ _ => False) (fun s j h => h.elim) (fun s s2 j h => h.elim) (up4T W k n m tk) ?_ ?_ ?_
  · intro i v u S w w' hi h hw hw' hz hS
    have hi' : i < 17 := hi
    rcases (by omega : i = 0 ∨ i = 1 ∨ i = 2 ∨ i = 3 ∨ i = 4 ∨ i = 5 ∨ i = 6 ∨ i = 7 ∨ i = 8 ∨ i = 9 ∨ i = 10 ∨ i = 11 ∨ i = 12 ∨ i = 13 ∨ i = 14 ∨ i = 15 ∨ i = 16) with rfl | rfl | rfl | rfl | rfl | rfl | rfl | rfl | rfl | rfl | rfl | rfl | rfl | rfl | rfl | rfl | rfl
    · exact h
    · exact h
    · exact h
    · exact h
    · exact h
    · exact h
    · exact h
    · exact h
    · exact h
    · exact h
    · exact h
    · exact h
    · exact h
    · exact h
    · exact h
    · exact h
    · exact h
  · intro i hi L vs w S hb hI hL hpr hsu hp hbd hkl _
    have hi' : i < 17 := hi
    rcases (by omega : i = 0 ∨ i = 1 ∨ i = 2 ∨ i = 3 ∨ i = 4 ∨ i = 5 ∨ i = 6 ∨ i = 7 ∨ i = 8 ∨ i = 9 ∨ i = 10 ∨ i = 11 ∨ i = 12 ∨ i = 13 ∨ i = 14 ∨ i = 15 ∨ i = 16) with rfl | rfl | rfl | rfl | rfl | rfl | rfl | rfl | rfl | rfl | rfl | rfl | rfl | rfl | rfl | rfl | rfl
    · exact wpOp_of _ rfl rfl (op_move rfl rfl ⟨_, fun _ => False, rfl, rfl, fun _ h => h.elim, fun h => h.elim fun _ h9 => h9.elim, Mod.refl _ _, hI⟩)
    · exact wpOp_of _ rfl rfl (op_move rfl rfl ⟨_, fun _ => False, rfl, rfl, fun _ h => h.elim, fun h => h.elim fun _ h9 => h9.elim, Mod.refl _ _, hI⟩)
    · exact wpOp_of _ rfl rfl (op_move rfl rfl ⟨_, fun _ => False, rfl, rfl, fun _ h => h.elim, fun h => h.elim fun _ h9 => h9.elim, Mod.refl _ _, hI⟩)
    · exact wpOp_of _ rfl rfl (op_move rfl rfl ⟨_, fun _ => False, rfl, rfl, fun _ h => h.elim, fun h => h.elim fun _ h9 => h9.elim, Mod.refl _ _, hI⟩)
    · have h2 : vs 50 = .pointer (some ⟨W, 0, none⟩) := hp 2 (by decide) (fun _ h9 => h9.elim)
      exact wpOp_of _ rfl rfl (op_nil rfl h2 ⟨_, fun _ => False, rfl, rfl, fun _ h => h.elim, fun h => h.elim fun _ h9 => h9.elim, Mod.refl _ _, hI⟩)
    · have h4 : vs 52 = .pointer (some ⟨W, 0, none⟩) := hp 4 (by decide) (fun _ h9 => h9.elim)
      exact wpOp_of _ rfl rfl (op_fwork2 rfl h4 ⟨_, fun _ => False, rfl, rfl, fun _ h => h.elim, fun h => h.elim fun _ h9 => h9.elim, Mod.refl _ _, hI⟩)
    · have h5 : vs 53 = .pointer (some ⟨W, 19, none⟩) := hp 5 (by decide) (fun _ h9 => h9.elim)
      exact wpOp_of _ rfl rfl (op_fEst4 rfl h5 ⟨_, fun _ => False, rfl, rfl, fun _ h => h.elim, fun h => h.elim fun _ h9 => h9.elim, Mod.refl _ _, hI⟩)
    · have h6 : vs 54 = .pointer (some ⟨W, 43, none⟩) := hp 6 (by decide) (fun _ h9 => h9.elim)
      have h3 : vs 51 = .int .i64 (k : Nat) := hp 3 (by decide) (fun _ h9 => h9.elim)
      exact wpOp_of _ rfl rfl (op_ixOff hk4 rfl h6 h3 ⟨_, fun _ => False, rfl, rfl, fun _ h => h.elim, fun h => h.elim fun _ h9 => h9.elim, Mod.refl _ _, hI⟩)
    · have h7 : vs 55 = .pointer (some ⟨W, 43 + k, none⟩) := hp 7 (by decide) (fun _ h9 => h9.elim)
      have hLf := hsu 16 (by decide) (by decide)
      have hJ : J false w := by
        have h : J (L 16) w := hI
        rw [hLf] at h; exact h
      exact wpOp_of _ rfl rfl (op_ldint rfl h7 (lo _ w hJ) ⟨_, fun _ => False, rfl, rfl, fun _ h => h.elim, fun h => h.elim fun _ h9 => h9.elim, Mod.refl _ _, hI⟩)
    · exact wpOp_of _ rfl rfl (op_move rfl rfl ⟨_, fun _ => False, rfl, rfl, fun _ h => h.elim, fun h => h.elim fun _ h9 => h9.elim, Mod.refl _ _, hI⟩)
    · have h9 : vs 57 = .bool tk := hp 9 (by decide) (fun _ h9 => h9.elim)
      exact wpOp_of _ rfl rfl (op_notB rfl h9 ⟨_, fun _ => False, rfl, rfl, fun _ h => h.elim, fun h => h.elim fun _ h9 => h9.elim, Mod.refl _ _, hI⟩)
    · have h8 : vs 56 = .int .i64 n := hp 8 (by decide) (fun _ h9 => h9.elim)
      have h10 : vs 58 = .bool (!tk) := hp 10 (by decide) (fun _ h9 => h9.elim)
      exact wpOp_of _ rfl rfl (op_call_tt enters_onEnd rfl h8 h10 (hE w) (by rintro e b ⟨rfl, b'⟩; exact ⟨_, rfl, _, fun _ => False, rfl, rfl, fun _ h => h.elim, fun h => h.elim fun _ h9 => h9.elim, Mod.of b', (hJs _ _ _ hI (Mod.of b'))⟩))
    · have h0 : vs 48 = .pointer (some ⟨W, 0, none⟩) := hp 0 (by decide) (fun _ h9 => h9.elim)
      exact wpOp_of _ rfl rfl (op_nil rfl h0 ⟨_, fun _ => False, rfl, rfl, fun _ h => h.elim, fun h => h.elim fun _ h9 => h9.elim, Mod.refl _ _, hI⟩)
    · have h12 : vs 60 = .pointer (some ⟨W, 0, none⟩) := hp 12 (by decide) (fun _ h9 => h9.elim)
      exact wpOp_of _ rfl rfl (op_fwork2 rfl h12 ⟨_, fun _ => False, rfl, rfl, fun _ h => h.elim, fun h => h.elim fun _ h9 => h9.elim, Mod.refl _ _, hI⟩)
    · have h13 : vs 61 = .pointer (some ⟨W, 19, none⟩) := hp 13 (by decide) (fun _ h9 => h9.elim)
      exact wpOp_of _ rfl rfl (op_fEst4 rfl h13 ⟨_, fun _ => False, rfl, rfl, fun _ h => h.elim, fun h => h.elim fun _ h9 => h9.elim, Mod.refl _ _, hI⟩)
    · have h14 : vs 62 = .pointer (some ⟨W, 43, none⟩) := hp 14 (by decide) (fun _ h9 => h9.elim)
      have h1 : vs 49 = .int .i64 (k : Nat) := hp 1 (by decide) (fun _ h9 => h9.elim)
      exact wpOp_of _ rfl rfl (op_ixOff hk4 rfl h14 h1 ⟨_, fun _ => False, rfl, rfl, fun _ h => h.elim, fun h => h.elim fun _ h9 => h9.elim, Mod.refl _ _, hI⟩)
    · have h15 : vs 63 = .pointer (some ⟨W, 43 + k, none⟩) := hp 15 (by decide) (fun _ h9 => h9.elim)
      have h11 : vs 59 = .int .i64 m := hp 11 (by decide) (fun _ h9 => h9.elim)
      have hJ : J false w := by
        have h : J (L 16) w := hI
        rw [hL] at h; exact h
      obtain ⟨ef, ej⟩ := hst w hJ
      exact wpOp_of _ rfl rfl (op_stintAt rfl rfl h15 h11 (lo _ w hJ) (ef _) ⟨undef, fun _ => False, rfl, trivial, fun _ h => h.elim, fun h => h.elim fun _ h9 => h9.elim, mod_set.mono fun q _ hq => .inl hq, ej⟩)
  · intro vs w S L hall hI hb hSz hT
    have hIe : J true w := by
      have hI' : J (L 16) w := hI
      rw [hall 16 (by decide)] at hI'
      exact hI'
    exact hQ vs  w hb hIe 
end Go.Proofs.YtoefekkdjcflmaaGreatDoor.Et

