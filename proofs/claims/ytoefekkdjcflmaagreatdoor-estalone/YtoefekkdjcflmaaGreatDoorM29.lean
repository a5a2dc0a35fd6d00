/- Parts of the proof. -/
import Derived.Test.YtoefekkdjcflmaaGreatDoorM25
import Derived.Test.YtoefekkdjcflmaaGreatDoorM28
namespace Go.Proofs.YtoefekkdjcflmaaGreatDoor.Et
open Go.RowKit Go.Sort Go.Proofs.YtoefekkdjcflmaaGreatDoor.Qm
set_option linter.unusedVariables false
set_option maxRecDepth 40000 in
set_option maxHeartbeats 4000000 in
theorem pr1_seq {Q : Exit → Act → World → Prop} {w : World} {W : Nat} {v23 : Value} {v24 : Value} {v25 : Value} {v26 : Value} {v27 : Value} {v28 : Value} {v29 : Value} {v30 : Value} {v31 : Value} {v32 : Value} {v33 : Value} {v34 : Value} {v35 : Value} {v36 : Value} {v37 : Value} {v38 : Value} {v39 : Value} {v40 : Value} {u1 u2 u3 u4 u5 u6 u7 u8 u9 u10 u11 u12 u13 u14 u15 u16 u17 u18 u19 u20 u21 u22 u23 u24 u25 u26 u27 u28 u29 u30 u31 u32 u33 u34 u35 u36 u37 u38 u39 u40 u41 u42 u43 u44 u45 u46 u47 u48 : Value} (hr : ∀ j v, [v23, v24, v25, v26, v27, v28, v29, v30, v31, v32, v33, v34, v35, v36, v37, v38, v39, v40][j]? = some v → w.cell? ⟨W, 23 + j, none⟩ = some v)
    (hQ : Q .normal ⟨#[.pointer (some ⟨W, 0, none⟩), u1, u2, u3, u4, u5, u6, u7, u8, u9, u10, u11, u12, .pointer (some ⟨W, 0, none⟩), .pointer (some ⟨W, 0, none⟩), .pointer (some ⟨W, 19, none⟩), .pointer (some ⟨W, 23, none⟩), .agg #[v23, v24, v25, v26, v27, v28, v29, v30, v31, v32, v33, v34, v35, v36, v37, v38, v39, v40], .int .i64 0, u19, u20, u21, u22, u23, u24, u25, u26, u27, u28, u29, u30, u31, u32, u33, u34, u35, u36, u37, u38, u39, u40, u41, u42, u43, u44, u45, u46, u47, u48], []⟩ w) : (Code.region 1 #[
 ⟨some 13, .move (.tmp 0), 96, "est.go:131", #[], none⟩,
 ⟨some 14, .nilCheck (.tmp 13), 0, "est.go:131", #[eD 0], none⟩,
 ⟨some 15, .fieldAddr 66 (.tmp 14) 2, 0, "est.go:131", #[eD 1], none⟩,
 ⟨some 16, .fieldAddr 35 (.tmp 15) 1, 0, "est.go:131", #[eD 2], none⟩,
 ⟨some 17, .load 32 (.tmp 16), 32, "est.go:131", #[eD 3], none⟩,
 ⟨some 18, .move (.const (.int .i64 0)), 3, "est.go:131", #[], none⟩] false).wp Tryz.prog Q ⟨#[.pointer (some ⟨W, 0, none⟩), u1, u2, u3, u4, u5, u6, u7, u8, u9, u10, u11, u12, u13, u14, u15, u16, u17, u18, u19, u20, u21, u22, u23, u24, u25, u26, u27, u28, u29, u30, u31, u32, u33, u34, u35, u36, u37, u38, u39, u40, u41, u42, u43, u44, u45, u46, u47, u48], []⟩ w := by
  refine wp_region_list ?_
  refine wpList_plain rfl fun _ hK => op_move rfl rfl (hK _ _ ?_)
  refine wpList_plain rfl fun _ hK => op_nil rfl rfl (hK _ _ ?_)
  refine wpList_plain rfl fun _ hK => op_fwork2 rfl rfl (hK _ _ ?_)
  refine wpList_plain rfl fun _ hK => op_fEst1 rfl rfl (hK _ _ ?_)
  refine wpList_plain rfl fun _ hK => op_ldN (cs := [v23, v24, v25, v26, v27, v28, v29, v30, v31, v32, v33, v34, v35, v36, v37, v38, v39, v40]) rfl rfl (ag_Axes _) (sz_Axes _) hr (hK _ _ ?_)
  refine wpList_plain rfl fun _ hK => op_moveC rfl (hK _ _ ?_)
  exact hQ
set_option linter.unusedVariables false
theorem index_axes0 (a0 a1 a2 a3 a4 a5 a6 a7 a8 a9 a10 a11 a12 a13 a14 a15 a16 a17 : Value) (w : World) : Sem.run Tryz.prog (Instr.index 32 (.agg #[a0, a1, a2, a3, a4, a5, a6, a7, a8, a9, a10, a11, a12, a13, a14, a15, a16, a17]) (.int .i64 0)) w = .ok (.agg #[a0, a1, a2, a3, a4, a5]) w := by kernel_rfl
theorem index_axes1 (a0 a1 a2 a3 a4 a5 a6 a7 a8 a9 a10 a11 a12 a13 a14 a15 a16 a17 : Value) (w : World) : Sem.run Tryz.prog (Instr.index 32 (.agg #[a0, a1, a2, a3, a4, a5, a6, a7, a8, a9, a10, a11, a12, a13, a14, a15, a16, a17]) (.int .i64 1)) w = .ok (.agg #[a6, a7, a8, a9, a10, a11]) w := by kernel_rfl
theorem index_axes2 (a0 a1 a2 a3 a4 a5 a6 a7 a8 a9 a10 a11 a12 a13 a14 a15 a16 a17 : Value) (w : World) : Sem.run Tryz.prog (Instr.index 32 (.agg #[a0, a1, a2, a3, a4, a5, a6, a7, a8, a9, a10, a11, a12, a13, a14, a15, a16, a17]) (.int .i64 2)) w = .ok (.agg #[a12, a13, a14, a15, a16, a17]) w := by kernel_rfl
theorem index_vec0 (a0 a1 a2 : Value) (w : World) : Sem.run Tryz.prog (Instr.index 37 (.agg #[a0, a1, a2]) (.int .i64 0)) w = .ok (a0) w := by kernel_rfl
theorem index_vec1 (a0 a1 a2 : Value) (w : World) : Sem.run Tryz.prog (Instr.index 37 (.agg #[a0, a1, a2]) (.int .i64 1)) w = .ok (a1) w := by kernel_rfl
theorem index_vec2 (a0 a1 a2 : Value) (w : World) : Sem.run Tryz.prog (Instr.index 37 (.agg #[a0, a1, a2]) (.int .i64 2)) w = .ok (a2) w := by kernel_rfl
theorem Wk.range {n : Nat} {w : World} {W : Nat} {f : Nat → Value} (h : Wk n w W f) (o k : Nat) (hk : o + k ≤ n) : ∀ j v, ((List.range k).map fun j => f (o + j))[j]? = some v → w.cell? ⟨W, o + j, none⟩ = some v := fun j v hv => by
  rw [List.getElem?_map] at hv
  by_cases hj : j < k
  · rw [List.getElem?_range hj] at hv
    exact h.cell (by omega) (Option.some.inj hv)
  · rw [List.getElem?_eq_none (by simpa using hj)] at hv
    cases hv
def aX (s : Sg) (j : Nat) : List Int := spX (prX 3 (s.X j) (fmL (s.c 0))) (s.a j) (s.c 0)
def aP (s : Sg) (j : Nat) : List Int := prP 3 (s.P j) (fmL (s.c 0)) (qsL s)
def aF1 (s : Sg) (j : Nat) : Bool := prF 3 (s.X j) (s.P j) (fmL (s.c 0)) (qsL s)
def aF2 (s : Sg) (j : Nat) : Bool := mulB (s.a j) (s.c 0) || spB (prX 3 (s.X j) (fmL (s.c 0))) (s.a j) (s.c 0)
def aF (s : Sg) (j : Nat) : Bool := aF1 s j || aF2 s j
def prS (k : Nat) (s : Sg) : Sg := { s with X := fun j => if j < k then aX s j else s.X j, P := fun j => if j < k then aP s j else s.P j, sat := s.sat || anyB (aF s) k }
def nsS (s : Sg) : Sg := { s with sat := s.sat || mulB (s.c 1) (s.c 0) || mulB (s.c 2) (s.c 0) }
theorem StB.flag {B : Nat} {w : World} {W : Nat} (s : Sg) {a b : Bool} (h : StB B w W { s with sat := a }) (e : a = b) : StB B w W { s with sat := b } := e ▸ h
def preS (s : Sg) : Sg := prS 3 (nsS s)
theorem prS_zero (s : Sg) : prS 0 s = s := by
  unfold prS
  simp [anyB]
theorem aX_len (s : Sg) (j : Nat) : (aX s j).length = 3 := rfl
theorem aP_len (s : Sg) (j : Nat) : (aP s j).length = 9 := gd_len 3 _
theorem prS_step {w : World} {W k : Nat} {s s' : Sg} {f : Nat → Value} (hk : k < 3) (e : s' = { prS k s with sat := (prS k s).sat || aF1 s k || aF2 s k, X := at' (prS k s).X k (aX s k), P := at' (prS k s).P k (aP s k) }) (h : Stf w W s' f) : Stf w W (prS (k + 1) s) f := by
  subst e
  refine h.ext rfl rfl rfl rfl rfl rfl rfl rfl (fun _ _ => rfl) ?_ ?_ rfl rfl (fun _ _ => rfl) ?_ (fun _ _ => rfl)
  · intro i hi
    show (if i < k + 1 then aX s i else s.X i) = at' (fun j => if j < k then aX s j else s.X j) k (aX s k) i
    unfold at'
    by_cases e : i = k
    · subst e; simp
    · by_cases h1 : i < k
      · simp [e, h1, Nat.lt_succ_of_lt h1]
      · simp [e, h1, show ¬ i < k + 1 by omega]
  · intro i hi
    show (if i < k + 1 then aP s i else s.P i) = at' (fun j => if j < k then aP s j else s.P j) k (aP s k) i
    unfold at'
    by_cases e : i = k
    · subst e; simp
    · by_cases h1 : i < k
      · simp [e, h1, Nat.lt_succ_of_lt h1]
      · simp [e, h1, show ¬ i < k + 1 by omega]
  · show (s.sat || anyB (aF s) (k + 1)) = (s.sat || anyB (aF s) k || aF1 s k || aF2 s k)
    simp [anyB, aF, Bool.or_assoc]
def Jp (B W : Nat) (s : Sg) (k : Nat) (b b' : Bool) (v : World) : Prop := match b' with
  | true => St v W (prS (k + 1) s)
  | false => StB B v W { prS k s with sat := (prS k s).sat || aF1 s k || (b && aF2 s k) }
theorem Jp.a {B W : Nat} {s : Sg} {k : Nat} (b b' : Bool) (v : World) (h : Jp B W s k b b' v) (i : Nat) (hi : i < 3) : v.cell? ⟨W, 48 + i, none⟩ = some (.int .i64 (s.a i)) := by
  cases b'
  · obtain ⟨f, hf, _⟩ : StB B v W _ := h
    exact hf.wk.cell (by omega) (hf.a i hi)
  · obtain ⟨f, hf⟩ : St v W _ := h
    exact hf.wk.cell (by omega) (hf.a i hi)
theorem Jp.st {B W : Nat} {s : Sg} {k : Nat} (hk : k < 3) (po : Option Addr) (pc : Nat) (v : World) (u : Value) (h : Jp B W s k true false v) (su : Sees v u (aX s k)) (nu : ∀ q, u.ownBlock = some q → W < q) (sp : Sees v (.slice po 9 pc) (aP s k)) (np : ∀ q, (Value.slice po 9 pc).ownBlock = some q → W < q) :
    (∃ x0 x1 x2 x3 x4 x5, v.cell? ⟨W, 23 + 6 * k, none⟩ = some x0 ∧ v.cell? ⟨W, 23 + 6 * k + 1, none⟩ = some x1 ∧ v.cell? ⟨W, 23 + 6 * k + 2, none⟩ = some x2 ∧ v.cell? ⟨W, 23 + 6 * k + 3, none⟩ = some x3 ∧ v.cell? ⟨W, 23 + 6 * k + 4, none⟩ = some x4 ∧ v.cell? ⟨W, 23 + 6 * k + 5, none⟩ = some x5) ∧ (∀ j, v.frozen? ⟨W, j, none⟩ = false) ∧
      Jp B W s k true true ((((((v.setCell ⟨W, 23 + 6 * k, none⟩ (.int .i64 3)).setCell ⟨W, 23 + 6 * k + 1, none⟩ (.int .i64 1)).setCell ⟨W, 23 + 6 * k + 2, none⟩ u).setCell ⟨W, 23 + 6 * k + 3, none⟩ (.int .i64 3)).setCell ⟨W, 23 + 6 * k + 4, none⟩ (.int .i64 3)).setCell ⟨W, 23 + 6 * k + 5, none⟩ (.slice po 9 pc)) := by
  obtain ⟨f, hf, _⟩ : StB B v W { prS k s with sat := (prS k s).sat || aF1 s k || (true && aF2 s k) } := h
  refine ⟨⟨_, _, _, _, _, _, hf.wk.cell (by omega) rfl, hf.wk.cell (by omega) rfl, hf.wk.cell (by omega) rfl, hf.wk.cell (by omega) rfl, hf.wk.cell (by omega) rfl, hf.wk.cell (by omega) rfl⟩, fun j => hf.wk.frozen j, ?_⟩
  exact ⟨_, prS_step hk (by simp only [Bool.true_and]) (hf.setAx k hk u (.slice po 9 pc) (aX s k) (aP s k) su sp rfl (aP_len s k) (fun q hq => .inr (nu q hq)) (fun q hq => .inr (np q hq)))⟩
set_option maxRecDepth 20000 in
set_option maxHeartbeats 8000000 in
theorem predict_any (W : Nat) (s : Sg) (w : World) (h : St w W s) (d0 : 1 ≤ s.c 0) (d1 : s.c 0 ≤ 17179869184) :
    Calls Tryz.prog 31 #[.pointer (some ⟨W, 0, none⟩)] w fun e w' => e = .returned (.tuple #[]) ∧ St w' W (preS s) ∧ Mod (fun b => b = W) w w' := by
  have hE : preS s = prS 3 (nsS s) := rfl
  rw [hE]
  clear hE
  have hlW := h.lt
  have kM := motion_any W s w h d0 d1
  go_enter Tryz.func31, Tryz.ntmps31
  go_wp2_with (go_at_call 65; go_must (refine kM.mono ?_); rintro e w1 ⟨vf, rfl, sf, nf, b1⟩; obtain ⟨fo, fc, rfl⟩ := sf.slice)
  refine (noise_any W s _ (h.below b1)).mono ?_
  rintro e w2 ⟨vq, rfl, sq, nq, h2, m2⟩
  obtain ⟨qo, qc, rfl⟩ := sq.slice
  have sf2 := sf.agree m2.size (fun k hk => m2.block k (sf.lt (by simp [fmL]) k hk) (by have := nf k hk; omega))
  obtain ⟨g2, g3⟩ := allocs2 w2 (.cells #[.int .i64 3, .int .i64 3, .slice fo (fmL (s.c 0)).length fc] 29) (.cells #[.int .i64 3, .int .i64 3, .slice qo (qsL s).length qc] 29)
  have b3 := ball2 w2 (.cells #[.int .i64 3, .int .i64 3, .slice fo (fmL (s.c 0)).length fc] 29) (.cells #[.int .i64 3, .int .i64 3, .slice qo (qsL s).length qc] 29)
  have h3 := h2.below b3
  have sf3 := sf2.below b3
  have sq3 := sq.below b3
  have m3 : Mod (fun b => b = W) w1 ((w2.alloc (.cells #[.int .i64 3, .int .i64 3, .slice fo (fmL (s.c 0)).length fc] 29)).alloc (.cells #[.int .i64 3, .int .i64 3, .slice qo (qsL s).length qc] 29)) := m2.trans (Mod.of b3)
  have hz3 : w2.heap.size + 2 ≤ ((w2.alloc (.cells #[.int .i64 3, .int .i64 3, .slice fo (fmL (s.c 0)).length fc] 29)).alloc (.cells #[.int .i64 3, .int .i64 3, .slice qo (qsL s).length qc] 29)).heap.size := by simp
  have hz2 := m2.size
  have hz1 := b1.size
  clear sf2 sq h2 b3 m2 kM sf
  go_upto_region 1 with fail
  generalize (w2.alloc (.cells #[.int .i64 3, .int .i64 3, .slice fo (fmL (s.c 0)).length fc] 29)).alloc (.cells #[.int .i64 3, .int .i64 3, .slice qo (qsL s).length qc] 29) = V at g2 g3 h3 sf3 sq3 m3 hz3 ⊢
  obtain ⟨f, hf⟩ := h3
  refine pr1_seq (W := W) (v23 := f 23) (v24 := f 24) (v25 := f 25) (v26 := f 26) (v27 := f 27) (v28 := f 28) (v29 := f 29) (v30 := f 30) (v31 := f 31) (v32 := f 32) (v33 := f 33) (v34 := f 34) (v35 := f 35) (v36 := f 36) (v37 := f 37) (v38 := f 38) (v39 := f 39) (v40 := f 40) (hf.wk.range 23 18 (by decide)) ?_
  have hlo := hf.lo
  have A0 := hf.ax 0 (by decide)
  have A1 := hf.ax 1 (by decide)
  have A2 := hf.ax 2 (by decide)
  obtain ⟨xo0, xc0, ex0⟩ := A0.x.slice
  obtain ⟨po0, pc0, ep0⟩ := A0.p.slice
  have e23 : f 23 = .int .i64 3 := A0.r
  have e24 : f 24 = .int .i64 1 := A0.c
  have e25 : f 25 = .slice xo0 (s.X 0).length xc0 := ex0
  have e26 : f 26 = .int .i64 3 := A0.r'
  have e27 : f 27 = .int .i64 3 := A0.c'
  have e28 : f 28 = .slice po0 (s.P 0).length pc0 := ep0
  obtain ⟨xo1, xc1, ex1⟩ := A1.x.slice
  obtain ⟨po1, pc1, ep1⟩ := A1.p.slice
  have e29 : f 29 = .int .i64 3 := A1.r
  have e30 : f 30 = .int .i64 1 := A1.c
  have e31 : f 31 = .slice xo1 (s.X 1).length xc1 := ex1
  have e32 : f 32 = .int .i64 3 := A1.r'
  have e33 : f 33 = .int .i64 3 := A1.c'
  have e34 : f 34 = .slice po1 (s.P 1).length pc1 := ep1
  obtain ⟨xo2, xc2, ex2⟩ := A2.x.slice
  obtain ⟨po2, pc2, ep2⟩ := A2.p.slice
  have e35 : f 35 = .int .i64 3 := A2.r
  have e36 : f 36 = .int .i64 1 := A2.c
  have e37 : f 37 = .slice xo2 (s.X 2).length xc2 := ex2
  have e38 : f 38 = .int .i64 3 := A2.r'
  have e39 : f 39 = .int .i64 3 := A2.c'
  have e40 : f 40 = .slice po2 (s.P 2).length pc2 := ep2
  rw [e23, e24, e25, e26, e27, e28, e29, e30, e31, e32, e33, e34, e35, e36, e37, e38, e39, e40]
  have l0 : (s.X 0).length = 3 := A0.xl
  have n0 : (s.P 0).length = 9 := A0.pl
  have l1 : (s.X 1).length = 3 := A1.xl
  have n1 : (s.P 1).length = 9 := A1.pl
  have l2 : (s.X 2).length = 3 := A2.xl
  have n2 : (s.P 2).length = 9 := A2.pl
  rw [l0, n0, l1, n1, l2, n2]
  rw [l0] at e25 ex0
  rw [n0] at e28 ep0
  rw [l1] at e31 ex1
  rw [n1] at e34 ep1
  rw [l2] at e37 ex2
  rw [n2] at e40 ep2
  have sx0 : ∀ v, Mod (fun b => b = W) V v → Sees v (.slice xo0 3 xc0) (s.X 0) := fun v hv => by have h9 := (A0.mod hlo hv).x; rw [ex0] at h9; exact h9
  have sp0 : ∀ v, Mod (fun b => b = W) V v → Sees v (.slice po0 9 pc0) (s.P 0) := fun v hv => by have h9 := (A0.mod hlo hv).p; rw [ep0] at h9; exact h9
  have sx1 : ∀ v, Mod (fun b => b = W) V v → Sees v (.slice xo1 3 xc1) (s.X 1) := fun v hv => by have h9 := (A1.mod hlo hv).x; rw [ex1] at h9; exact h9
  have sp1 : ∀ v, Mod (fun b => b = W) V v → Sees v (.slice po1 9 pc1) (s.P 1) := fun v hv => by have h9 := (A1.mod hlo hv).p; rw [ep1] at h9; exact h9
  have sx2 : ∀ v, Mod (fun b => b = W) V v → Sees v (.slice xo2 3 xc2) (s.X 2) := fun v hv => by have h9 := (A2.mod hlo hv).x; rw [ex2] at h9; exact h9
  have sp2 : ∀ v, Mod (fun b => b = W) V v → Sees v (.slice po2 9 pc2) (s.P 2) := fun v hv => by have h9 := (A2.mod hlo hv).p; rw [ep2] at h9; exact h9
  clear e23 e24 e25 e26 e27 e28 e29 e30 e31 e32 e33 e34 e35 e36 e37 e38 e39 e40 ex0 ep0 ex1 ep1 ex2 ep2 A0 A1 A2
  have sF : ∀ v, Mod (fun b => b = W) V v → Sees v (.slice fo (fmL (s.c 0)).length fc) (fmL (s.c 0)) := fun v hv => sf3.agree hv.size (fun q hq => hv.block q (sf3.lt (by simp [fmL]) q hq) (by have := nf q hq; omega))
  have sQ : ∀ v, Mod (fun b => b = W) V v → Sees v (.slice qo (qsL s).length qc) (qsL s) := fun v hv => sq3.agree hv.size (fun q hq => hv.block q (sq3.lt (by unfold qsL; rw [dia_len]; decide) q hq) (nq q hq))
  have hS0 : St V W (prS 0 (nsS s)) := by rw [prS_zero]; exact ⟨f, hf⟩
  clear hf
  go_wp2
  go_loopw [18] (fun i wr => ∃ k : Nat, k ≤ 3 ∧ i = .int .i64 k ∧ St wr W (prS k (nsS s)) ∧ Mod (fun b => b = W) V wr) (fun i _ => 3 - (intOf i).toNat)
  case atStart => exact ⟨0, Nat.zero_le _, rfl, hS0, Mod.refl _ _⟩
  case round =>
    obtain ⟨k, hk, rfl, hSt, hm⟩ := hrel
    by_cases h3k : k = 3
    · subst h3k
      go_wp2
      refine bodyPost_end (v := .tuple #[]) (by simp [results, Tryz.results31, go_sem]) rfl ?_
      exact ⟨rfl, hSt, ((Mod.of b1).trans m3).trans hm⟩
    rcases (by omega : k = 0 ∨ k = 1 ∨ k = 2) with rfl | rfl | rfl
    · -- axis 0
      have hix := fun a0 a1 a2 a3 a4 a5 a6 a7 a8 a9 a10 a11 a12 a13 a14 a15 a16 a17 => index_axes0 a0 a1 a2 a3 a4 a5 a6 a7 a8 a9 a10 a11 a12 a13 a14 a15 a16 a17 wr
      have bA := box_below wr (.cells #[.int .i64 3, .int .i64 1, .slice xo0 3 xc0, .int .i64 3, .int .i64 3, .slice po0 9 pc0] 31)
      have kP := kpredict_any 3 (by decide) (by decide) (.slice xo0 3 xc0) (.slice po0 9 pc0) _ _ (s.X 0) (s.P 0) (fmL (s.c 0)) (qsL s) l0 n0 rfl (dia_len _ 3) _ ((sx0 wr hm).below bA) ((sp0 wr hm).below bA) ((sF wr hm).below bA) ((sQ wr hm).below bA)
      have lx : (prX 3 (s.X 0) (fmL (s.c 0))).length = 3 := prd_len _ _ _ _ _
      have lp : (prP 3 (s.P 0) (fmL (s.c 0)) (qsL s)).length = 9 := gd_len 3 _
      have hF := keep bA ((hm.block w2.heap.size (lt_of_block g2) (by omega)).trans g2)
      have hQ := keep bA ((hm.block (w2.heap.size + 1) (lt_of_block g3) (by omega)).trans g3)
      obtain ⟨f0, f1, f2, _⟩ := mat_cells hF
      obtain ⟨q0, q1, q2, _⟩ := mat_cells hQ
      have hWr : W < wr.heap.size := hSt.lt
      clear hF hQ
      go_wp2_with fail
      refine kP.mono ?_
      rintro e wb ⟨va, vb, rfl, sa, sb, na, nb, bb⟩
      obtain ⟨ao, ac, rfl⟩ := sa.slice
      obtain ⟨bo, bc, rfl⟩ := sb.slice
      rw [lx] at sa na ⊢
      rw [lp] at sb nb ⊢
      have bD := bt (bt bA bb) (box_below wb (.cells #[.int .i64 3, .int .i64 1, .slice ao 3 ac, .int .i64 3, .int .i64 3, .slice bo 9 bc] 31))
      have hD := hSt.toB.below bD
      have kD := heap_new wb (.cells #[.int .i64 3, .int .i64 1, .slice ao 3 ac, .int .i64 3, .int .i64 3, .slice bo 9 bc] 31)
      have sb' := sb.alloc (.cells #[.int .i64 3, .int .i64 1, .slice ao 3 ac, .int .i64 3, .int .i64 3, .slice bo 9 bc] 31)
      have sa' := sa.alloc (.cells #[.int .i64 3, .int .i64 1, .slice ao 3 ac, .int .i64 3, .int .i64 3, .slice bo 9 bc] 31)
      go_wp2_with (go_at_call 61; go_must (refine (keep_B wr.heap.size W (prF 3 (s.X 0) (s.P 0) (fmL (s.c 0)) (qsL s)) _ _ hD).mono ?_); rintro e w3 ⟨rfl, h3, m3'⟩)
      have hzb := bt bA bb |>.size
      have hzD := bD.size
      have hA1 := bA.size
      have hbb := bb.size
      have k3 := (m3'.block _ (lt_of_block kD) (by omega)).trans kD
      have hna : ∀ q, (Value.slice ao 3 ac).ownBlock = some q → q ≠ W := fun q hq => by have := na q hq; omega
      have hnb : ∀ q, (Value.slice bo 9 bc).ownBlock = some q → q ≠ W := fun q hq => by have := nb q hq; omega
      have hla := sa'.lt (by rw [lx]; decide)
      have hlb := sb'.lt (by rw [lp]; decide)
      have sa3 := sa'.agree m3'.size (fun q hq => m3'.block q (hla q hq) (hna q hq))
      have sb3 := sb'.agree m3'.size (fun q hq => m3'.block q (hlb q hq) (hnb q hq))
      have hl3a := sa3.lt (by rw [lx]; decide)
      have hl3b := sb3.lt (by rw [lp]; decide)
      have sav : ∀ v, Mod (fun b => b = W) w3 v → Sees v (.slice ao 3 ac) (prX 3 (s.X 0) (fmL (s.c 0))) := fun v hv => sa3.agree hv.size (fun q hq => hv.block q (hl3a q hq) (hna q hq))
      have sbv : ∀ v, Mod (fun b => b = W) w3 v → Sees v (.slice bo 9 bc) (prP 3 (s.P 0) (fmL (s.c 0)) (qsL s)) := fun v hv => sb3.agree hv.size (fun q hq => hv.block q (hl3b q hq) (hnb q hq))
      have hz3' := m3'.size
      clear sa sb sa' sb' kP kD sa3 sb3 hl3a hl3b hla hlb hD f0 f1 f2 q0 q1 q2
      refine pr6_region (W := W) (D6 := wb.heap.size) (i := 0) (vx := .slice ao 3 ac) (po := bo) (pn := 9) (pc := bc) (x := s.a 0) (ys := aX (nsS s) 0) (J := Jp wr.heap.size W (nsS s) 0)
        (fun q hq => by rw [hq]; omega) (by show StB _ _ W { prS 0 (nsS s) with sat := (prS 0 (nsS s)).sat || aF1 (nsS s) 0 || (false && aF2 (nsS s) 0) }; simp only [Bool.false_and, Bool.or_false]; exact h3.below (Below.refl _ _).drew) (by decide)
        (fun v hv => six_cells ((hv.block _ (lt_of_block k3) (by omega)).trans k3)) (fun b b' v hv => hv.a b b' v 0 (by decide))
        (fun v hv hmv => (spedUp_any wr.heap.size W _ (.slice ao 3 ac) (.slice bo 9 bc) (prX 3 (s.X 0) (fmL (s.c 0))) (s.a 0) v hv (by have := hmv.size; omega) hWr (sav v hmv) lx ⟨_, _, _, rfl⟩).mono (by
          rintro e b ⟨g, cap, rfl, r1, r2, r3, r4⟩
          refine ⟨_, rfl, r1, fun q hq => ?_, ?_, r4⟩
          · rw [← Option.some.inj hq]; exact r2
          · exact StB.flag (prS 0 (nsS s)) r3 (by simp only [Bool.false_and, Bool.or_false, Bool.true_and, aF2, Bool.or_assoc]; rfl)))
        (by show 0 < 3; decide)
        (fun v u hv hmv su nu => hv.st (by decide) bo bc v u su nu (sbv v hmv) (fun q hq => by have := nb q hq; omega)) ?_
      intro vs w4 m4 hJ4
      unfold pr6Fr
      go_wp2
      go_roundw
      case rel => exact ⟨0 + 1, by decide, by go_num, hJ4, ((hm.trans (Mod.of bD)).trans m3').trans m4⟩
      case measure => simp [intOf]
    · -- axis 1
      have hix := fun a0 a1 a2 a3 a4 a5 a6 a7 a8 a9 a10 a11 a12 a13 a14 a15 a16 a17 => index_axes1 a0 a1 a2 a3 a4 a5 a6 a7 a8 a9 a10 a11 a12 a13 a14 a15 a16 a17 wr
      have bA := box_below wr (.cells #[.int .i64 3, .int .i64 1, .slice xo1 3 xc1, .int .i64 3, .int .i64 3, .slice po1 9 pc1] 31)
      have kP := kpredict_any 3 (by decide) (by decide) (.slice xo1 3 xc1) (.slice po1 9 pc1) _ _ (s.X 1) (s.P 1) (fmL (s.c 0)) (qsL s) l1 n1 rfl (dia_len _ 3) _ ((sx1 wr hm).below bA) ((sp1 wr hm).below bA) ((sF wr hm).below bA) ((sQ wr hm).below bA)
      have lx : (prX 3 (s.X 1) (fmL (s.c 0))).length = 3 := prd_len _ _ _ _ _
      have lp : (prP 3 (s.P 1) (fmL (s.c 0)) (qsL s)).length = 9 := gd_len 3 _
      have hF := keep bA ((hm.block w2.heap.size (lt_of_block g2) (by omega)).trans g2)
      have hQ := keep bA ((hm.block (w2.heap.size + 1) (lt_of_block g3) (by omega)).trans g3)
      obtain ⟨f0, f1, f2, _⟩ := mat_cells hF
      obtain ⟨q0, q1, q2, _⟩ := mat_cells hQ
      have hWr : W < wr.heap.size := hSt.lt
      clear hF hQ
      go_wp2_with fail
      refine kP.mono ?_
      rintro e wb ⟨va, vb, rfl, sa, sb, na, nb, bb⟩
      obtain ⟨ao, ac, rfl⟩ := sa.slice
      obtain ⟨bo, bc, rfl⟩ := sb.slice
      rw [lx] at sa na ⊢
      rw [lp] at sb nb ⊢
      have bD := bt (bt bA bb) (box_below wb (.cells #[.int .i64 3, .int .i64 1, .slice ao 3 ac, .int .i64 3, .int .i64 3, .slice bo 9 bc] 31))
      have hD := hSt.toB.below bD
      have kD := heap_new wb (.cells #[.int .i64 3, .int .i64 1, .slice ao 3 ac, .int .i64 3, .int .i64 3, .slice bo 9 bc] 31)
      have sb' := sb.alloc (.cells #[.int .i64 3, .int .i64 1, .slice ao 3 ac, .int .i64 3, .int .i64 3, .slice bo 9 bc] 31)
      have sa' := sa.alloc (.cells #[.int .i64 3, .int .i64 1, .slice ao 3 ac, .int .i64 3, .int .i64 3, .slice bo 9 bc] 31)
      go_wp2_with (go_at_call 61; go_must (refine (keep_B wr.heap.size W (prF 3 (s.X 1) (s.P 1) (fmL (s.c 0)) (qsL s)) _ _ hD).mono ?_); rintro e w3 ⟨rfl, h3, m3'⟩)
      have hzb := bt bA bb |>.size
      have hzD := bD.size
      have hA1 := bA.size
      have hbb := bb.size
      have k3 := (m3'.block _ (lt_of_block kD) (by omega)).trans kD
      have hna : ∀ q, (Value.slice ao 3 ac).ownBlock = some q → q ≠ W := fun q hq => by have := na q hq; omega
      have hnb : ∀ q, (Value.slice bo 9 bc).ownBlock = some q → q ≠ W := fun q hq => by have := nb q hq; omega
      have hla := sa'.lt (by rw [lx]; decide)
      have hlb := sb'.lt (by rw [lp]; decide)
      have sa3 := sa'.agree m3'.size (fun q hq => m3'.block q (hla q hq) (hna q hq))
      have sb3 := sb'.agree m3'.size (fun q hq => m3'.block q (hlb q hq) (hnb q hq))
      have hl3a := sa3.lt (by rw [lx]; decide)
      have hl3b := sb3.lt (by rw [lp]; decide)
      have sav : ∀ v, Mod (fun b => b = W) w3 v → Sees v (.slice ao 3 ac) (prX 3 (s.X 1) (fmL (s.c 0))) := fun v hv => sa3.agree hv.size (fun q hq => hv.block q (hl3a q hq) (hna q hq))
      have sbv : ∀ v, Mod (fun b => b = W) w3 v → Sees v (.slice bo 9 bc) (prP 3 (s.P 1) (fmL (s.c 0)) (qsL s)) := fun v hv => sb3.agree hv.size (fun q hq => hv.block q (hl3b q hq) (hnb q hq))
      have hz3' := m3'.size
      clear sa sb sa' sb' kP kD sa3 sb3 hl3a hl3b hla hlb hD f0 f1 f2 q0 q1 q2
      refine pr6_region (W := W) (D6 := wb.heap.size) (i := 1) (vx := .slice ao 3 ac) (po := bo) (pn := 9) (pc := bc) (x := s.a 1) (ys := aX (nsS s) 1) (J := Jp wr.heap.size W (nsS s) 1)
        (fun q hq => by rw [hq]; omega) (by show StB _ _ W { prS 1 (nsS s) with sat := (prS 1 (nsS s)).sat || aF1 (nsS s) 1 || (false && aF2 (nsS s) 1) }; simp only [Bool.false_and, Bool.or_false]; exact h3.below (Below.refl _ _).drew) (by decide)
        (fun v hv => six_cells ((hv.block _ (lt_of_block k3) (by omega)).trans k3)) (fun b b' v hv => hv.a b b' v 1 (by decide))
        (fun v hv hmv => (spedUp_any wr.heap.size W _ (.slice ao 3 ac) (.slice bo 9 bc) (prX 3 (s.X 1) (fmL (s.c 0))) (s.a 1) v hv (by have := hmv.size; omega) hWr (sav v hmv) lx ⟨_, _, _, rfl⟩).mono (by
          rintro e b ⟨g, cap, rfl, r1, r2, r3, r4⟩
          refine ⟨_, rfl, r1, fun q hq => ?_, ?_, r4⟩
          · rw [← Option.some.inj hq]; exact r2
          · exact StB.flag (prS 1 (nsS s)) r3 (by simp only [Bool.false_and, Bool.or_false, Bool.true_and, aF2, Bool.or_assoc]; rfl)))
        (by show 0 < 3; decide)
        (fun v u hv hmv su nu => hv.st (by decide) bo bc v u su nu (sbv v hmv) (fun q hq => by have := nb q hq; omega)) ?_
      intro vs w4 m4 hJ4
      unfold pr6Fr
      go_wp2
      go_roundw
      case rel => exact ⟨1 + 1, by decide, by go_num, hJ4, ((hm.trans (Mod.of bD)).trans m3').trans m4⟩
      case measure => simp [intOf]
    · -- axis 2
      have hix := fun a0 a1 a2 a3 a4 a5 a6 a7 a8 a9 a10 a11 a12 a13 a14 a15 a16 a17 => index_axes2 a0 a1 a2 a3 a4 a5 a6 a7 a8 a9 a10 a11 a12 a13 a14 a15 a16 a17 wr
      have bA := box_below wr (.cells #[.int .i64 3, .int .i64 1, .slice xo2 3 xc2, .int .i64 3, .int .i64 3, .slice po2 9 pc2] 31)
      have kP := kpredict_any 3 (by decide) (by decide) (.slice xo2 3 xc2) (.slice po2 9 pc2) _ _ (s.X 2) (s.P 2) (fmL (s.c 0)) (qsL s) l2 n2 rfl (dia_len _ 3) _ ((sx2 wr hm).below bA) ((sp2 wr hm).below bA) ((sF wr hm).below bA) ((sQ wr hm).below bA)
      have lx : (prX 3 (s.X 2) (fmL (s.c 0))).length = 3 := prd_len _ _ _ _ _
      have lp : (prP 3 (s.P 2) (fmL (s.c 0)) (qsL s)).length = 9 := gd_len 3 _
      have hF := keep bA ((hm.block w2.heap.size (lt_of_block g2) (by omega)).trans g2)
      have hQ := keep bA ((hm.block (w2.heap.size + 1) (lt_of_block g3) (by omega)).trans g3)
      obtain ⟨f0, f1, f2, _⟩ := mat_cells hF
      obtain ⟨q0, q1, q2, _⟩ := mat_cells hQ
      have hWr : W < wr.heap.size := hSt.lt
      clear hF hQ
      go_wp2_with fail
      refine kP.mono ?_
      rintro e wb ⟨va, vb, rfl, sa, sb, na, nb, bb⟩
      obtain ⟨ao, ac, rfl⟩ := sa.slice
      obtain ⟨bo, bc, rfl⟩ := sb.slice
      rw [lx] at sa na ⊢
      rw [lp] at sb nb ⊢
      have bD := bt (bt bA bb) (box_below wb (.cells #[.int .i64 3, .int .i64 1, .slice ao 3 ac, .int .i64 3, .int .i64 3, .slice bo 9 bc] 31))
      have hD := hSt.toB.below bD
      have kD := heap_new wb (.cells #[.int .i64 3, .int .i64 1, .slice ao 3 ac, .int .i64 3, .int .i64 3, .slice bo 9 bc] 31)
      have sb' := sb.alloc (.cells #[.int .i64 3, .int .i64 1, .slice ao 3 ac, .int .i64 3, .int .i64 3, .slice bo 9 bc] 31)
      have sa' := sa.alloc (.cells #[.int .i64 3, .int .i64 1, .slice ao 3 ac, .int .i64 3, .int .i64 3, .slice bo 9 bc] 31)
      go_wp2_with (go_at_call 61; go_must (refine (keep_B wr.heap.size W (prF 3 (s.X 2) (s.P 2) (fmL (s.c 0)) (qsL s)) _ _ hD).mono ?_); rintro e w3 ⟨rfl, h3, m3'⟩)
      have hzb := bt bA bb |>.size
      have hzD := bD.size
      have hA1 := bA.size
      have hbb := bb.size
      have k3 := (m3'.block _ (lt_of_block kD) (by omega)).trans kD
      have hna : ∀ q, (Value.slice ao 3 ac).ownBlock = some q → q ≠ W := fun q hq => by have := na q hq; omega
      have hnb : ∀ q, (Value.slice bo 9 bc).ownBlock = some q → q ≠ W := fun q hq => by have := nb q hq; omega
      have hla := sa'.lt (by rw [lx]; decide)
      have hlb := sb'.lt (by rw [lp]; decide)
      have sa3 := sa'.agree m3'.size (fun q hq => m3'.block q (hla q hq) (hna q hq))
      have sb3 := sb'.agree m3'.size (fun q hq => m3'.block q (hlb q hq) (hnb q hq))
      have hl3a := sa3.lt (by rw [lx]; decide)
      have hl3b := sb3.lt (by rw [lp]; decide)
      have sav : ∀ v, Mod (fun b => b = W) w3 v → Sees v (.slice ao 3 ac) (prX 3 (s.X 2) (fmL (s.c 0))) := fun v hv => sa3.agree hv.size (fun q hq => hv.block q (hl3a q hq) (hna q hq))
      have sbv : ∀ v, Mod (fun b => b = W) w3 v → Sees v (.slice bo 9 bc) (prP 3 (s.P 2) (fmL (s.c 0)) (qsL s)) := fun v hv => sb3.agree hv.size (fun q hq => hv.block q (hl3b q hq) (hnb q hq))
      have hz3' := m3'.size
      clear sa sb sa' sb' kP kD sa3 sb3 hl3a hl3b hla hlb hD f0 f1 f2 q0 q1 q2
      refine pr6_region (W := W) (D6 := wb.heap.size) (i := 2) (vx := .slice ao 3 ac) (po := bo) (pn := 9) (pc := bc) (x := s.a 2) (ys := aX (nsS s) 2) (J := Jp wr.heap.size W (nsS s) 2)
        (fun q hq => by rw [hq]; omega) (by show StB _ _ W { prS 2 (nsS s) with sat := (prS 2 (nsS s)).sat || aF1 (nsS s) 2 || (false && aF2 (nsS s) 2) }; simp only [Bool.false_and, Bool.or_false]; exact h3.below (Below.refl _ _).drew) (by decide)
        (fun v hv => six_cells ((hv.block _ (lt_of_block k3) (by omega)).trans k3)) (fun b b' v hv => hv.a b b' v 2 (by decide))
        (fun v hv hmv => (spedUp_any wr.heap.size W _ (.slice ao 3 ac) (.slice bo 9 bc) (prX 3 (s.X 2) (fmL (s.c 0))) (s.a 2) v hv (by have := hmv.size; omega) hWr (sav v hmv) lx ⟨_, _, _, rfl⟩).mono (by
          rintro e b ⟨g, cap, rfl, r1, r2, r3, r4⟩
          refine ⟨_, rfl, r1, fun q hq => ?_, ?_, r4⟩
          · rw [← Option.some.inj hq]; exact r2
          · exact StB.flag (prS 2 (nsS s)) r3 (by simp only [Bool.false_and, Bool.or_false, Bool.true_and, aF2, Bool.or_assoc]; rfl)))
        (by show 0 < 3; decide)
        (fun v u hv hmv su nu => hv.st (by decide) bo bc v u su nu (sbv v hmv) (fun q hq => by have := nb q hq; omega)) ?_
      intro vs w4 m4 hJ4
      unfold pr6Fr
      go_wp2
      go_roundw
      case rel => exact ⟨2 + 1, by decide, by go_num, hJ4, ((hm.trans (Mod.of bD)).trans m3').trans m4⟩
      case measure => simp [intOf]
end Go.Proofs.YtoefekkdjcflmaaGreatDoor.Et

