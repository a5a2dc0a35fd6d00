/- Parts of the proof. -/
import Derived.Test.YtoefekkdjcflmaaGreatDoorM37
import Derived.Test.YtoefekkdjcflmaaGreatDoorM38
namespace Go.Proofs.YtoefekkdjcflmaaGreatDoor.Et
open Go.RowKit Go.Sort Go.Proofs.YtoefekkdjcflmaaGreatDoor.Qm
open Go.Proofs.YtoefekkdjcflmaaGreatDoor.Qt (Less)
structure Sm where
  ms : Bool
  hb : Bool
  hg : Bool
  gy : Nat → Int
  ac : Nat → Int
  gn : Nat → Int
  br : Int
def begS (lo : Nat) (c : Nat → Int) (e : Es) (q : Sm) : Sg := ⟨c, q.ms, q.hb, q.hg, q.gy, q.ac, q.gn, q.br, e.tu, e.X, e.P, e.st, e.co, e.off, e.sat, fun _ => 0, lo⟩
def stgS (s : Sg) : Nat → Sg
  | 0 => s
  | 1 => turS s
  | 2 => preS (turS s)
  | 3 => holS (preS (turS s))
  | _ => couS (holS (preS (turS s)))
theorem tur_same (s : Sg) : (turS s).c = s.c ∧ (turS s).off = s.off ∧ (turS s).co = s.co ∧ (turS s).st = s.st ∧ (turS s).ms = s.ms := by
  unfold turS
  split <;> exact ⟨rfl, rfl, rfl, rfl, rfl⟩
theorem ba_same (s : Sg) : (baS s).co = s.co ∧ (baS s).st = s.st ∧ (baS s).ms = s.ms := by
  unfold baS
  split <;> exact ⟨rfl, rfl, rfl⟩
theorem gn_same (s : Sg) (j : Nat) : (gnS s j).co = s.co ∧ (gnS s j).st = s.st ∧ (gnS s j).ms = s.ms := by
  induction j with
  | zero => exact ⟨rfl, rfl, rfl⟩
  | succ j ih => exact ih
theorem hol_same (s : Sg) : (holS s).co = s.co ∧ (holS s).st = s.st ∧ (holS s).ms = s.ms := by
  unfold holS
  split
  · exact ⟨rfl, rfl, rfl⟩
  · split
    · have h1 := gn_same (baS s) 3
      have h2 := ba_same s
      exact ⟨h1.1.trans h2.1, h1.2.1.trans h2.2.1, h1.2.2.trans h2.2.2⟩
    · exact ba_same s
theorem allocs5 (w : World) (o1 o2 o3 o4 o5 : Obj) : let W := ((((w.alloc o1).alloc o2).alloc o3).alloc o4).alloc o5
    W.heap[w.heap.size]? = some o1 ∧ W.heap[w.heap.size + 1]? = some o2 ∧ W.heap[w.heap.size + 1 + 1]? = some o3 ∧ W.heap[w.heap.size + 1 + 1 + 1]? = some o4 ∧ W.heap[w.heap.size + 1 + 1 + 1 + 1]? = some o5 ∧ Below w.heap.size w W ∧ W.heap.size = w.heap.size + 5 := by
  intro W
  obtain ⟨h1, h2, h3⟩ := allocs3 w o1 o2 o3
  obtain ⟨g1, g2⟩ := allocs2 ((w.alloc o1).alloc o2 |>.alloc o3) o4 o5
  have e : (((w.alloc o1).alloc o2).alloc o3).heap.size = w.heap.size + 1 + 1 + 1 := by simp
  rw [e] at g1 g2
  refine ⟨heap_old (heap_old h1 _) _, heap_old (heap_old h2 _) _, heap_old (heap_old h3 _) _, g1, g2, ?_, ?_⟩
  · exact bt (ball3 w o1 o2 o3) (ball2 _ o4 o5)
  · show ((((((w.alloc o1).alloc o2).alloc o3).alloc o4).alloc o5)).heap.size = _
    simp
theorem rgt_axes {e : Es} (hr : rgtB e = true) (i : Nat) (hi : i < 3) : trkB (e.r i) (e.c i) (e.X i) (e.r' i) (e.c' i) (e.P i) = true ∧ e.r i = 3 ∧ e.c i = 1 ∧ e.r' i = 3 ∧ e.c' i = 3 ∧ (e.X i).length = 3 ∧ (e.P i).length = 9 := by
  have h1 : anyB (axB e) 3 = false := by
    unfold rgtB at hr
    simp only [Bool.and_eq_true, Bool.not_eq_true'] at hr
    exact hr.2.1
  have h2 : axB e i = false := by
    cases hb : axB e i with
    | false => rfl
    | true => rw [anyB_hit hi hb] at h1; cases h1
  unfold axB at h2
  simp only [Bool.or_eq_false_iff, Bool.not_eq_false', decide_eq_true_eq] at h2
  obtain ⟨h3, h4⟩ := h2
  obtain ⟨n, e1, e2, e3, e4, _, _, l1, l2, _⟩ := trk_of h3
  have hn : n = 3 := by omega
  subst hn
  exact ⟨h3, h4, e2, e3, e4, l1, l2⟩
theorem rgt_cnts {e : Es} (hr : rgtB e = true) : 0 ≤ e.st ∧ e.st ≤ 1099511627776 ∧ 0 ≤ e.co ∧ e.co ≤ 1000 ∧ ∀ k, k < 4 → 0 ≤ e.off k ∧ e.off k ≤ 1000 := by
  unfold rgtB at hr
  simp only [Bool.and_eq_true, Bool.not_eq_true'] at hr
  obtain ⟨_, _, h1, h2, h3⟩ := hr
  unfold cnB at h1 h2
  simp only [Bool.or_eq_false_iff, decide_eq_false_iff_not] at h1 h2
  refine ⟨by omega, by omega, by omega, by omega, fun k hk => ?_⟩
  have h4 : cnB 1000 (e.off k) = false := by
    cases hb : cnB 1000 (e.off k) with
    | false => rfl
    | true => rw [anyB_hit hk hb] at h3; cases h3
  unfold cnB at h4
  simp only [Bool.or_eq_false_iff, decide_eq_false_iff_not] at h4
  omega
set_option maxRecDepth 20000 in
theorem beg_St (c : Nat → Int) (e : Es) (q : Sm) (xo po : Nat → Option Addr) (xc pc : Nat → Nat) (w0 w : World) (hr : rgtB e = true) (h0 : e.See w0 (fun i => .slice (xo i) (e.X i).length (xc i)) (fun i => .slice (po i) (e.P i).length (pc i))) (hz : w0.heap.size ≤ w.heap.size) (h : e.See w (fun i => .slice (xo i) (e.X i).length (xc i)) (fun i => .slice (po i) (e.P i).length (pc i))) : St (w.alloc (.cells #[.int .i64 (c 0), .int .i64 (c 1), .int .i64 (c 2), .int .i64 (c 3), .int .i64 (c 4), .int .i64 (c 5), .bool q.ms, .int .i64 (q.gy 0), .int .i64 (q.gy 1), .int .i64 (q.gy 2), .int .i64 (q.ac 0), .int .i64 (q.ac 1), .int .i64 (q.ac 2), .bool q.hb, .int .i64 q.br, .bool q.hg, .int .i64 (q.gn 0), .int .i64 (q.gn 1), .int .i64 (q.gn 2), .int .i64 (e.tu 0), .int .i64 (e.tu 1), .int .i64 (e.tu 2), .int .i64 (e.tu 3), .int .i64 (e.r 0), .int .i64 (e.c 0), .slice (xo 0) (e.X 0).length (xc 0), .int .i64 (e.r' 0), .int .i64 (e.c' 0), .slice (po 0) (e.P 0).length (pc 0), .int .i64 (e.r 1), .int .i64 (e.c 1), .slice (xo 1) (e.X 1).length (xc 1), .int .i64 (e.r' 1), .int .i64 (e.c' 1), .slice (po 1) (e.P 1).length (pc 1), .int .i64 (e.r 2), .int .i64 (e.c 2), .slice (xo 2) (e.X 2).length (xc 2), .int .i64 (e.r' 2), .int .i64 (e.c' 2), .slice (po 2) (e.P 2).length (pc 2), .int .i64 e.st, .int .i64 e.co, .int .i64 (e.off 0), .int .i64 (e.off 1), .int .i64 (e.off 2), .int .i64 (e.off 3), .bool e.sat, .int .i64 0, .int .i64 0, .int .i64 0] 66)) w.heap.size (begS w0.heap.size c e q) := by
  have bA := box_below w (.cells #[.int .i64 (c 0), .int .i64 (c 1), .int .i64 (c 2), .int .i64 (c 3), .int .i64 (c 4), .int .i64 (c 5), .bool q.ms, .int .i64 (q.gy 0), .int .i64 (q.gy 1), .int .i64 (q.gy 2), .int .i64 (q.ac 0), .int .i64 (q.ac 1), .int .i64 (q.ac 2), .bool q.hb, .int .i64 q.br, .bool q.hg, .int .i64 (q.gn 0), .int .i64 (q.gn 1), .int .i64 (q.gn 2), .int .i64 (e.tu 0), .int .i64 (e.tu 1), .int .i64 (e.tu 2), .int .i64 (e.tu 3), .int .i64 (e.r 0), .int .i64 (e.c 0), .slice (xo 0) (e.X 0).length (xc 0), .int .i64 (e.r' 0), .int .i64 (e.c' 0), .slice (po 0) (e.P 0).length (pc 0), .int .i64 (e.r 1), .int .i64 (e.c 1), .slice (xo 1) (e.X 1).length (xc 1), .int .i64 (e.r' 1), .int .i64 (e.c' 1), .slice (po 1) (e.P 1).length (pc 1), .int .i64 (e.r 2), .int .i64 (e.c 2), .slice (xo 2) (e.X 2).length (xc 2), .int .i64 (e.r' 2), .int .i64 (e.c' 2), .slice (po 2) (e.P 2).length (pc 2), .int .i64 e.st, .int .i64 e.co, .int .i64 (e.off 0), .int .i64 (e.off 1), .int .i64 (e.off 2), .int .i64 (e.off 3), .bool e.sat, .int .i64 0, .int .i64 0, .int .i64 0] 66)
  have hn := heap_new w (.cells #[.int .i64 (c 0), .int .i64 (c 1), .int .i64 (c 2), .int .i64 (c 3), .int .i64 (c 4), .int .i64 (c 5), .bool q.ms, .int .i64 (q.gy 0), .int .i64 (q.gy 1), .int .i64 (q.gy 2), .int .i64 (q.ac 0), .int .i64 (q.ac 1), .int .i64 (q.ac 2), .bool q.hb, .int .i64 q.br, .bool q.hg, .int .i64 (q.gn 0), .int .i64 (q.gn 1), .int .i64 (q.gn 2), .int .i64 (e.tu 0), .int .i64 (e.tu 1), .int .i64 (e.tu 2), .int .i64 (e.tu 3), .int .i64 (e.r 0), .int .i64 (e.c 0), .slice (xo 0) (e.X 0).length (xc 0), .int .i64 (e.r' 0), .int .i64 (e.c' 0), .slice (po 0) (e.P 0).length (pc 0), .int .i64 (e.r 1), .int .i64 (e.c 1), .slice (xo 1) (e.X 1).length (xc 1), .int .i64 (e.r' 1), .int .i64 (e.c' 1), .slice (po 1) (e.P 1).length (pc 1), .int .i64 (e.r 2), .int .i64 (e.c 2), .slice (xo 2) (e.X 2).length (xc 2), .int .i64 (e.r' 2), .int .i64 (e.c' 2), .slice (po 2) (e.P 2).length (pc 2), .int .i64 e.st, .int .i64 e.co, .int .i64 (e.off 0), .int .i64 (e.off 1), .int .i64 (e.off 2), .int .i64 (e.off 3), .bool e.sat, .int .i64 0, .int .i64 0, .int .i64 0] 66)
  have hax : ∀ i, i < 3 → ∀ f : Nat → Value, f (23 + 6 * i) = .int .i64 (e.r i) → f (23 + 6 * i + 1) = .int .i64 (e.c i) → f (23 + 6 * i + 2) = .slice (xo i) (e.X i).length (xc i) → f (23 + 6 * i + 3) = .int .i64 (e.r' i) → f (23 + 6 * i + 4) = .int .i64 (e.c' i) → f (23 + 6 * i + 5) = .slice (po i) (e.P i).length (pc i) → Ax (w.alloc (.cells #[.int .i64 (c 0), .int .i64 (c 1), .int .i64 (c 2), .int .i64 (c 3), .int .i64 (c 4), .int .i64 (c 5), .bool q.ms, .int .i64 (q.gy 0), .int .i64 (q.gy 1), .int .i64 (q.gy 2), .int .i64 (q.ac 0), .int .i64 (q.ac 1), .int .i64 (q.ac 2), .bool q.hb, .int .i64 q.br, .bool q.hg, .int .i64 (q.gn 0), .int .i64 (q.gn 1), .int .i64 (q.gn 2), .int .i64 (e.tu 0), .int .i64 (e.tu 1), .int .i64 (e.tu 2), .int .i64 (e.tu 3), .int .i64 (e.r 0), .int .i64 (e.c 0), .slice (xo 0) (e.X 0).length (xc 0), .int .i64 (e.r' 0), .int .i64 (e.c' 0), .slice (po 0) (e.P 0).length (pc 0), .int .i64 (e.r 1), .int .i64 (e.c 1), .slice (xo 1) (e.X 1).length (xc 1), .int .i64 (e.r' 1), .int .i64 (e.c' 1), .slice (po 1) (e.P 1).length (pc 1), .int .i64 (e.r 2), .int .i64 (e.c 2), .slice (xo 2) (e.X 2).length (xc 2), .int .i64 (e.r' 2), .int .i64 (e.c' 2), .slice (po 2) (e.P 2).length (pc 2), .int .i64 e.st, .int .i64 e.co, .int .i64 (e.off 0), .int .i64 (e.off 1), .int .i64 (e.off 2), .int .i64 (e.off 3), .bool e.sat, .int .i64 0, .int .i64 0, .int .i64 0] 66)) w.heap.size w0.heap.size f (23 + 6 * i) (e.X i) (e.P i) := fun i hi f e0 e1 e2 e3 e4 e5 => by
    obtain ⟨_, d1, d2, d3, d4, l1, l2⟩ := rgt_axes hr i hi
    have s1 := (h i hi).1
    have s2 := (h i hi).2
    have k1 := (h0 i hi).1.lt (by rw [l1]; decide)
    have k2 := (h0 i hi).2.lt (by rw [l2]; decide)
    exact ⟨by rw [e0, d1], by rw [e1, d2], by rw [e3, d3], by rw [e4, d4], by rw [e2]; exact s1.below bA, by rw [e5]; exact s2.below bA, l1, l2, fun k hk => by rw [e2] at hk; exact .inl (k1 k hk), fun k hk => by rw [e5] at hk; exact .inl (k2 k hk)⟩
  refine ⟨fun k => (#[.int .i64 (c 0), .int .i64 (c 1), .int .i64 (c 2), .int .i64 (c 3), .int .i64 (c 4), .int .i64 (c 5), .bool q.ms, .int .i64 (q.gy 0), .int .i64 (q.gy 1), .int .i64 (q.gy 2), .int .i64 (q.ac 0), .int .i64 (q.ac 1), .int .i64 (q.ac 2), .bool q.hb, .int .i64 q.br, .bool q.hg, .int .i64 (q.gn 0), .int .i64 (q.gn 1), .int .i64 (q.gn 2), .int .i64 (e.tu 0), .int .i64 (e.tu 1), .int .i64 (e.tu 2), .int .i64 (e.tu 3), .int .i64 (e.r 0), .int .i64 (e.c 0), .slice (xo 0) (e.X 0).length (xc 0), .int .i64 (e.r' 0), .int .i64 (e.c' 0), .slice (po 0) (e.P 0).length (pc 0), .int .i64 (e.r 1), .int .i64 (e.c 1), .slice (xo 1) (e.X 1).length (xc 1), .int .i64 (e.r' 1), .int .i64 (e.c' 1), .slice (po 1) (e.P 1).length (pc 1), .int .i64 (e.r 2), .int .i64 (e.c 2), .slice (xo 2) (e.X 2).length (xc 2), .int .i64 (e.r' 2), .int .i64 (e.c' 2), .slice (po 2) (e.P 2).length (pc 2), .int .i64 e.st, .int .i64 e.co, .int .i64 (e.off 0), .int .i64 (e.off 1), .int .i64 (e.off 2), .int .i64 (e.off 3), .bool e.sat, .int .i64 0, .int .i64 0, .int .i64 0] : Array Value).getD k undef, ⟨⟨_, _, hn, by simp, fun k hk => by simp [Array.getD, hk]⟩, ?_, rfl, ?_, ?_, rfl, rfl, rfl, ?_, ?_, ?_, rfl, rfl, ?_, rfl, ?_, hz⟩⟩
  · intro k hk
    rcases (by omega : k = 0 ∨ k = 1 ∨ k = 2 ∨ k = 3 ∨ k = 4 ∨ k = 5) with rfl | rfl | rfl | rfl | rfl | rfl <;> rfl
  · intro k hk
    rcases (by omega : k = 0 ∨ k = 1 ∨ k = 2) with rfl | rfl | rfl <;> rfl
  · intro k hk
    rcases (by omega : k = 0 ∨ k = 1 ∨ k = 2) with rfl | rfl | rfl <;> rfl
  · intro k hk
    rcases (by omega : k = 0 ∨ k = 1 ∨ k = 2) with rfl | rfl | rfl <;> rfl
  · intro k hk
    rcases (by omega : k = 0 ∨ k = 1 ∨ k = 2 ∨ k = 3) with rfl | rfl | rfl | rfl <;> rfl
  · intro i hi
    rcases (by omega : i = 0 ∨ i = 1 ∨ i = 2) with rfl | rfl | rfl
    · exact hax 0 (by decide) _ rfl rfl rfl rfl rfl rfl
    · exact hax 1 (by decide) _ rfl rfl rfl rfl rfl rfl
    · exact hax 2 (by decide) _ rfl rfl rfl rfl rfl rfl
  · intro k hk
    rcases (by omega : k = 0 ∨ k = 1 ∨ k = 2 ∨ k = 3) with rfl | rfl | rfl | rfl <;> rfl
  · intro k hk
    rcases (by omega : k = 0 ∨ k = 1 ∨ k = 2) with rfl | rfl | rfl <;> rfl
end Go.Proofs.YtoefekkdjcflmaaGreatDoor.Et
namespace Go.Proofs.YtoefekkdjcflmaaGreatDoor.Et
open Go.RowKit Go.Sort Go.Proofs.YtoefekkdjcflmaaGreatDoor.Qm
set_option linter.unusedVariables false
set_option maxRecDepth 40000 in
set_option maxHeartbeats 4000000 in
theorem pl2_seq {Q : Exit → Act → World → Prop} {w : World} {D : Nat} {v4 : Value} {v5 : Value} {v6 : Value} {v7 : Value} {v8 : Value} {v9 : Value} {v10 : Value} {v11 : Value} {v12 : Value} {v13 : Value} {v14 : Value} {v15 : Value} {v16 : Value} {v17 : Value} {v18 : Value} {v19 : Value} {v20 : Value} {v21 : Value} {u0 u2 u3 u4 u5 u6 u7 u8 u9 u10 u11 u12 u13 u14 u15 u16 u17 u18 u19 u20 : Value} (hr : ∀ j v, [v4, v5, v6, v7, v8, v9, v10, v11, v12, v13, v14, v15, v16, v17, v18, v19, v20, v21][j]? = some v → w.cell? ⟨D, 4 + j, none⟩ = some v)
    (hQ : Q .normal ⟨#[u0, .pointer (some ⟨D, 0, none⟩), u2, u3, u4, u5, .pointer (some ⟨D, 4, none⟩), .agg #[v4, v5, v6, v7, v8, v9, v10, v11, v12, v13, v14, v15, v16, v17, v18, v19, v20, v21], .int .i64 0, u9, u10, u11, u12, u13, u14, u15, u16, u17, u18, u19, u20], []⟩ w) : (Code.region 2 #[
 ⟨some 6, .fieldAddr 35 (.tmp 1) 1, 0, "est.go:216", #[], none⟩,
 ⟨some 7, .load 32 (.tmp 6), 32, "est.go:216", #[eD 0], none⟩,
 ⟨some 8, .move (.const (.int .i64 0)), 3, "est.go:216", #[], none⟩] false).wp Tryz.prog Q ⟨#[u0, .pointer (some ⟨D, 0, none⟩), u2, u3, u4, u5, u6, u7, u8, u9, u10, u11, u12, u13, u14, u15, u16, u17, u18, u19, u20], []⟩ w := by
  refine wp_region_list ?_
  refine wpList_plain rfl fun _ hK => op_fEst1 rfl rfl (hK _ _ ?_)
  change wpList Tryz.prog _ _ _ ⟨#[u0, .pointer (some ⟨D, 0, none⟩), u2, u3, u4, u5, .pointer (some ⟨D, 4, none⟩), u7, u8, u9, u10, u11, u12, u13, u14, u15, u16, u17, u18, u19, u20], []⟩ _
  refine wpList_plain rfl fun _ hK => op_ldN (cs := [v4, v5, v6, v7, v8, v9, v10, v11, v12, v13, v14, v15, v16, v17, v18, v19, v20, v21]) rfl rfl (ag_Axes _) (sz_Axes _) hr (hK _ _ ?_)
  change wpList Tryz.prog _ _ _ ⟨#[u0, .pointer (some ⟨D, 0, none⟩), u2, u3, u4, u5, .pointer (some ⟨D, 4, none⟩), .agg #[v4, v5, v6, v7, v8, v9, v10, v11, v12, v13, v14, v15, v16, v17, v18, v19, v20, v21], u8, u9, u10, u11, u12, u13, u14, u15, u16, u17, u18, u19, u20], []⟩ _
  refine wpList_plain rfl fun _ hK => op_moveC rfl (hK _ _ ?_)
  exact hQ
def plF (x : Nat → Int) (k j : Nat) : Value := .int .i64 (if j < k then x j else 0)
theorem plF_up (x : Nat → Int) (k j : Nat) (_ : j < 3) : plF x (k + 1) j = up (plF x k) k (.int .i64 (x k)) j := by
  unfold plF up
  by_cases e : j = k
  · subst e; simp
  · by_cases h : j < k
    · simp [e, h, Nat.lt_succ_of_lt h]
    · simp [e, h, show ¬ j < k + 1 by omega]
theorem See.first {e : Es} {w : World} {{xo po : Nat → Option Addr}} {{xc pc : Nat → Nat}} (h : e.See w (fun i => .slice (xo i) (e.X i).length (xc i)) (fun i => .slice (po i) (e.P i).length (pc i))) (i : Nat) (hi : i < 3) (hl : (e.X i).length = 3) : ∃ ad, xo i = some ad ∧ ad.block < w.heap.size ∧ w.cell? ad = some (.int .i64 (ge (e.X i) 0)) := by
  obtain ⟨ao, cap, hv, hc⟩ := (h i hi).1
  obtain ⟨ad, e1, e2, e3⟩ := hc 0 (by omega)
  have hv' : Value.slice (xo i) (e.X i).length (xc i) = .slice ao (e.X i).length cap := hv
  injection hv' with q1 _ _
  refine ⟨ad, by rw [q1, e1], e2, ?_⟩
  have e4 : ad.add 0 = ad := by simp [Addr.add]
  rw [e4] at e3; exact e3
set_option maxRecDepth 20000 in
set_option maxHeartbeats 8000000 in
theorem places_any (e : Es) (xo po : Nat → Option Addr) (xc pc : Nat → Nat) (w : World) (hl : ∀ i, i < 3 → (e.X i).length = 3) (h : e.See w (fun i => .slice (xo i) (e.X i).length (xc i)) (fun i => .slice (po i) (e.P i).length (pc i))) :
    Calls Tryz.prog 34 #[.agg #[.int .i64 (e.tu 0), .int .i64 (e.tu 1), .int .i64 (e.tu 2), .int .i64 (e.tu 3), .int .i64 (e.r 0), .int .i64 (e.c 0), .slice (xo 0) (e.X 0).length (xc 0), .int .i64 (e.r' 0), .int .i64 (e.c' 0), .slice (po 0) (e.P 0).length (pc 0), .int .i64 (e.r 1), .int .i64 (e.c 1), .slice (xo 1) (e.X 1).length (xc 1), .int .i64 (e.r' 1), .int .i64 (e.c' 1), .slice (po 1) (e.P 1).length (pc 1), .int .i64 (e.r 2), .int .i64 (e.c 2), .slice (xo 2) (e.X 2).length (xc 2), .int .i64 (e.r' 2), .int .i64 (e.c' 2), .slice (po 2) (e.P 2).length (pc 2), .int .i64 e.st, .int .i64 e.co, .int .i64 (e.off 0), .int .i64 (e.off 1), .int .i64 (e.off 2), .int .i64 (e.off 3), .bool e.sat]] w fun z b => z = .returned (.agg #[.int .i64 (ge (e.X 0) 0), .int .i64 (ge (e.X 1) 0), .int .i64 (ge (e.X 2) 0)]) ∧ Below w.heap.size w b := by
  obtain ⟨p1, p2, p3⟩ := allocs3 w (.cells #[.int .i64 (e.tu 0), .int .i64 (e.tu 1), .int .i64 (e.tu 2), .int .i64 (e.tu 3), .int .i64 (e.r 0), .int .i64 (e.c 0), .slice (xo 0) (e.X 0).length (xc 0), .int .i64 (e.r' 0), .int .i64 (e.c' 0), .slice (po 0) (e.P 0).length (pc 0), .int .i64 (e.r 1), .int .i64 (e.c 1), .slice (xo 1) (e.X 1).length (xc 1), .int .i64 (e.r' 1), .int .i64 (e.c' 1), .slice (po 1) (e.P 1).length (pc 1), .int .i64 (e.r 2), .int .i64 (e.c 2), .slice (xo 2) (e.X 2).length (xc 2), .int .i64 (e.r' 2), .int .i64 (e.c' 2), .slice (po 2) (e.P 2).length (pc 2), .int .i64 e.st, .int .i64 e.co, .int .i64 (e.off 0), .int .i64 (e.off 1), .int .i64 (e.off 2), .int .i64 (e.off 3), .bool e.sat] 35) (.cells #[.int .i64 0, .int .i64 0, .int .i64 0] 37) (.cells #[.int .i64 0, .int .i64 0, .int .i64 0] 37)
  have bW := ball3 w (.cells #[.int .i64 (e.tu 0), .int .i64 (e.tu 1), .int .i64 (e.tu 2), .int .i64 (e.tu 3), .int .i64 (e.r 0), .int .i64 (e.c 0), .slice (xo 0) (e.X 0).length (xc 0), .int .i64 (e.r' 0), .int .i64 (e.c' 0), .slice (po 0) (e.P 0).length (pc 0), .int .i64 (e.r 1), .int .i64 (e.c 1), .slice (xo 1) (e.X 1).length (xc 1), .int .i64 (e.r' 1), .int .i64 (e.c' 1), .slice (po 1) (e.P 1).length (pc 1), .int .i64 (e.r 2), .int .i64 (e.c 2), .slice (xo 2) (e.X 2).length (xc 2), .int .i64 (e.r' 2), .int .i64 (e.c' 2), .slice (po 2) (e.P 2).length (pc 2), .int .i64 e.st, .int .i64 e.co, .int .i64 (e.off 0), .int .i64 (e.off 1), .int .i64 (e.off 2), .int .i64 (e.off 3), .bool e.sat] 35) (.cells #[.int .i64 0, .int .i64 0, .int .i64 0] 37) (.cells #[.int .i64 0, .int .i64 0, .int .i64 0] 37)
  have hz : (((w.alloc (.cells #[.int .i64 (e.tu 0), .int .i64 (e.tu 1), .int .i64 (e.tu 2), .int .i64 (e.tu 3), .int .i64 (e.r 0), .int .i64 (e.c 0), .slice (xo 0) (e.X 0).length (xc 0), .int .i64 (e.r' 0), .int .i64 (e.c' 0), .slice (po 0) (e.P 0).length (pc 0), .int .i64 (e.r 1), .int .i64 (e.c 1), .slice (xo 1) (e.X 1).length (xc 1), .int .i64 (e.r' 1), .int .i64 (e.c' 1), .slice (po 1) (e.P 1).length (pc 1), .int .i64 (e.r 2), .int .i64 (e.c 2), .slice (xo 2) (e.X 2).length (xc 2), .int .i64 (e.r' 2), .int .i64 (e.c' 2), .slice (po 2) (e.P 2).length (pc 2), .int .i64 e.st, .int .i64 e.co, .int .i64 (e.off 0), .int .i64 (e.off 1), .int .i64 (e.off 2), .int .i64 (e.off 3), .bool e.sat] 35)).alloc (.cells #[.int .i64 0, .int .i64 0, .int .i64 0] 37)).alloc (.cells #[.int .i64 0, .int .i64 0, .int .i64 0] 37)).heap.size = w.heap.size + 3 := by simp
  have h0 := h.below bW
  have HL : Hid (∀ i, i < 3 → (e.X i).length = 3) := hl
  clear hl
  go_enter Tryz.func34, Tryz.ntmps34
  go_upto_region 2 with fail
  generalize ((w.alloc (.cells #[.int .i64 (e.tu 0), .int .i64 (e.tu 1), .int .i64 (e.tu 2), .int .i64 (e.tu 3), .int .i64 (e.r 0), .int .i64 (e.c 0), .slice (xo 0) (e.X 0).length (xc 0), .int .i64 (e.r' 0), .int .i64 (e.c' 0), .slice (po 0) (e.P 0).length (pc 0), .int .i64 (e.r 1), .int .i64 (e.c 1), .slice (xo 1) (e.X 1).length (xc 1), .int .i64 (e.r' 1), .int .i64 (e.c' 1), .slice (po 1) (e.P 1).length (pc 1), .int .i64 (e.r 2), .int .i64 (e.c 2), .slice (xo 2) (e.X 2).length (xc 2), .int .i64 (e.r' 2), .int .i64 (e.c' 2), .slice (po 2) (e.P 2).length (pc 2), .int .i64 e.st, .int .i64 e.co, .int .i64 (e.off 0), .int .i64 (e.off 1), .int .i64 (e.off 2), .int .i64 (e.off 3), .bool e.sat] 35)).alloc (.cells #[.int .i64 0, .int .i64 0, .int .i64 0] 37)).alloc (.cells #[.int .i64 0, .int .i64 0, .int .i64 0] 37) = V at p1 p2 p3 bW hz h0 ⊢
  obtain ⟨f, hwk, e4, e5, e6, e7, e8, e9, e10, e11, e12, e13, e14, e15, e16, e17, e18, e19, e20, e21⟩ : ∃ f : Nat → Value, Wk 29 V w.heap.size f ∧ f 4 = .int .i64 (e.r 0) ∧ f 5 = .int .i64 (e.c 0) ∧ f 6 = .slice (xo 0) (e.X 0).length (xc 0) ∧ f 7 = .int .i64 (e.r' 0) ∧ f 8 = .int .i64 (e.c' 0) ∧ f 9 = .slice (po 0) (e.P 0).length (pc 0) ∧ f 10 = .int .i64 (e.r 1) ∧ f 11 = .int .i64 (e.c 1) ∧ f 12 = .slice (xo 1) (e.X 1).length (xc 1) ∧ f 13 = .int .i64 (e.r' 1) ∧ f 14 = .int .i64 (e.c' 1) ∧ f 15 = .slice (po 1) (e.P 1).length (pc 1) ∧ f 16 = .int .i64 (e.r 2) ∧ f 17 = .int .i64 (e.c 2) ∧ f 18 = .slice (xo 2) (e.X 2).length (xc 2) ∧ f 19 = .int .i64 (e.r' 2) ∧ f 20 = .int .i64 (e.c' 2) ∧ f 21 = .slice (po 2) (e.P 2).length (pc 2) := ⟨fun k => (#[.int .i64 (e.tu 0), .int .i64 (e.tu 1), .int .i64 (e.tu 2), .int .i64 (e.tu 3), .int .i64 (e.r 0), .int .i64 (e.c 0), .slice (xo 0) (e.X 0).length (xc 0), .int .i64 (e.r' 0), .int .i64 (e.c' 0), .slice (po 0) (e.P 0).length (pc 0), .int .i64 (e.r 1), .int .i64 (e.c 1), .slice (xo 1) (e.X 1).length (xc 1), .int .i64 (e.r' 1), .int .i64 (e.c' 1), .slice (po 1) (e.P 1).length (pc 1), .int .i64 (e.r 2), .int .i64 (e.c 2), .slice (xo 2) (e.X 2).length (xc 2), .int .i64 (e.r' 2), .int .i64 (e.c' 2), .slice (po 2) (e.P 2).length (pc 2), .int .i64 e.st, .int .i64 e.co, .int .i64 (e.off 0), .int .i64 (e.off 1), .int .i64 (e.off 2), .int .i64 (e.off 3), .bool e.sat] : Array Value).getD k undef, ⟨_, _, p1, by simp, fun k hk => by simp [Array.getD, hk]⟩, rfl, rfl, rfl, rfl, rfl, rfl, rfl, rfl, rfl, rfl, rfl, rfl, rfl, rfl, rfl, rfl, rfl, rfl⟩
  refine pl2_seq (D := w.heap.size) (v4 := f 4) (v5 := f 5) (v6 := f 6) (v7 := f 7) (v8 := f 8) (v9 := f 9) (v10 := f 10) (v11 := f 11) (v12 := f 12) (v13 := f 13) (v14 := f 14) (v15 := f 15) (v16 := f 16) (v17 := f 17) (v18 := f 18) (v19 := f 19) (v20 := f 20) (v21 := f 21) (hwk.range 4 18 (by decide)) ?_
  rw [e4, e5, e6, e7, e8, e9, e10, e11, e12, e13, e14, e15, e16, e17, e18, e19, e20, e21]
  clear e4 e5 e6 e7 e8 e9 e10 e11 e12 e13 e14 e15 e16 e17 e18 e19 e20 e21
  clear hwk
  have hS0 : Wk 3 V (w.heap.size + 1 + 1) (plF (fun i => ge (e.X i) 0) 0) := ⟨_, _, p3, by simp, fun k hk => by
    rcases (by omega : k = 0 ∨ k = 1 ∨ k = 2) with rfl | rfl | rfl <;> rfl⟩
  obtain ⟨ad0, x0, k0, g0⟩ := See.first h 0 (by decide) (HL.out 0 (by decide))
  obtain ⟨ad1, x1, k1, g1⟩ := See.first h 1 (by decide) (HL.out 1 (by decide))
  obtain ⟨ad2, x2, k2, g2⟩ := See.first h 2 (by decide) (HL.out 2 (by decide))
  rw [x0, x1, x2, HL.out 0 (by decide), HL.out 1 (by decide), HL.out 2 (by decide)]
  have HB : Hid (Below w.heap.size w V) := bW
  clear h0 h p1 x0 x1 x2
  go_wp2
  go_loopw [8] (fun i wr => ∃ k : Nat, k ≤ 3 ∧ i = .int .i64 k ∧ Wk 3 wr (w.heap.size + 1 + 1) (plF (fun i => ge (e.X i) 0) k) ∧ Mod (fun b => b = w.heap.size + 1 + 1) V wr) (fun i _ => 3 - (intOf i).toNat)
  case atStart => exact ⟨0, Nat.zero_le _, rfl, hS0, Mod.refl _ _⟩
  case round =>
    obtain ⟨k, hk, rfl, hw, hm⟩ := hrel
    by_cases h3k : k = 3
    · subst h3k
      have c0 := hw.cell (k := 0) (by decide) rfl
      have c1 := hw.cell (k := 1) (by decide) rfl
      have c2 := hw.cell (k := 2) (by decide) rfl
      obtain ⟨y0, y1, y2, z0, z1, z2⟩ := mat_cells ((hm.block (w.heap.size + 1) (lt_of_block p2) (by omega)).trans p2)
      simp only [plF, Nat.reduceLT, if_true] at c0 c1 c2
      go_wp2
      refine bodyPost_ret (v := .agg #[.int .i64 (ge (e.X 0) 0), .int .i64 (ge (e.X 1) 0), .int .i64 (ge (e.X 2) 0)]) (by simp [results, Tryz.results34, go_sem, y0, y1, y2]) rfl ?_
      exact ⟨rfl, below_put (bW.trans (hm.below (by omega) (fun q hq => by omega))) (by omega) _ _ _⟩
    rcases (by omega : k = 0 ∨ k = 1 ∨ k = 2) with rfl | rfl | rfl
    · have hix := fun a0 a1 a2 a3 a4 a5 a6 a7 a8 a9 a10 a11 a12 a13 a14 a15 a16 a17 => index_axes0 a0 a1 a2 a3 a4 a5 a6 a7 a8 a9 a10 a11 a12 a13 a14 a15 a16 a17 wr
      have bA := box_below wr (.cells #[.int .i64 (e.r 0), .int .i64 (e.c 0), .slice (some ad0) 3 (xc 0), .int .i64 (e.r' 0), .int .i64 (e.c' 0), .slice (po 0) (e.P 0).length (pc 0)] 31)
      have bm : Below w.heap.size w (wr.alloc (.cells #[.int .i64 (e.r 0), .int .i64 (e.c 0), .slice (some ad0) 3 (xc 0), .int .i64 (e.r' 0), .int .i64 (e.c' 0), .slice (po 0) (e.P 0).length (pc 0)] 31)) := (HB.out.trans (hm.below (by omega) (fun q hq => by omega))).trans (bA.mono (by have := hm.size; omega))
      have hcw := (bm.cell k0).trans g0
      have hw' := hw.below bA
      have cc := hw'.cell (k := 0) (by decide) rfl
      have cf := hw'.frozen 0
      have HS : Hid (Wk 3 ((wr.alloc (.cells #[.int .i64 (e.r 0), .int .i64 (e.c 0), .slice (some ad0) 3 (xc 0), .int .i64 (e.r' 0), .int .i64 (e.c' 0), .slice (po 0) (e.P 0).length (pc 0)] 31)).setCell ⟨w.heap.size + 1 + 1, 0, none⟩ (.int .i64 (ge (e.X 0) 0))) (w.heap.size + 1 + 1) (plF (fun i => ge (e.X i) 0) (0 + 1))) := (hw'.set 0 _).congr (plF_up _ 0)
      have HM : Hid (Mod (fun b => b = w.heap.size + 1 + 1) V ((wr.alloc (.cells #[.int .i64 (e.r 0), .int .i64 (e.c 0), .slice (some ad0) 3 (xc 0), .int .i64 (e.r' 0), .int .i64 (e.c' 0), .slice (po 0) (e.P 0).length (pc 0)] 31)).setCell ⟨w.heap.size + 1 + 1, 0, none⟩ (.int .i64 (ge (e.X 0) 0)))) := (hm.trans (Mod.of bA)).trans mod_set
      clear hw hw' hm bm
      go_wp2
      go_roundw
      case rel => exact ⟨0 + 1, by decide, by go_num, HS.out, HM.out⟩
      case measure => simp [intOf]
    · have hix := fun a0 a1 a2 a3 a4 a5 a6 a7 a8 a9 a10 a11 a12 a13 a14 a15 a16 a17 => index_axes1 a0 a1 a2 a3 a4 a5 a6 a7 a8 a9 a10 a11 a12 a13 a14 a15 a16 a17 wr
      have bA := box_below wr (.cells #[.int .i64 (e.r 1), .int .i64 (e.c 1), .slice (some ad1) 3 (xc 1), .int .i64 (e.r' 1), .int .i64 (e.c' 1), .slice (po 1) (e.P 1).length (pc 1)] 31)
      have bm : Below w.heap.size w (wr.alloc (.cells #[.int .i64 (e.r 1), .int .i64 (e.c 1), .slice (some ad1) 3 (xc 1), .int .i64 (e.r' 1), .int .i64 (e.c' 1), .slice (po 1) (e.P 1).length (pc 1)] 31)) := (HB.out.trans (hm.below (by omega) (fun q hq => by omega))).trans (bA.mono (by have := hm.size; omega))
      have hcw := (bm.cell k1).trans g1
      have hw' := hw.below bA
      have cc := hw'.cell (k := 1) (by decide) rfl
      have cf := hw'.frozen 1
      have HS : Hid (Wk 3 ((wr.alloc (.cells #[.int .i64 (e.r 1), .int .i64 (e.c 1), .slice (some ad1) 3 (xc 1), .int .i64 (e.r' 1), .int .i64 (e.c' 1), .slice (po 1) (e.P 1).length (pc 1)] 31)).setCell ⟨w.heap.size + 1 + 1, 1, none⟩ (.int .i64 (ge (e.X 1) 0))) (w.heap.size + 1 + 1) (plF (fun i => ge (e.X i) 0) (1 + 1))) := (hw'.set 1 _).congr (plF_up _ 1)
      have HM : Hid (Mod (fun b => b = w.heap.size + 1 + 1) V ((wr.alloc (.cells #[.int .i64 (e.r 1), .int .i64 (e.c 1), .slice (some ad1) 3 (xc 1), .int .i64 (e.r' 1), .int .i64 (e.c' 1), .slice (po 1) (e.P 1).length (pc 1)] 31)).setCell ⟨w.heap.size + 1 + 1, 1, none⟩ (.int .i64 (ge (e.X 1) 0)))) := (hm.trans (Mod.of bA)).trans mod_set
      clear hw hw' hm bm
      go_wp2
      go_roundw
      case rel => exact ⟨1 + 1, by decide, by go_num, HS.out, HM.out⟩
      case measure => simp [intOf]
    · have hix := fun a0 a1 a2 a3 a4 a5 a6 a7 a8 a9 a10 a11 a12 a13 a14 a15 a16 a17 => index_axes2 a0 a1 a2 a3 a4 a5 a6 a7 a8 a9 a10 a11 a12 a13 a14 a15 a16 a17 wr
      have bA := box_below wr (.cells #[.int .i64 (e.r 2), .int .i64 (e.c 2), .slice (some ad2) 3 (xc 2), .int .i64 (e.r' 2), .int .i64 (e.c' 2), .slice (po 2) (e.P 2).length (pc 2)] 31)
      have bm : Below w.heap.size w (wr.alloc (.cells #[.int .i64 (e.r 2), .int .i64 (e.c 2), .slice (some ad2) 3 (xc 2), .int .i64 (e.r' 2), .int .i64 (e.c' 2), .slice (po 2) (e.P 2).length (pc 2)] 31)) := (HB.out.trans (hm.below (by omega) (fun q hq => by omega))).trans (bA.mono (by have := hm.size; omega))
      have hcw := (bm.cell k2).trans g2
      have hw' := hw.below bA
      have cc := hw'.cell (k := 2) (by decide) rfl
      have cf := hw'.frozen 2
      have HS : Hid (Wk 3 ((wr.alloc (.cells #[.int .i64 (e.r 2), .int .i64 (e.c 2), .slice (some ad2) 3 (xc 2), .int .i64 (e.r' 2), .int .i64 (e.c' 2), .slice (po 2) (e.P 2).length (pc 2)] 31)).setCell ⟨w.heap.size + 1 + 1, 2, none⟩ (.int .i64 (ge (e.X 2) 0))) (w.heap.size + 1 + 1) (plF (fun i => ge (e.X i) 0) (2 + 1))) := (hw'.set 2 _).congr (plF_up _ 2)
      have HM : Hid (Mod (fun b => b = w.heap.size + 1 + 1) V ((wr.alloc (.cells #[.int .i64 (e.r 2), .int .i64 (e.c 2), .slice (some ad2) 3 (xc 2), .int .i64 (e.r' 2), .int .i64 (e.c' 2), .slice (po 2) (e.P 2).length (pc 2)] 31)).setCell ⟨w.heap.size + 1 + 1, 2, none⟩ (.int .i64 (ge (e.X 2) 0)))) := (hm.trans (Mod.of bA)).trans mod_set
      clear hw hw' hm bm
      go_wp2
      go_roundw
      case rel => exact ⟨2 + 1, by decide, by go_num, HS.out, HM.out⟩
      case measure => simp [intOf]
end Go.Proofs.YtoefekkdjcflmaaGreatDoor.Et

