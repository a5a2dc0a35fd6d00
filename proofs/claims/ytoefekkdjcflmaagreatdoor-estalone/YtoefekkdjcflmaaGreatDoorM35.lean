/- Parts of the proof. -/
import Derived.Test.YtoefekkdjcflmaaGreatDoorM22
namespace Go.Proofs.YtoefekkdjcflmaaGreatDoor
open Go.RowKit Go.Sort Qm
def kcpOps : Array Oper := #[
 ⟨some 3, .fieldAddr 31 (.tmp 1) 0, 0, "kalman.go:210", #[], none⟩,
 ⟨some 4, .fieldAddr 29 (.tmp 3) 2, 0, "kalman.go:210", #[eD 0], none⟩,
 ⟨some 5, .load 27 (.tmp 4), 27, "kalman.go:210", #[eD 1], none⟩,
 ⟨some 6, .call ⟨.value (.func 85), #[.tmp 5], #[27]⟩, 27, "kalman.go:210", #[eD 2], none⟩,
 ⟨some 7, .fieldAddr 31 (.tmp 1) 1, 0, "kalman.go:210", #[], none⟩,
 ⟨some 8, .fieldAddr 29 (.tmp 7) 2, 0, "kalman.go:210", #[eD 4], none⟩,
 ⟨some 9, .load 27 (.tmp 8), 27, "kalman.go:210", #[eD 5], none⟩,
 ⟨some 10, .call ⟨.value (.func 85), #[.tmp 9], #[27]⟩, 27, "kalman.go:210", #[eD 6, eC 3], none⟩,
 ⟨some 11, .fieldAddr 31 (.tmp 1) 0, 0, "kalman.go:210", #[eP 0, eP 1, eP 2, eP 3, eP 4, eP 5, eP 6, ⟨7, .textOnly .lateStoresUnsure⟩], none⟩,
 ⟨some 12, .fieldAddr 29 (.tmp 11) 2, 0, "kalman.go:210", #[eD 8, eP 0, eP 1, eP 2, eP 3, eP 4, eP 5, eP 6, ⟨7, .textOnly .lateStoresUnsure⟩], none⟩,
 ⟨none, .store 27 (.tmp 12) (.tmp 6), 0, "kalman.go:210", #[eD 9, eD 3, eC 7, eP 0, eP 1, eP 2, eP 3, eP 4, eP 5, eP 6, ⟨7, .textOnly .lateStoresUnsure⟩], none⟩,
 ⟨some 13, .fieldAddr 31 (.tmp 1) 1, 0, "kalman.go:210", #[eP 0, eP 1, eP 2, eP 3, eP 4, eP 5, eP 6, eP 7, eP 8, eP 9, eP 10], none⟩,
 ⟨some 14, .fieldAddr 29 (.tmp 13) 2, 0, "kalman.go:210", #[eD 11, eP 0, eP 1, eP 2, eP 3, eP 4, eP 5, eP 6, eP 7, eP 8, eP 9, eP 10], none⟩,
 ⟨none, .store 27 (.tmp 14) (.tmp 10), 0, "kalman.go:210", #[eD 12, eD 7, eC 10, eP 0, eP 1, eP 2, eP 3, eP 4, eP 5, eP 6, eP 7, eP 8, eP 9, eP 10], none⟩]
def kcpDst (i : Nat) : Nat := [3, 4, 5, 6, 7, 8, 9, 10, 11, 12, 1010, 13, 14, 1013].getD i 0
def kcpFr (D : Nat) (u0 u2 u15 : Value) (vs : Nat → Value) : Act := ⟨#[u0, .pointer (some ⟨D, 0, none⟩), u2, vs 3, vs 4, vs 5, vs 6, vs 7, vs 8, vs 9, vs 10, vs 11, vs 12, vs 13, vs 14, u15], []⟩
def kcpT (B D : Nat) (n1 c1 n2 c2 : Int) (xs ps : List Int) (ao bo : Option Addr) (ac bc : Nat) : Nat → Value → Value → (Nat → Prop) → World → Prop
  | 0, v, _, _, _ => v = .pointer (some ⟨D, 0, none⟩)
  | 1, v, _, _, _ => v = .pointer (some ⟨D, 2, none⟩)
  | 2, v, _, _, _ => v = .slice ao xs.length ac
  | 3, v, _, S, w => TNum B xs v S w
  | 4, v, _, _, _ => v = .pointer (some ⟨D, 3, none⟩)
  | 5, v, _, _, _ => v = .pointer (some ⟨D, 5, none⟩)
  | 6, v, _, _, _ => v = .slice bo ps.length bc
  | 7, v, _, S, w => TNum B ps v S w
  | 8, v, _, _, _ => v = .pointer (some ⟨D, 0, none⟩)
  | 9, v, _, _, _ => v = .pointer (some ⟨D, 2, none⟩)
  | 10, _, u, S, w => THalf D n1 c1 n2 c2 (.slice bo ps.length bc) u S w
  | 11, v, _, _, _ => v = .pointer (some ⟨D, 3, none⟩)
  | 12, v, _, _, _ => v = .pointer (some ⟨D, 5, none⟩)
  | 13, _, u, S, w => TBoth B D n1 c1 n2 c2 xs ps u S w
  | _, _, _, _, _ => True
theorem cell_six {w : World} {b : Nat} {x y z u v t : Value} {T : TypeId} (h : w.heap[b]? = some (.cells #[x, y, z, u, v, t] T (0, 0))) : w.cell? ⟨b, 2, none⟩ = some z ∧ w.cell? ⟨b, 5, none⟩ = some t := by
  simp [World.cell?, h]
theorem free_six {w : World} {b : Nat} {x y z u v t : Value} {T : TypeId} (h : w.heap[b]? = some (.cells #[x, y, z, u, v, t] T (0, 0))) : w.frozen? ⟨b, 2, none⟩ = false ∧ w.frozen? ⟨b, 5, none⟩ = false := by
  simp [World.frozen?, h]
set_option maxRecDepth 40000 in
set_option maxHeartbeats 800000 in
theorem kcp_region {Q : Exit → Act → World → Prop} {w0 : World} {D : Nat} {n1 c1 n2 c2 : Int} {xs ps : List Int} {ao bo : Option Addr} {ac bc : Nat} {u0 u2 u15 : Value} (hN : w0.heap[D]? = some (.cells #[.int .i64 n1, .int .i64 c1, .slice ao xs.length ac, .int .i64 n2, .int .i64 c2, .slice bo ps.length bc] 31 (0, 0)))
    (k1 : ∀ w, Mod (fun b => b = D) w0 w → Calls Tryz.prog 85 #[.slice ao xs.length ac] w fun e b => ∃ v', e = .returned v' ∧ Sees b v' xs ∧ New w.heap.size v' ∧ Below w.heap.size w b) (z_xs : 0 < xs.length)
    (k2 : ∀ w, Mod (fun b => b = D) w0 w → Calls Tryz.prog 85 #[.slice bo ps.length bc] w fun e b => ∃ v', e = .returned v' ∧ Sees b v' ps ∧ New w.heap.size v' ∧ Below w.heap.size w b) (z_ps : 0 < ps.length)
    (hQ : ∀ vs ao ac bo bc w, Mod (fun b => b = D) w0 w → w.heap[D]? = some (.cells #[.int .i64 n1, .int .i64 c1, .slice ao xs.length ac, .int .i64 n2, .int .i64 c2, .slice bo ps.length bc] 31 (0, 0)) → Sees w (.slice ao xs.length ac) xs → Sees w (.slice bo ps.length bc) ps → New w0.heap.size (.slice ao xs.length ac) → New w0.heap.size (.slice bo ps.length bc) → Q .normal (kcpFr D u0 u2 u15 vs) w) :
    (Code.region 1 kcpOps true).wp Tryz.prog Q (kcpFr D u0 u2 u15 (fun _ => undef)) w0 := by
  refine wp_region_own2 (by kernel_rfl) (by decide) kcpDst (by decide) (kcpFr D u0 u2 u15) (fun _ => undef) (fun i => if i = 10 then 3 else if i = 13 then 7 else i) (by decide) (fun b => b = D) (fun q hq => by subst hq; exact lt_of_block hN) (fun i q => i = 10 ∧ q = D) (fun i q h => h.2) (fun i j q h h' => h.1.trans h'.1.symm)
    (fun s j => s = 13 ∧ j = 10) (fun s j h => by obtain ⟨rfl, rfl⟩ := h; exact ⟨by decide, by decide⟩) (fun s j h => by obtain ⟨rfl, rfl⟩ := h; decide) (kcpT w0.heap.size D n1 c1 n2 c2 xs ps ao bo ac bc) ?_ ?_ ?_
  · intro i v u S w w' hi h hw hw' hz hS
    have ha : Agr w0.heap.size D S w w' := agr_of hw hw' hz hS
    have hi' : i < 14 := hi
    rcases (by omega : i = 0 ∨ i = 1 ∨ i = 2 ∨ i = 3 ∨ i = 4 ∨ i = 5 ∨ i = 6 ∨ i = 7 ∨ i = 8 ∨ i = 9 ∨ i = 10 ∨ i = 11 ∨ i = 12 ∨ i = 13) with rfl | rfl | rfl | rfl | rfl | rfl | rfl | rfl | rfl | rfl | rfl | rfl | rfl | rfl
    · exact h
    · exact h
    · exact h
    · exact TNum.stab h ha
    · exact h
    · exact h
    · exact h
    · exact TNum.stab h ha
    · exact h
    · exact h
    · exact THalf.stab h ha
    · exact h
    · exact h
    · exact TBoth.stab h ha
  · intro i hi vs w S hb hp hbd hwr hkl _
    have hi' : i < 14 := hi
    rcases (by omega : i = 0 ∨ i = 1 ∨ i = 2 ∨ i = 3 ∨ i = 4 ∨ i = 5 ∨ i = 6 ∨ i = 7 ∨ i = 8 ∨ i = 9 ∨ i = 10 ∨ i = 11 ∨ i = 12 ∨ i = 13) with rfl | rfl | rfl | rfl | rfl | rfl | rfl | rfl | rfl | rfl | rfl | rfl | rfl | rfl
    · exact wpOp_of _ rfl rfl (op_fieldT (i := 0) (by decide) rfl rfl ⟨_, fun _ => False, rfl, rfl, fun _ h => h.elim, fun _ _ h => h.elim, Mod.refl _ _⟩)
    · have h : vs 3 = .pointer (some ⟨D, 0, none⟩) := hp 0 (by decide)
      exact wpOp_of _ rfl rfl (op_fieldM2 rfl h ⟨_, fun _ => False, rfl, rfl, fun _ h => h.elim, fun _ _ h => h.elim, Mod.refl _ _⟩)
    · have h : vs 4 = .pointer (some ⟨D, 2, none⟩) := hp 1 (by decide)
      exact wpOp_of _ rfl rfl (op_loadS rfl h (cell_six ((hwr D rfl (fun j h => (by obtain ⟨rfl, _⟩ := h; exact ⟨by decide, .inr (by decide)⟩))).trans hN)).1 ⟨_, fun _ => False, rfl, rfl, fun _ h => h.elim, fun _ _ h => h.elim, Mod.refl _ _⟩)
    · have h : vs 5 = .slice ao xs.length ac := hp 2 (by decide)
      exact wpOp_of _ rfl rfl (op_call1 enters_clone rfl h (k1 w hb) (by rintro e b ⟨v, rfl, s', n', b'⟩; have hl := s'.lt z_xs; obtain ⟨so, sc, hv⟩ := s'.slice; exact ⟨_, rfl, _, fun q => v.ownBlock = some q, rfl, ⟨so, sc, hv, s', fun q hq => ⟨hq, Nat.le_trans hb.size (n' q hq)⟩⟩, fun q hq => .inr (.inl ⟨n' q hq, hl q hq⟩), fun h => (by obtain ⟨s9, h9⟩ := h; exact absurd h9.2 (by decide)), Mod.of b'⟩))
    · exact wpOp_of _ rfl rfl (op_fieldT (i := 1) (by decide) rfl rfl ⟨_, fun _ => False, rfl, rfl, fun _ h => h.elim, fun _ _ h => h.elim, Mod.refl _ _⟩)
    · have h : vs 7 = .pointer (some ⟨D, 3, none⟩) := hp 4 (by decide)
      exact wpOp_of _ rfl rfl (op_fieldM2 rfl h ⟨_, fun _ => False, rfl, rfl, fun _ h => h.elim, fun _ _ h => h.elim, Mod.refl _ _⟩)
    · have h : vs 8 = .pointer (some ⟨D, 5, none⟩) := hp 5 (by decide)
      exact wpOp_of _ rfl rfl (op_loadS rfl h (cell_six ((hwr D rfl (fun j h => (by obtain ⟨rfl, _⟩ := h; exact ⟨by decide, .inr (by decide)⟩))).trans hN)).2 ⟨_, fun _ => False, rfl, rfl, fun _ h => h.elim, fun _ _ h => h.elim, Mod.refl _ _⟩)
    · have h : vs 9 = .slice bo ps.length bc := hp 6 (by decide)
      exact wpOp_of _ rfl rfl (op_call1 enters_clone rfl h (k2 w hb) (by rintro e b ⟨v, rfl, s', n', b'⟩; have hl := s'.lt z_ps; obtain ⟨so, sc, hv⟩ := s'.slice; exact ⟨_, rfl, _, fun q => v.ownBlock = some q, rfl, ⟨so, sc, hv, s', fun q hq => ⟨hq, Nat.le_trans hb.size (n' q hq)⟩⟩, fun q hq => .inr (.inl ⟨n' q hq, hl q hq⟩), fun h => (by obtain ⟨s9, h9⟩ := h; exact absurd h9.2 (by decide)), Mod.of b'⟩))
    · exact wpOp_of _ rfl rfl (op_fieldT (i := 0) (by decide) rfl rfl ⟨_, fun _ => False, rfl, rfl, fun _ h => h.elim, fun _ _ h => h.elim, Mod.refl _ _⟩)
    · have h : vs 11 = .pointer (some ⟨D, 0, none⟩) := hp 8 (by decide)
      exact wpOp_of _ rfl rfl (op_fieldM2 rfl h ⟨_, fun _ => False, rfl, rfl, fun _ h => h.elim, fun _ _ h => h.elim, Mod.refl _ _⟩)
    · have h : vs 12 = .pointer (some ⟨D, 2, none⟩) := hp 9 (by decide)
      obtain ⟨so, sc, hv, _, _⟩ : TNum w0.heap.size xs (vs 6) (S 3) w := hp 3 (by decide)
      have hbl := (hwr D rfl (fun j h => ⟨by rw [h.1]; decide, .inl h.1⟩)).trans hN
      refine wpOp_of _ rfl rfl (op_storeS rfl rfl h hv (cell_six hbl).1 (free_six hbl).1 ?_)
      refine ⟨undef, fun q => q = D, rfl, ⟨rfl, ?_⟩, fun q hq => .inr (.inr ⟨rfl, hq⟩), fun _ q hq => .inr ⟨rfl, hq⟩, (Mod.ofGb (gb_set (gb_refl w (some D)) 2 _)).mono fun q _ hq => .inl ⟨rfl, hq⟩⟩
      rw [show (if (if (10 : Nat) = 10 then 3 else if (10 : Nat) = 13 then 7 else 10) = 10 then undef else vs (kcpDst (if (10 : Nat) = 10 then 3 else if (10 : Nat) = 13 then 7 else 10))) = vs 6 from rfl, hv]
      exact (heap_setCell_same w D 2 _ 31 _ hbl).trans (by rfl)
    · exact wpOp_of _ rfl rfl (op_fieldT (i := 1) (by decide) rfl rfl ⟨_, fun _ => False, rfl, rfl, fun _ h => h.elim, fun _ _ h => h.elim, Mod.refl _ _⟩)
    · have h : vs 13 = .pointer (some ⟨D, 3, none⟩) := hp 11 (by decide)
      exact wpOp_of _ rfl rfl (op_fieldM2 rfl h ⟨_, fun _ => False, rfl, rfl, fun _ h => h.elim, fun _ _ h => h.elim, Mod.refl _ _⟩)
    · have h : vs 14 = .pointer (some ⟨D, 5, none⟩) := hp 12 (by decide)
      obtain ⟨so, sc, hv, h2, h3⟩ : TNum w0.heap.size ps (vs 10) (S 7) w := hp 7 (by decide)
      obtain ⟨so1, sc1, hv1, g2, g3⟩ : TNum w0.heap.size xs (vs 6) (S 3) w := hp 3 (by decide)
      obtain ⟨hSD, hbl⟩ : THalf D n1 c1 n2 c2 (.slice bo ps.length bc) (vs 6) (S 10) w := hp 10 (by decide)
      rw [hv1] at hbl g2 g3
      rw [hv] at h2 h3
      have ne1 : ∀ q, (Value.slice so1 xs.length sc1).ownBlock = some q → q ≠ D := fun q hq e => hkl 10 ⟨rfl, rfl⟩ 3 (by decide) (by decide) D hSD (e ▸ (g3 q hq).1)
      have ne2 : ∀ q, (Value.slice so ps.length sc).ownBlock = some q → q ≠ D := fun q hq e => hkl 10 ⟨rfl, rfl⟩ 7 (by decide) (by decide) D hSD (e ▸ (h3 q hq).1)
      refine wpOp_of _ rfl rfl (op_storeS rfl rfl h hv (cell_six hbl).2 (free_six hbl).2 ?_)
      refine ⟨undef, fun q => q = D ∨ S 3 q ∨ S 7 q, rfl, ⟨.inl rfl, so1, sc1, so, sc, hv, ?_, g2.set' (a := ⟨D, 5, none⟩) ne1 _, h2.set' (a := ⟨D, 5, none⟩) ne2 _, fun q hq => ⟨.inr (.inl (g3 q hq).1), (g3 q hq).2⟩, fun q hq => ⟨.inr (.inr (h3 q hq).1), (h3 q hq).2⟩⟩, fun q hq => hq.elim (fun h => .inl ⟨10, by decide, fun _ h9 => h9.1, h ▸ hSD⟩) (fun h => h.elim (fun h => .inl ⟨3, by decide, fun _ h9 => absurd h9.2 (by decide), h⟩) (fun h => .inl ⟨7, by decide, fun _ h9 => absurd h9.2 (by decide), h⟩)), fun h => (by obtain ⟨s9, h9⟩ := h; exact absurd h9.2 (by decide)), (Mod.ofGb (gb_set (gb_refl w (some D)) 5 _)).mono fun q _ hq => .inr ⟨10, ⟨rfl, rfl⟩, hq ▸ hSD⟩⟩
      exact (heap_setCell_same w D 5 _ 31 _ hbl).trans (by rfl)
  · intro vs w S hb hT
    obtain ⟨_, ao, ac, bo, bc, _, h2, h3, h4, h5, h6⟩ : TBoth w0.heap.size D n1 c1 n2 c2 xs ps (vs 10) (S 13) w := hT 13 (by decide) (fun s h => by omega)
    exact hQ vs ao ac bo bc w hb h2 h3 h4 (fun q hq => (h5 q hq).2) (fun q hq => (h6 q hq).2)
set_option maxRecDepth 20000 in
set_option maxHeartbeats 800000 in
theorem copied_any (n1 c1 n2 c2 : Int) (va vb : Value) (xs ps : List Int) (hx : xs.length ≤ 100) (hp : ps.length ≤ 100) (px : 0 < xs.length) (pp : 0 < ps.length) (w : World) (sa : Sees w va xs) (sb : Sees w vb ps) :
    Calls Tryz.prog 170 #[.agg #[.int .i64 n1, .int .i64 c1, va, .int .i64 n2, .int .i64 c2, vb]] w fun e b => ∃ va vb, e = .returned (.agg #[.int .i64 n1, .int .i64 c1, va, .int .i64 n2, .int .i64 c2, vb]) ∧ Sees b va xs ∧ Sees b vb ps ∧ New w.heap.size va ∧ New w.heap.size vb ∧ Below w.heap.size w b := by
  obtain ⟨ao, ac, rfl⟩ := sa.slice
  obtain ⟨bo, bc, rfl⟩ := sb.slice
  obtain ⟨W, hW⟩ : ∃ W, (w.alloc (.cells #[.int .i64 n1, .int .i64 c1, .slice ao xs.length ac, .int .i64 n2, .int .i64 c2, .slice bo ps.length bc] 31)).alloc (.cells #[.int .i64 0, .int .i64 0, .slice none 0 0, .int .i64 0, .int .i64 0, .slice none 0 0] 31) = W := ⟨_, rfl⟩
  obtain ⟨x1, x2⟩ := allocs2 w (.cells #[.int .i64 n1, .int .i64 c1, .slice ao xs.length ac, .int .i64 n2, .int .i64 c2, .slice bo ps.length bc] 31) (.cells #[.int .i64 0, .int .i64 0, .slice none 0 0, .int .i64 0, .int .i64 0, .slice none 0 0] 31)
  have bW := ball2 w (.cells #[.int .i64 n1, .int .i64 c1, .slice ao xs.length ac, .int .i64 n2, .int .i64 c2, .slice bo ps.length bc] 31) (.cells #[.int .i64 0, .int .i64 0, .slice none 0 0, .int .i64 0, .int .i64 0, .slice none 0 0] 31)
  rw [hW] at x1 x2 bW
  have hW2 : w.heap.size + 2 = W.heap.size := by rw [← hW]; simp
  have oa : Old W.heap.size w.heap.size (.slice ao xs.length ac) := old_of sa px (by omega) (by omega)
  have ob' : Old W.heap.size w.heap.size (.slice bo ps.length bc) := old_of sb pp (by omega) (by omega)
  have k1 := fun v (hv : Mod (fun b => b = w.heap.size) W v) => clone_any _ xs px hx v ((sa.below bW).mod oa hv)
  have k2 := fun v (hv : Mod (fun b => b = w.heap.size) W v) => clone_any _ ps pp hp v ((sb.below bW).mod ob' hv)
  go_enter Tryz.func170, Tryz.ntmps170
  go_wp2
  refine kcp_region (D := w.heap.size) (n1 := n1) (c1 := c1) (n2 := n2) (c2 := c2) (xs := xs) (ps := ps) (ao := ao) (bo := bo) (ac := ac) (bc := bc) x1 k1 px k2 pp ?_
  intro vs ao' ac' bo' bc' wa ma hb1 s1 s2 m1 m2
  unfold kcpFr
  have hd := ma.old x2 (by omega)
  obtain ⟨c0, c1', c2', c3, c4, c5⟩ := six_cells hb1
  obtain ⟨d0, d1, d2, d3, d4, d5⟩ := six_cells hd
  obtain ⟨f0, f1, f2, f3, f4, f5⟩ := six_free hd
  have bE : Below w.heap.size w wa := bW.trans (ma.below (by omega) (fun k hk => by omega))
  have hl1 := s1.lt px
  have hl2 := s2.lt pp
  have HE := fun y0 y1 y2 y3 y4 y5 => below_six (D := w.heap.size + 1) bE (by omega) y0 y1 y2 y3 y4 y5
  have HS1 := fun y0 y1 y2 y3 y4 y5 => s1.six (D := w.heap.size + 1) (fun k hk => by have := m1 k hk; omega) y0 y1 y2 y3 y4 y5
  have HS2 := fun y0 y1 y2 y3 y4 y5 => s2.six (D := w.heap.size + 1) (fun k hk => by have := m2 k hk; omega) y0 y1 y2 y3 y4 y5
  clear hW s1 s2 ma hb1 hd k1 k2 x1 x2 bE
  go_wp2
  refine bodyPost_ret (v := .agg #[.int .i64 n1, .int .i64 c1, .slice ao' xs.length ac', .int .i64 n2, .int .i64 c2, .slice bo' ps.length bc']) (by simp [results, Tryz.results170, go_sem, d0, d1, d2, d3, d4, d5]) rfl ?_
  exact ⟨_, _, rfl, HS1 _ _ _ _ _ _, HS2 _ _ _ _ _ _, m1.mono (by omega), m2.mono (by omega), HE _ _ _ _ _ _⟩
theorem enters_copied : ∀ (args : Array Value) (a : World), Sem.run Tryz.prog (callFunc 170 args) a = Result.ok (Next.enter 170 args) a := by
  intro args a
  simp [callFunc, Tryz.func170, go_sem]
  rfl
def ku6Ops : Array Oper := #[
 ⟨some 42, .load 31 (.tmp 5), 31, "kalman.go:80", #[], none⟩,
 ⟨some 43, .call ⟨.value (.func 170), #[.tmp 42], #[31]⟩, 31, "kalman.go:80", #[eD 0], none⟩,
 ⟨some 44, .fieldAddr 141 (.tmp 18) 0, 0, "kalman.go:80", #[⟨5, .gcOnly .lateStores⟩], none⟩,
 ⟨some 45, .load 4 (.tmp 44), 4, "kalman.go:80", #[eD 2, ⟨5, .gcOnly .lateStores⟩], none⟩,
 ⟨none, .store 31 (.tmp 10) (.tmp 43), 0, "kalman.go:80", #[eD 1, eC 1, eP 0, eP 1, ⟨2, .textOnly .lateStores⟩, ⟨3, .textOnly .lateStores⟩], none⟩,
 ⟨some 11, .assign (.const (.bool false)), 4, "kalman.go:80", #[eC 4, eP 0, eP 1, ⟨2, .textOnly .lateStores⟩, ⟨3, .textOnly .lateStores⟩, eP 4], none⟩,
 ⟨some 12, .assign (.tmp 45), 4, "kalman.go:80", #[eD 3, eC 5, eP 0, eP 1, eP 2, eP 3, eP 4, eP 5], none⟩,
 ⟨some 13, .assign (.const (.int .i64 0)), 47, "kalman.go:80", #[eC 6, eP 0, eP 1, eP 2, eP 3, eP 4, eP 5, eP 6], none⟩]
def ku6Dst (i : Nat) : Nat := [42, 43, 44, 45, 1000, 11, 12, 13].getD i 0
def ku6Fr (Nn : Nat) (D5 : Nat) (D10 : Nat) (u0 u1 u2 u3 u4 u6 u7 u8 u9 u14 u15 u16 u17 u19 u20 u21 u22 u23 u24 u25 u26 u27 u28 u29 u30 u31 u32 u33 u34 u35 u36 u37 u38 u39 u40 u41 u46 u47 u48 u49 u50 u51 u52 u53 u54 u55 u56 u57 u58 u59 u60 u61 : Value) (vs : Nat → Value) : Act := ⟨#[u0, u1, u2, u3, u4, .pointer (some ⟨D5, 0, none⟩), u6, u7, u8, u9, .pointer (some ⟨D10, 0, none⟩), vs 11, vs 12, vs 13, u14, u15, u16, u17, .pointer (some ⟨Nn, 0, none⟩), u19, u20, u21, u22, u23, u24, u25, u26, u27, u28, u29, u30, u31, u32, u33, u34, u35, u36, u37, u38, u39, u40, u41, vs 42, vs 43, vs 44, vs 45, u46, u47, u48, u49, u50, u51, u52, u53, u54, u55, u56, u57, u58, u59, u60, u61], []⟩
def ku6T (B Lo : Nat) (Nn : Nat) (D10 : Nat) (n : Nat) (xo : Option Addr) (xcap : Nat) (po : Option Addr) (pcap : Nat) (xs : List Int) (ps : List Int) (m : Bool) : Nat → Value → Value → (Nat → Prop) → World → Prop
  | 0, v, _, _, _ => v = .agg #[.int .i64 n, .int .i64 1, .slice xo xs.length xcap, .int .i64 n, .int .i64 n, .slice po ps.length pcap]
  | 1, v, _, S, w => TTrk B D10 Lo n 1 n n xs ps v S w
  | 2, v, _, _, _ => v = .pointer (some ⟨Nn, 0, none⟩)
  | 3, v, _, _, _ => v = .bool m
  | 4, _, _, S, w => TStT B D10 Lo n 1 n n xs ps S w
  | 5, v, _, _, _ => v = .bool false
  | 6, v, _, _, _ => v = .bool m
  | 7, v, _, _, _ => v = .int .i64 0
  | _, _, _, _, _ => True
set_option maxRecDepth 40000 in
set_option maxHeartbeats 400000 in
theorem ku6_region {Q : Exit → Act → World → Prop} {w0 : World} {Nn : Nat} {D5 : Nat} {D10 : Nat} {n : Nat} {xo : Option Addr} {xcap : Nat} {po : Option Addr} {pcap : Nat} {xs : List Int} {ps : List Int} {m : Bool} (Lo : Nat) {r11 r12 r13 : Value} {u0 u1 u2 u3 u4 u6 u7 u8 u9 u14 u15 u16 u17 u19 u20 u21 u22 u23 u24 u25 u26 u27 u28 u29 u30 u31 u32 u33 u34 u35 u36 u37 u38 u39 u40 u41 u46 u47 u48 u49 u50 u51 u52 u53 u54 u55 u56 u57 u58 u59 u60 u61 : Value} {x0 x1 x2 x3 x4 x5 : Value} (hN : w0.heap[D10]? = some (.cells #[x0, x1, x2, x3, x4, x5] 31 (0, 0)))
    (hLo : Lo ≤ w0.heap.size)
    (cT : ∀ w, Mod (fun b => b = D10) w0 w → w.heap[D5]? = some (.cells #[.int .i64 n, .int .i64 1, .slice xo xs.length xcap, .int .i64 n, .int .i64 n, .slice po ps.length pcap] 31 (0, 0)))
    (cN : ∀ w, Mod (fun b => b = D10) w0 w → w.cell? ⟨Nn, 0, none⟩ = some (.bool m))
    (kC : ∀ w, Mod (fun b => b = D10) w0 w → Calls Tryz.prog 170 #[.agg #[.int .i64 n, .int .i64 1, .slice xo xs.length xcap, .int .i64 n, .int .i64 n, .slice po ps.length pcap]] w fun e b => ∃ va vb, e = .returned (.agg #[.int .i64 n, .int .i64 1, va, .int .i64 n, .int .i64 n, vb]) ∧ Sees b va xs ∧ Sees b vb ps ∧ New w.heap.size va ∧ New w.heap.size vb ∧ Below w.heap.size w b) (z_xs : 0 < xs.length) (z_ps : 0 < ps.length)
    (hQ : ∀ vs ao ac bo bc w, Mod (fun b => b = D10) w0 w → vs 11 = .bool false → vs 12 = .bool m → vs 13 = .int .i64 0 → w.heap[D10]? = some (.cells #[.int .i64 n, .int .i64 1, .slice ao xs.length ac, .int .i64 n, .int .i64 n, .slice bo ps.length bc] 31 (0, 0)) → Sees w (.slice ao xs.length ac) xs → Sees w (.slice bo ps.length bc) ps → New Lo (.slice ao xs.length ac) → New Lo (.slice bo ps.length bc) → Q .normal (ku6Fr Nn D5 D10 u0 u1 u2 u3 u4 u6 u7 u8 u9 u14 u15 u16 u17 u19 u20 u21 u22 u23 u24 u25 u26 u27 u28 u29 u30 u31 u32 u33 u34 u35 u36 u37 u38 u39 u40 u41 u46 u47 u48 u49 u50 u51 u52 u53 u54 u55 u56 u57 u58 u59 u60 u61 vs) w) :
    (Code.region 6 ku6Ops true).wp Tryz.prog Q (ku6Fr Nn D5 D10 u0 u1 u2 u3 u4 u6 u7 u8 u9 u14 u15 u16 u17 u19 u20 u21 u22 u23 u24 u25 u26 u27 u28 u29 u30 u31 u32 u33 u34 u35 u36 u37 u38 u39 u40 u41 u46 u47 u48 u49 u50 u51 u52 u53 u54 u55 u56 u57 u58 u59 u60 u61 (fun k => if k = 11 then r11 else if k = 12 then r12 else if k = 13 then r13 else undef)) w0 := by
  refine wp_region_own (by kernel_rfl) (by decide) ku6Dst (by decide) (ku6Fr Nn D5 D10 u0 u1 u2 u3 u4 u6 u7 u8 u9 u14 u15 u16 u17 u19 u20 u21 u22 u23 u24 u25 u26 u27 u28 u29 u30 u31 u32 u33 u34 u35 u36 u37 u38 u39 u40 u41 u46 u47 u48 u49 u50 u51 u52 u53 u54 u55 u56 u57 u58 u59 u60 u61) (fun k => if k = 11 then r11 else if k = 12 then r12 else if k = 13 then r13 else undef) (fun i => i) (by decide) (fun b => b = D10) (fun q hq => by subst hq; exact lt_of_block hN) (fun i q => i = 4 ∧ q = D10) (fun i q h => h.2) (fun i j q h h' => h.1.trans h'.1.symm)
    (fun _ _ => False) (fun s j h => h.elim) (fun s j h => h.elim) (ku6T w0.heap.size Lo Nn D10 n xo xcap po pcap xs ps m) ?_ ?_ ?_
  · intro i v u S w w' hi h hw hw' hz hS
    have ha : Agr w0.heap.size D10 S w w' := agr_of hw hw' hz hS
    have hi' : i < 8 := hi
    rcases (by omega : i = 0 ∨ i = 1 ∨ i = 2 ∨ i = 3 ∨ i = 4 ∨ i = 5 ∨ i = 6 ∨ i = 7) with rfl | rfl | rfl | rfl | rfl | rfl | rfl | rfl
    · exact h
    · exact TTrk.stab h ha
    · exact h
    · exact h
    · exact TStT.stab h ha
    · exact h
    · exact h
    · exact h
  · intro i hi vs w S hb hp hbd hwr _ _
    have hi' : i < 8 := hi
    rcases (by omega : i = 0 ∨ i = 1 ∨ i = 2 ∨ i = 3 ∨ i = 4 ∨ i = 5 ∨ i = 6 ∨ i = 7) with rfl | rfl | rfl | rfl | rfl | rfl | rfl | rfl
    · exact wpOp_of _ rfl rfl (op_loadT rfl rfl (cT w hb) ⟨_, fun _ => False, rfl, rfl, fun _ h => h.elim, fun _ _ h => h.elim, Mod.refl _ _⟩)
    · have h0 : vs 42 = .agg #[.int .i64 n, .int .i64 1, .slice xo xs.length xcap, .int .i64 n, .int .i64 n, .slice po ps.length pcap] := hp 0 (by decide)
      exact wpOp_of _ rfl rfl (op_call1 enters_copied rfl h0 (kC w hb) (by rintro e b ⟨va, vb, rfl, s1, s2, n1, n2, b'⟩; have hl1 := s1.lt z_xs; have hl2 := s2.lt z_ps; obtain ⟨o1, c1, rfl⟩ := s1.slice; obtain ⟨o2, c2, rfl⟩ := s2.slice; exact ⟨_, rfl, _, fun q => (Value.slice o1 xs.length c1).ownBlock = some q ∨ (Value.slice o2 ps.length c2).ownBlock = some q, rfl, ⟨o1, c1, o2, c2, rfl, s1, s2, fun q hq => .inl (.inl hq), fun q hq => .inl (.inr hq), n1.mono (Nat.le_trans hLo hb.size), n2.mono (Nat.le_trans hLo hb.size)⟩, fun q hq => hq.elim (fun h => .inr (.inl ⟨n1 q h, hl1 q h⟩)) (fun h => .inr (.inl ⟨n2 q h, hl2 q h⟩)), fun h => h.elim fun _ h9 => h9.elim, Mod.of b'⟩))
    · exact wpOp_of _ rfl rfl (op_fieldN rfl rfl ⟨_, fun _ => False, rfl, rfl, fun _ h => h.elim, fun _ _ h => h.elim, Mod.refl _ _⟩)
    · have h2 : vs 44 = .pointer (some ⟨Nn, 0, none⟩) := hp 2 (by decide)
      exact wpOp_of _ rfl rfl (op_loadB rfl h2 (cN w hb) ⟨_, fun _ => False, rfl, rfl, fun _ h => h.elim, fun _ _ h => h.elim, Mod.refl _ _⟩)
    · obtain ⟨ao, ac, bo, bc, hf, s1, s2, k1, k2, k3, k4⟩ : TTrk w0.heap.size D10 Lo n 1 n n xs ps (vs 43) (S 1) w := hp 1 (by decide)
      have hbl := (hwr D10 rfl (fun j h => ⟨by rw [h.1]; decide, .inl h.1⟩)).trans hN
      have hne : ∀ v, OkS w0.heap.size D10 (S 1) v → ∀ q, v.ownBlock = some q → q ≠ D10 := fun v hv q hq e => (hv q hq).elim (fun h => (hbd 1 (by decide) q h).2 ⟨rfl, e⟩) (fun h => h.2 e)
      refine wpOp_of _ rfl rfl (op_storeT rfl rfl rfl hf hbl ?_)
      refine ⟨undef, fun q => q = D10 ∨ S 1 q, rfl, ⟨.inl rfl, ao, ac, bo, bc, put_six hbl, s1.six (hne _ k1) _ _ _ _ _ _, s2.six (hne _ k2) _ _ _ _ _ _, fun q hq => (k1 q hq).imp .inr id, fun q hq => (k2 q hq).imp .inr id, k3, k4⟩, fun q hq => hq.elim (fun h => .inr (.inr ⟨rfl, h⟩)) (fun h => .inl ⟨1, by decide, h⟩), fun h => h.elim fun _ h9 => h9.elim, ?_⟩
      exact (mod_six _ _ _ _ _ _).mono fun q _ hq => .inl ⟨rfl, hq⟩
    · exact wpOp_of _ rfl rfl (op_const rfl ⟨_, fun _ => False, rfl, rfl, fun _ h => h.elim, fun _ _ h => h.elim, Mod.refl _ _⟩)
    · have h3 : vs 45 = .bool m := hp 3 (by decide)
      exact wpOp_of _ rfl rfl (op_assign rfl h3 ⟨_, fun _ => False, rfl, rfl, fun _ h => h.elim, fun _ _ h => h.elim, Mod.refl _ _⟩)
    · exact wpOp_of _ rfl rfl (op_const rfl ⟨_, fun _ => False, rfl, rfl, fun _ h => h.elim, fun _ _ h => h.elim, Mod.refl _ _⟩)
  · intro vs w S hb hT
    obtain ⟨_, ao, ac, bo, bc, h1, h2, h3, _, _, h4, h5⟩ : TStT w0.heap.size D10 Lo n 1 n n xs ps (S 4) w := hT 4 (by decide) (fun _ h => h)
    exact hQ vs ao ac bo bc w hb (hT 5 (by decide) (fun _ h => h)) (hT 6 (by decide) (fun _ h => h)) (hT 7 (by decide) (fun _ h => h)) h1 h2 h3 h4 h5
def ku10Ops : Array Oper := #[
 ⟨some 59, .load 31 (.tmp 19), 31, "kalman.go:86", #[], none⟩,
 ⟨some 60, .fieldAddr 141 (.tmp 18) 0, 0, "kalman.go:86", #[⟨4, .gcOnly .lateStores⟩], none⟩,
 ⟨some 61, .load 4 (.tmp 60), 4, "kalman.go:86", #[eD 1, ⟨4, .gcOnly .lateStores⟩], none⟩,
 ⟨none, .store 31 (.tmp 10) (.tmp 59), 0, "kalman.go:86", #[eD 0, eP 0, ⟨1, .textOnly .lateStores⟩, ⟨2, .textOnly .lateStores⟩], none⟩,
 ⟨some 11, .assign (.const (.bool true)), 4, "kalman.go:86", #[eC 3, eP 0, ⟨1, .textOnly .lateStores⟩, ⟨2, .textOnly .lateStores⟩, eP 3], none⟩,
 ⟨some 12, .assign (.tmp 61), 4, "kalman.go:86", #[eD 2, eC 4, eP 0, eP 1, eP 2, eP 3, eP 4], none⟩,
 ⟨some 13, .assign (.const (.int .i64 0)), 47, "kalman.go:86", #[eC 5, eP 0, eP 1, eP 2, eP 3, eP 4, eP 5], none⟩]
def ku10Dst (i : Nat) : Nat := [59, 60, 61, 1000, 11, 12, 13].getD i 0
def ku10Fr (Nn : Nat) (D10 : Nat) (D19 : Nat) (u0 u1 u2 u3 u4 u5 u6 u7 u8 u9 u14 u15 u16 u17 u20 u21 u22 u23 u24 u25 u26 u27 u28 u29 u30 u31 u32 u33 u34 u35 u36 u37 u38 u39 u40 u41 u42 u43 u44 u45 u46 u47 u48 u49 u50 u51 u52 u53 u54 u55 u56 u57 u58 : Value) (vs : Nat → Value) : Act := ⟨#[u0, u1, u2, u3, u4, u5, u6, u7, u8, u9, .pointer (some ⟨D10, 0, none⟩), vs 11, vs 12, vs 13, u14, u15, u16, u17, .pointer (some ⟨Nn, 0, none⟩), .pointer (some ⟨D19, 0, none⟩), u20, u21, u22, u23, u24, u25, u26, u27, u28, u29, u30, u31, u32, u33, u34, u35, u36, u37, u38, u39, u40, u41, u42, u43, u44, u45, u46, u47, u48, u49, u50, u51, u52, u53, u54, u55, u56, u57, u58, vs 59, vs 60, vs 61], []⟩
def ku10T (B Lo : Nat) (Nn : Nat) (D10 : Nat) (n : Nat) (xs : List Int) (ps : List Int) (m : Bool) : Nat → Value → Value → (Nat → Prop) → World → Prop
  | 0, v, _, S, w => TTrk B D10 Lo n 1 n n xs ps v S w
  | 1, v, _, _, _ => v = .pointer (some ⟨Nn, 0, none⟩)
  | 2, v, _, _, _ => v = .bool m
  | 3, _, _, S, w => TStT B D10 Lo n 1 n n xs ps S w
  | 4, v, _, _, _ => v = .bool true
  | 5, v, _, _, _ => v = .bool m
  | 6, v, _, _, _ => v = .int .i64 0
  | _, _, _, _, _ => True
set_option maxRecDepth 40000 in
set_option maxHeartbeats 400000 in
theorem ku10_region {Q : Exit → Act → World → Prop} {w0 : World} {Nn : Nat} {D10 : Nat} {D19 : Nat} {n : Nat} {xo : Option Addr} {xcap : Nat} {po : Option Addr} {pcap : Nat} {xs : List Int} {ps : List Int} {m : Bool} (Lo : Nat) {r11 r12 r13 : Value} {u0 u1 u2 u3 u4 u5 u6 u7 u8 u9 u14 u15 u16 u17 u20 u21 u22 u23 u24 u25 u26 u27 u28 u29 u30 u31 u32 u33 u34 u35 u36 u37 u38 u39 u40 u41 u42 u43 u44 u45 u46 u47 u48 u49 u50 u51 u52 u53 u54 u55 u56 u57 u58 : Value} {x0 x1 x2 x3 x4 x5 : Value} (hN : w0.heap[D10]? = some (.cells #[x0, x1, x2, x3, x4, x5] 31 (0, 0)))
    (nX : New Lo (.slice xo xs.length xcap)) (nP : New Lo (.slice po ps.length pcap))
    (cT : ∀ w, Mod (fun b => b = D10) w0 w → w.heap[D19]? = some (.cells #[.int .i64 n, .int .i64 1, .slice xo xs.length xcap, .int .i64 n, .int .i64 n, .slice po ps.length pcap] 31 (0, 0)))
    (cN : ∀ w, Mod (fun b => b = D10) w0 w → w.cell? ⟨Nn, 0, none⟩ = some (.bool m))
    (sX : Sees w0 (.slice xo xs.length xcap) xs) (oX : Old w0.heap.size D10 (.slice xo xs.length xcap))
    (sP : Sees w0 (.slice po ps.length pcap) ps) (oP : Old w0.heap.size D10 (.slice po ps.length pcap))
    (hQ : ∀ vs ao ac bo bc w, Mod (fun b => b = D10) w0 w → vs 11 = .bool true → vs 12 = .bool m → vs 13 = .int .i64 0 → w.heap[D10]? = some (.cells #[.int .i64 n, .int .i64 1, .slice ao xs.length ac, .int .i64 n, .int .i64 n, .slice bo ps.length bc] 31 (0, 0)) → Sees w (.slice ao xs.length ac) xs → Sees w (.slice bo ps.length bc) ps → New Lo (.slice ao xs.length ac) → New Lo (.slice bo ps.length bc) → Q .normal (ku10Fr Nn D10 D19 u0 u1 u2 u3 u4 u5 u6 u7 u8 u9 u14 u15 u16 u17 u20 u21 u22 u23 u24 u25 u26 u27 u28 u29 u30 u31 u32 u33 u34 u35 u36 u37 u38 u39 u40 u41 u42 u43 u44 u45 u46 u47 u48 u49 u50 u51 u52 u53 u54 u55 u56 u57 u58 vs) w) :
    (Code.region 10 ku10Ops true).wp Tryz.prog Q (ku10Fr Nn D10 D19 u0 u1 u2 u3 u4 u5 u6 u7 u8 u9 u14 u15 u16 u17 u20 u21 u22 u23 u24 u25 u26 u27 u28 u29 u30 u31 u32 u33 u34 u35 u36 u37 u38 u39 u40 u41 u42 u43 u44 u45 u46 u47 u48 u49 u50 u51 u52 u53 u54 u55 u56 u57 u58 (fun k => if k = 11 then r11 else if k = 12 then r12 else if k = 13 then r13 else undef)) w0 := by
  refine wp_region_own (by kernel_rfl) (by decide) ku10Dst (by decide) (ku10Fr Nn D10 D19 u0 u1 u2 u3 u4 u5 u6 u7 u8 u9 u14 u15 u16 u17 u20 u21 u22 u23 u24 u25 u26 u27 u28 u29 u30 u31 u32 u33 u34 u35 u36 u37 u38 u39 u40 u41 u42 u43 u44 u45 u46 u47 u48 u49 u50 u51 u52 u53 u54 u55 u56 u57 u58) (fun k => if k = 11 then r11 else if k = 12 then r12 else if k = 13 then r13 else undef) (fun i => i) (by decide) (fun b => b = D10) (fun q hq => by subst hq; exact lt_of_block hN) (fun i q => i = 3 ∧ q = D10) (fun i q h => h.2) (fun i j q h h' => h.1.trans h'.1.symm)
    (fun _ _ => False) (fun s j h => h.elim) (fun s j h => h.elim) (ku10T w0.heap.size Lo Nn D10 n xs ps m) ?_ ?_ ?_
  · intro i v u S w w' hi h hw hw' hz hS
    have ha : Agr w0.heap.size D10 S w w' := agr_of hw hw' hz hS
    have hi' : i < 7 := hi
    rcases (by omega : i = 0 ∨ i = 1 ∨ i = 2 ∨ i = 3 ∨ i = 4 ∨ i = 5 ∨ i = 6) with rfl | rfl | rfl | rfl | rfl | rfl | rfl
    · exact TTrk.stab h ha
    · exact h
    · exact h
    · exact TStT.stab h ha
    · exact h
    · exact h
    · exact h
  · intro i hi vs w S hb hp hbd hwr _ _
    have hi' : i < 7 := hi
    rcases (by omega : i = 0 ∨ i = 1 ∨ i = 2 ∨ i = 3 ∨ i = 4 ∨ i = 5 ∨ i = 6) with rfl | rfl | rfl | rfl | rfl | rfl | rfl
    · exact wpOp_of _ rfl rfl (op_loadT rfl rfl (cT w hb) ⟨_, fun _ => False, rfl, ⟨_, _, _, _, rfl, sX.mod oX hb, sP.mod oP hb, oX.ok _, oP.ok _, nX, nP⟩, fun _ h => h.elim, fun h => h.elim fun _ h9 => h9.elim, Mod.refl _ _⟩)
    · exact wpOp_of _ rfl rfl (op_fieldN rfl rfl ⟨_, fun _ => False, rfl, rfl, fun _ h => h.elim, fun _ _ h => h.elim, Mod.refl _ _⟩)
    · have h1 : vs 60 = .pointer (some ⟨Nn, 0, none⟩) := hp 1 (by decide)
      exact wpOp_of _ rfl rfl (op_loadB rfl h1 (cN w hb) ⟨_, fun _ => False, rfl, rfl, fun _ h => h.elim, fun _ _ h => h.elim, Mod.refl _ _⟩)
    · obtain ⟨ao, ac, bo, bc, hf, s1, s2, k1, k2, k3, k4⟩ : TTrk w0.heap.size D10 Lo n 1 n n xs ps (vs 59) (S 0) w := hp 0 (by decide)
      have hbl := (hwr D10 rfl (fun j h => ⟨by rw [h.1]; decide, .inl h.1⟩)).trans hN
      have hne : ∀ v, OkS w0.heap.size D10 (S 0) v → ∀ q, v.ownBlock = some q → q ≠ D10 := fun v hv q hq e => (hv q hq).elim (fun h => (hbd 0 (by decide) q h).2 ⟨rfl, e⟩) (fun h => h.2 e)
      refine wpOp_of _ rfl rfl (op_storeT rfl rfl rfl hf hbl ?_)
      refine ⟨undef, fun q => q = D10 ∨ S 0 q, rfl, ⟨.inl rfl, ao, ac, bo, bc, put_six hbl, s1.six (hne _ k1) _ _ _ _ _ _, s2.six (hne _ k2) _ _ _ _ _ _, fun q hq => (k1 q hq).imp .inr id, fun q hq => (k2 q hq).imp .inr id, k3, k4⟩, fun q hq => hq.elim (fun h => .inr (.inr ⟨rfl, h⟩)) (fun h => .inl ⟨0, by decide, h⟩), fun h => h.elim fun _ h9 => h9.elim, ?_⟩
      exact (mod_six _ _ _ _ _ _).mono fun q _ hq => .inl ⟨rfl, hq⟩
    · exact wpOp_of _ rfl rfl (op_const rfl ⟨_, fun _ => False, rfl, rfl, fun _ h => h.elim, fun _ _ h => h.elim, Mod.refl _ _⟩)
    · have h2 : vs 61 = .bool m := hp 2 (by decide)
      exact wpOp_of _ rfl rfl (op_assign rfl h2 ⟨_, fun _ => False, rfl, rfl, fun _ h => h.elim, fun _ _ h => h.elim, Mod.refl _ _⟩)
    · exact wpOp_of _ rfl rfl (op_const rfl ⟨_, fun _ => False, rfl, rfl, fun _ h => h.elim, fun _ _ h => h.elim, Mod.refl _ _⟩)
  · intro vs w S hb hT
    obtain ⟨_, ao, ac, bo, bc, h1, h2, h3, _, _, h4, h5⟩ : TStT w0.heap.size D10 Lo n 1 n n xs ps (S 3) w := hT 3 (by decide) (fun _ h => h)
    exact hQ vs ao ac bo bc w hb (hT 4 (by decide) (fun _ h => h)) (hT 5 (by decide) (fun _ h => h)) (hT 6 (by decide) (fun _ h => h)) h1 h2 h3 h4 h5
end Go.Proofs.YtoefekkdjcflmaaGreatDoor

