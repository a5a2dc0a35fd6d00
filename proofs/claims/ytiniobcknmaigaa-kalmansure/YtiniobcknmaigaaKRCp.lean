/-
  The code's copied.
-/
import Derived.Test.YtiniobcknmaigaaKCopyV
namespace Go.Proofs.Ytiniobcknmaigaa
open Go.RowKit Go.Sort Qm

def kcpOps : Array Oper := #[
    { dst := some 3, op := Op.fieldAddr 26 (Operand.tmp 1) 0, type := 0, pos := "kalman.go:210", after := #[], guard := none },
    { dst := some 4, op := Op.fieldAddr 24 (Operand.tmp 3) 2, type := 0, pos := "kalman.go:210", after := #[{ on := 0, ground := Ground.data }], guard := none },
    { dst := some 5, op := Op.load 22 (Operand.tmp 4), type := 22, pos := "kalman.go:210", after := #[{ on := 1, ground := Ground.data }], guard := none },
    { dst := some 6, op := Op.call { callee := Callee.value (Operand.func 27), args := #[Operand.tmp 5], argTypes := #[22] }, type := 22, pos := "kalman.go:210", after := #[{ on := 2, ground := Ground.data }], guard := none },
    { dst := some 7, op := Op.fieldAddr 26 (Operand.tmp 1) 1, type := 0, pos := "kalman.go:210", after := #[], guard := none },
    { dst := some 8, op := Op.fieldAddr 24 (Operand.tmp 7) 2, type := 0, pos := "kalman.go:210", after := #[{ on := 4, ground := Ground.data }], guard := none },
    { dst := some 9, op := Op.load 22 (Operand.tmp 8), type := 22, pos := "kalman.go:210", after := #[{ on := 5, ground := Ground.data }], guard := none },
    { dst := some 10, op := Op.call { callee := Callee.value (Operand.func 27), args := #[Operand.tmp 9], argTypes := #[22] }, type := 22, pos := "kalman.go:210", after := #[{ on := 6, ground := Ground.data }, { on := 3, ground := Ground.chain }], guard := none },
    { dst := some 11, op := Op.fieldAddr 26 (Operand.tmp 1) 0, type := 0, pos := "kalman.go:210", after := #[{ on := 0, ground := Ground.phase }, { on := 1, ground := Ground.phase }, { on := 2, ground := Ground.phase }, { on := 3, ground := Ground.phase }, { on := 4, ground := Ground.phase }, { on := 5, ground := Ground.phase }, { on := 6, ground := Ground.phase }, { on := 7, ground := Ground.textOnly Departure.lateStoresUnsure }], guard := none },
    { dst := some 12, op := Op.fieldAddr 24 (Operand.tmp 11) 2, type := 0, pos := "kalman.go:210", after := #[{ on := 8, ground := Ground.data }, { on := 0, ground := Ground.phase }, { on := 1, ground := Ground.phase }, { on := 2, ground := Ground.phase }, { on := 3, ground := Ground.phase }, { on := 4, ground := Ground.phase }, { on := 5, ground := Ground.phase }, { on := 6, ground := Ground.phase }, { on := 7, ground := Ground.textOnly Departure.lateStoresUnsure }], guard := none },
    { dst := none, op := Op.store 22 (Operand.tmp 12) (Operand.tmp 6), type := 0, pos := "kalman.go:210", after := #[{ on := 9, ground := Ground.data }, { on := 3, ground := Ground.data }, { on := 7, ground := Ground.chain }, { on := 0, ground := Ground.phase }, { on := 1, ground := Ground.phase }, { on := 2, ground := Ground.phase }, { on := 3, ground := Ground.phase }, { on := 4, ground := Ground.phase }, { on := 5, ground := Ground.phase }, { on := 6, ground := Ground.phase }, { on := 7, ground := Ground.textOnly Departure.lateStoresUnsure }], guard := none },
    { dst := some 13, op := Op.fieldAddr 26 (Operand.tmp 1) 1, type := 0, pos := "kalman.go:210", after := #[{ on := 0, ground := Ground.phase }, { on := 1, ground := Ground.phase }, { on := 2, ground := Ground.phase }, { on := 3, ground := Ground.phase }, { on := 4, ground := Ground.phase }, { on := 5, ground := Ground.phase }, { on := 6, ground := Ground.phase }, { on := 7, ground := Ground.phase }, { on := 8, ground := Ground.phase }, { on := 9, ground := Ground.phase }, { on := 10, ground := Ground.phase }], guard := none },
    { dst := some 14, op := Op.fieldAddr 24 (Operand.tmp 13) 2, type := 0, pos := "kalman.go:210", after := #[{ on := 11, ground := Ground.data }, { on := 0, ground := Ground.phase }, { on := 1, ground := Ground.phase }, { on := 2, ground := Ground.phase }, { on := 3, ground := Ground.phase }, { on := 4, ground := Ground.phase }, { on := 5, ground := Ground.phase }, { on := 6, ground := Ground.phase }, { on := 7, ground := Ground.phase }, { on := 8, ground := Ground.phase }, { on := 9, ground := Ground.phase }, { on := 10, ground := Ground.phase }], guard := none },
    { dst := none, op := Op.store 22 (Operand.tmp 14) (Operand.tmp 10), type := 0, pos := "kalman.go:210", after := #[{ on := 12, ground := Ground.data }, { on := 7, ground := Ground.data }, { on := 10, ground := Ground.chain }, { on := 0, ground := Ground.phase }, { on := 1, ground := Ground.phase }, { on := 2, ground := Ground.phase }, { on := 3, ground := Ground.phase }, { on := 4, ground := Ground.phase }, { on := 5, ground := Ground.phase }, { on := 6, ground := Ground.phase }, { on := 7, ground := Ground.phase }, { on := 8, ground := Ground.phase }, { on := 9, ground := Ground.phase }, { on := 10, ground := Ground.phase }], guard := none }]
def kcpDst (i : Nat) : Nat := [3, 4, 5, 6, 7, 8, 9, 10, 11, 12, 1010, 13, 14, 1013].getD i 0
def kcpFr (D : Nat) (u0 u2 u15 : Value) (vs : Nat → Value) : Act := ⟨#[u0, .pointer (some ⟨D, 0, none⟩), u2, vs 3, vs 4, vs 5, vs 6, vs 7, vs 8, vs 9, vs 10, vs 11, vs 12, vs 13, vs 14, u15], []⟩
def kcpT (B D : Nat) (n1 c1 n2 c2 : Int) (xs ps : List Int) (ao bo : Option Addr) (ac bc : Nat) : Nat → Value → Value → (Nat → Prop) → World → Prop
  | 0, v, _, _, _ => v = .pointer (some ⟨D, 0, none⟩)
  | 1, v, _, _, _ => v = .pointer (some ⟨D, 2, none⟩)
  | 2, v, _, _, _ => v = .slice ao xs.length ac
  | 3, v, _, S, w => TNum B xs v S w
  | 4, v, _, _, _ => v = .pointer (some ⟨D, 3, none⟩)
  | 5, v, _, _, _ => v = .pointer (some ⟨D, 5, none⟩)
  | 6, v, _, _, _ => v = .slice bo ps.length bc
  | 7, v, _, S, w => TNum B ps v S w
  | 8, v, _, _, _ => v = .pointer (some ⟨D, 0, none⟩)
  | 9, v, _, _, _ => v = .pointer (some ⟨D, 2, none⟩)
  | 10, _, u, S, w => THalf D n1 c1 n2 c2 (.slice bo ps.length bc) u S w
  | 11, v, _, _, _ => v = .pointer (some ⟨D, 3, none⟩)
  | 12, v, _, _, _ => v = .pointer (some ⟨D, 5, none⟩)
  | 13, _, u, S, w => TBoth B D n1 c1 n2 c2 xs ps u S w
  | _, _, _, _, _ => True
theorem cell_six {w : World} {b : Nat} {x y z u v t : Value} {T : TypeId} (h : w.heap[b]? = some (.cells #[x, y, z, u, v, t] T (0, 0))) : w.cell? ⟨b, 2, none⟩ = some z ∧ w.cell? ⟨b, 5, none⟩ = some t := by
  simp [World.cell?, h]
theorem free_six {w : World} {b : Nat} {x y z u v t : Value} {T : TypeId} (h : w.heap[b]? = some (.cells #[x, y, z, u, v, t] T (0, 0))) : w.frozen? ⟨b, 2, none⟩ = false ∧ w.frozen? ⟨b, 5, none⟩ = false := by
  simp [World.frozen?, h]
set_option maxRecDepth 40000 in
set_option maxHeartbeats 800000 in
theorem kcp_region {Q : Exit → Act → World → Prop} {w0 : World} {D : Nat} {n1 c1 n2 c2 : Int} {xs ps : List Int} {ao bo : Option Addr} {ac bc : Nat} {u0 u2 u15 : Value} (hN : w0.heap[D]? = some (.cells #[.int .i64 n1, .int .i64 c1, .slice ao xs.length ac, .int .i64 n2, .int .i64 c2, .slice bo ps.length bc] 26 (0, 0)))
    (k1 : ∀ w, Mod (fun b => b = D) w0 w → Calls Try.prog 27 #[.slice ao xs.length ac] w fun e b => ∃ v', e = .returned v' ∧ Sees b v' xs ∧ New w.heap.size v' ∧ Below w.heap.size w b) (z_xs : 0 < xs.length)
    (k2 : ∀ w, Mod (fun b => b = D) w0 w → Calls Try.prog 27 #[.slice bo ps.length bc] w fun e b => ∃ v', e = .returned v' ∧ Sees b v' ps ∧ New w.heap.size v' ∧ Below w.heap.size w b) (z_ps : 0 < ps.length)
    (hQ : ∀ vs ao ac bo bc w, Mod (fun b => b = D) w0 w → w.heap[D]? = some (.cells #[.int .i64 n1, .int .i64 c1, .slice ao xs.length ac, .int .i64 n2, .int .i64 c2, .slice bo ps.length bc] 26 (0, 0)) → Sees w (.slice ao xs.length ac) xs → Sees w (.slice bo ps.length bc) ps → New w0.heap.size (.slice ao xs.length ac) → New w0.heap.size (.slice bo ps.length bc) → Q .normal (kcpFr D u0 u2 u15 vs) w) :
    (Code.region 1 kcpOps true).wp Try.prog Q (kcpFr D u0 u2 u15 (fun _ => undef)) w0 := by
  refine wp_region_own2 (by kernel_rfl) (by decide) kcpDst (by decide) (kcpFr D u0 u2 u15) (fun _ => undef) (fun i => if i = 10 then 3 else if i = 13 then 7 else i) (by decide) (fun b => b = D) (fun q hq => by subst hq; exact lt_of_block hN) (fun i q => i = 10 ∧ q = D) (fun i q h => h.2) (fun i j q h h' => h.1.trans h'.1.symm)
    (fun s j => s = 13 ∧ j = 10) (fun s j h => by obtain ⟨rfl, rfl⟩ := h; exact ⟨by decide, by decide⟩) (fun s j h => by obtain ⟨rfl, rfl⟩ := h; decide) (kcpT w0.heap.size D n1 c1 n2 c2 xs ps ao bo ac bc) ?_ ?_ ?_
  · intro i v u S w w' hi h hw hw' hz hS
    have ha : Agr w0.heap.size D S w w' := agr_of hw hw' hz hS
    have hi' : i < 14 := hi
    rcases (by omega : i = 0 ∨ i = 1 ∨ i = 2 ∨ i = 3 ∨ i = 4 ∨ i = 5 ∨ i = 6 ∨ i = 7 ∨ i = 8 ∨ i = 9 ∨ i = 10 ∨ i = 11 ∨ i = 12 ∨ i = 13) with rfl | rfl | rfl | rfl | rfl | rfl | rfl | rfl | rfl | rfl | rfl | rfl | rfl | rfl
    · exact h
    · exact h
    · exact h
    · exact TNum.stab h ha
    · exact h
    · exact h
    · exact h
    · exact TNum.stab h ha
    · exact h
    · exact h
    · exact THalf.stab h ha
    · exact h
    · exact h
    · exact TBoth.stab h ha
  · intro i hi vs w S hb hp hbd hwr hkl _
    have hi' : i < 14 := hi
    rcases (by omega : i = 0 ∨ i = 1 ∨ i = 2 ∨ i = 3 ∨ i = 4 ∨ i = 5 ∨ i = 6 ∨ i = 7 ∨ i = 8 ∨ i = 9 ∨ i = 10 ∨ i = 11 ∨ i = 12 ∨ i = 13) with rfl | rfl | rfl | rfl | rfl | rfl | rfl | rfl | rfl | rfl | rfl | rfl | rfl | rfl
    · exact wpOp_of _ rfl rfl (op_fieldT (i := 0) (by decide) rfl rfl ⟨_, fun _ => False, rfl, rfl, fun _ h => h.elim, fun _ _ h => h.elim, Mod.refl _ _⟩)
    · have h : vs 3 = .pointer (some ⟨D, 0, none⟩) := hp 0 (by decide)
      exact wpOp_of _ rfl rfl (op_fieldM2 rfl h ⟨_, fun _ => False, rfl, rfl, fun _ h => h.elim, fun _ _ h => h.elim, Mod.refl _ _⟩)
    · have h : vs 4 = .pointer (some ⟨D, 2, none⟩) := hp 1 (by decide)
      exact wpOp_of _ rfl rfl (op_loadS rfl h (cell_six ((hwr D rfl (fun j h => (by obtain ⟨rfl, _⟩ := h; exact ⟨by decide, .inr (by decide)⟩))).trans hN)).1 ⟨_, fun _ => False, rfl, rfl, fun _ h => h.elim, fun _ _ h => h.elim, Mod.refl _ _⟩)
    · have h : vs 5 = .slice ao xs.length ac := hp 2 (by decide)
      exact wpOp_of _ rfl rfl (op_call1 enters_clone rfl h (k1 w hb) (by rintro e b ⟨v, rfl, s', n', b'⟩; have hl := s'.lt z_xs; obtain ⟨so, sc, hv⟩ := s'.slice; exact ⟨_, rfl, _, fun q => v.ownBlock = some q, rfl, ⟨so, sc, hv, s', fun q hq => ⟨hq, Nat.le_trans hb.size (n' q hq)⟩⟩, fun q hq => .inr (.inl ⟨n' q hq, hl q hq⟩), fun h => (by obtain ⟨s9, h9⟩ := h; exact absurd h9.2 (by decide)), Mod.of b'⟩))
    · exact wpOp_of _ rfl rfl (op_fieldT (i := 1) (by decide) rfl rfl ⟨_, fun _ => False, rfl, rfl, fun _ h => h.elim, fun _ _ h => h.elim, Mod.refl _ _⟩)
    · have h : vs 7 = .pointer (some ⟨D, 3, none⟩) := hp 4 (by decide)
      exact wpOp_of _ rfl rfl (op_fieldM2 rfl h ⟨_, fun _ => False, rfl, rfl, fun _ h => h.elim, fun _ _ h => h.elim, Mod.refl _ _⟩)
    · have h : vs 8 = .pointer (some ⟨D, 5, none⟩) := hp 5 (by decide)
      exact wpOp_of _ rfl rfl (op_loadS rfl h (cell_six ((hwr D rfl (fun j h => (by obtain ⟨rfl, _⟩ := h; exact ⟨by decide, .inr (by decide)⟩))).trans hN)).2 ⟨_, fun _ => False, rfl, rfl, fun _ h => h.elim, fun _ _ h => h.elim, Mod.refl _ _⟩)
    · have h : vs 9 = .slice bo ps.length bc := hp 6 (by decide)
      exact wpOp_of _ rfl rfl (op_call1 enters_clone rfl h (k2 w hb) (by rintro e b ⟨v, rfl, s', n', b'⟩; have hl := s'.lt z_ps; obtain ⟨so, sc, hv⟩ := s'.slice; exact ⟨_, rfl, _, fun q => v.ownBlock = some q, rfl, ⟨so, sc, hv, s', fun q hq => ⟨hq, Nat.le_trans hb.size (n' q hq)⟩⟩, fun q hq => .inr (.inl ⟨n' q hq, hl q hq⟩), fun h => (by obtain ⟨s9, h9⟩ := h; exact absurd h9.2 (by decide)), Mod.of b'⟩))
    · exact wpOp_of _ rfl rfl (op_fieldT (i := 0) (by decide) rfl rfl ⟨_, fun _ => False, rfl, rfl, fun _ h => h.elim, fun _ _ h => h.elim, Mod.refl _ _⟩)
    · have h : vs 11 = .pointer (some ⟨D, 0, none⟩) := hp 8 (by decide)
      exact wpOp_of _ rfl rfl (op_fieldM2 rfl h ⟨_, fun _ => False, rfl, rfl, fun _ h => h.elim, fun _ _ h => h.elim, Mod.refl _ _⟩)
    · have h : vs 12 = .pointer (some ⟨D, 2, none⟩) := hp 9 (by decide)
      obtain ⟨so, sc, hv, _, _⟩ : TNum w0.heap.size xs (vs 6) (S 3) w := hp 3 (by decide)
      have hbl := (hwr D rfl (fun j h => ⟨by rw [h.1]; decide, .inl h.1⟩)).trans hN
      refine wpOp_of _ rfl rfl (op_storeS rfl rfl h hv (cell_six hbl).1 (free_six hbl).1 ?_)
      refine ⟨undef, fun q => q = D, rfl, ⟨rfl, ?_⟩, fun q hq => .inr (.inr ⟨rfl, hq⟩), fun _ q hq => .inr ⟨rfl, hq⟩, (Mod.ofGb (gb_set (gb_refl w (some D)) 2 _)).mono fun q _ hq => .inl ⟨rfl, hq⟩⟩
      rw [show (if (if (10 : Nat) = 10 then 3 else if (10 : Nat) = 13 then 7 else 10) = 10 then undef else vs (kcpDst (if (10 : Nat) = 10 then 3 else if (10 : Nat) = 13 then 7 else 10))) = vs 6 from rfl, hv]
      exact (heap_setCell_same w D 2 _ 26 _ hbl).trans (by rfl)
    · exact wpOp_of _ rfl rfl (op_fieldT (i := 1) (by decide) rfl rfl ⟨_, fun _ => False, rfl, rfl, fun _ h => h.elim, fun _ _ h => h.elim, Mod.refl _ _⟩)
    · have h : vs 13 = .pointer (some ⟨D, 3, none⟩) := hp 11 (by decide)
      exact wpOp_of _ rfl rfl (op_fieldM2 rfl h ⟨_, fun _ => False, rfl, rfl, fun _ h => h.elim, fun _ _ h => h.elim, Mod.refl _ _⟩)
    · have h : vs 14 = .pointer (some ⟨D, 5, none⟩) := hp 12 (by decide)
      obtain ⟨so, sc, hv, h2, h3⟩ : TNum w0.heap.size ps (vs 10) (S 7) w := hp 7 (by decide)
      obtain ⟨so1, sc1, hv1, g2, g3⟩ : TNum w0.heap.size xs (vs 6) (S 3) w := hp 3 (by decide)
      obtain ⟨hSD, hbl⟩ : THalf D n1 c1 n2 c2 (.slice bo ps.length bc) (vs 6) (S 10) w := hp 10 (by decide)
      rw [hv1] at hbl g2 g3
      rw [hv] at h2 h3
      have ne1 : ∀ q, (Value.slice so1 xs.length sc1).ownBlock = some q → q ≠ D := fun q hq e => hkl 10 ⟨rfl, rfl⟩ 3 (by decide) (by decide) D hSD (e ▸ (g3 q hq).1)
      have ne2 : ∀ q, (Value.slice so ps.length sc).ownBlock = some q → q ≠ D := fun q hq e => hkl 10 ⟨rfl, rfl⟩ 7 (by decide) (by decide) D hSD (e ▸ (h3 q hq).1)
      refine wpOp_of _ rfl rfl (op_storeS rfl rfl h hv (cell_six hbl).2 (free_six hbl).2 ?_)
      refine ⟨undef, fun q => q = D ∨ S 3 q ∨ S 7 q, rfl, ⟨.inl rfl, so1, sc1, so, sc, hv, ?_, g2.set' (a := ⟨D, 5, none⟩) ne1 _, h2.set' (a := ⟨D, 5, none⟩) ne2 _, fun q hq => ⟨.inr (.inl (g3 q hq).1), (g3 q hq).2⟩, fun q hq => ⟨.inr (.inr (h3 q hq).1), (h3 q hq).2⟩⟩, fun q hq => hq.elim (fun h => .inl ⟨10, by decide, fun _ h9 => h9.1, h ▸ hSD⟩) (fun h => h.elim (fun h => .inl ⟨3, by decide, fun _ h9 => absurd h9.2 (by decide), h⟩) (fun h => .inl ⟨7, by decide, fun _ h9 => absurd h9.2 (by decide), h⟩)), fun h => (by obtain ⟨s9, h9⟩ := h; exact absurd h9.2 (by decide)), (Mod.ofGb (gb_set (gb_refl w (some D)) 5 _)).mono fun q _ hq => .inr ⟨10, ⟨rfl, rfl⟩, hq ▸ hSD⟩⟩
      exact (heap_setCell_same w D 5 _ 26 _ hbl).trans (by rfl)
  · intro vs w S hb hT
    obtain ⟨_, ao, ac, bo, bc, _, h2, h3, h4, h5, h6⟩ : TBoth w0.heap.size D n1 c1 n2 c2 xs ps (vs 10) (S 13) w := hT 13 (by decide) (fun s h => by omega)
    exact hQ vs ao ac bo bc w hb h2 h3 h4 (fun q hq => (h5 q hq).2) (fun q hq => (h6 q hq).2)
end Go.Proofs.Ytiniobcknmaigaa
