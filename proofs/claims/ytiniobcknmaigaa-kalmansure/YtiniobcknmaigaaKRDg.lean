/-
  The code's diagonal: one number more.
-/
import Derived.Test.YtiniobcknmaigaaOpsQ
namespace Go.Proofs.Ytiniobcknmaigaa
open Go.RowKit Go.Sort Qm

def kdgOps : Array Oper := #[
    { dst := some 13, op := Op.move (Operand.tmp 3), type := 22, pos := "kalman.go:198", after := #[], guard := none },
    { dst := some 14, op := Op.fieldAddr 24 (Operand.tmp 1) 2, type := 0, pos := "kalman.go:198", after := #[], guard := none },
    { dst := some 15, op := Op.load 22 (Operand.tmp 14), type := 22, pos := "kalman.go:198", after := #[{ on := 1, ground := Ground.data }], guard := none },
    { dst := some 16, op := Op.load 24 (Operand.tmp 1), type := 24, pos := "kalman.go:198", after := #[], guard := none },
    { dst := some 17, op := Op.move (Operand.tmp 4), type := 3, pos := "kalman.go:198", after := #[], guard := none },
    { dst := some 18, op := Op.call { callee := Callee.value (Operand.func 38), args := #[Operand.tmp 16, Operand.tmp 17], argTypes := #[24, 3] }, type := 3, pos := "kalman.go:198", after := #[{ on := 3, ground := Ground.data }, { on := 4, ground := Ground.data }], guard := none },
    { dst := some 19, op := Op.indexAddr 22 (Operand.tmp 15) (Operand.tmp 18), type := 0, pos := "kalman.go:198", after := #[{ on := 2, ground := Ground.data }, { on := 5, ground := Ground.data }], guard := none },
    { dst := some 20, op := Op.load 41 (Operand.tmp 19), type := 41, pos := "kalman.go:198", after := #[{ on := 6, ground := Ground.data }], guard := none },
    { dst := some 21, op := Op.buildSlice 22 1 #[(0, Operand.tmp 20)], type := 22, pos := "kalman.go:198", after := #[{ on := 7, ground := Ground.data }], guard := none },
    { dst := some 22, op := Op.call { callee := Callee.builtin Builtin.append, args := #[Operand.tmp 13, Operand.tmp 21], argTypes := #[22, 22] }, type := 22, pos := "kalman.go:198", after := #[{ on := 0, ground := Ground.data }, { on := 8, ground := Ground.data }, { on := 5, ground := Ground.chain }], guard := none },
    { dst := some 3, op := Op.assign (Operand.tmp 22), type := 22, pos := "kalman.go:198", after := #[{ on := 9, ground := Ground.data }, { on := 9, ground := Ground.chain }, { on := 0, ground := Ground.phase }, { on := 1, ground := Ground.phase }, { on := 2, ground := Ground.phase }, { on := 3, ground := Ground.phase }, { on := 4, ground := Ground.phase }, { on := 5, ground := Ground.phase }, { on := 6, ground := Ground.phase }, { on := 7, ground := Ground.phase }, { on := 8, ground := Ground.phase }, { on := 9, ground := Ground.phase }], guard := none }]
def kdgDst (i : Nat) : Nat := [13, 14, 15, 16, 17, 18, 19, 20, 21, 22, 3].getD i 0
def kdgFr (P : Nat) (i : Int) (u0 u2 u5 u6 u7 u8 u9 u10 u11 u12 u23 u24 : Value) (vs : Nat → Value) : Act := ⟨#[u0, .pointer (some ⟨P, 0, none⟩), u2, vs 3, .int .i64 i, u5, u6, u7, u8, u9, u10, u11, u12, vs 13, vs 14, vs 15, vs 16, vs 17, vs 18, vs 19, vs 20, vs 21, vs 22, u23, u24], []⟩
def kdgT (P : Nat) (i r c : Int) (l : Value) (ad : Addr) (m cap q B0 a : Nat) (x : Int) (vals : List Value) : Nat → Value → Value → (Nat → Prop) → World → Prop
  | 0, v, _, _, _ => v = l
  | 1, v, _, _, _ => v = .pointer (some ⟨P, 2, none⟩)
  | 2, v, _, _, _ => v = .slice (some ad) m cap
  | 3, v, _, _, _ => v = .agg #[.int .i64 r, .int .i64 c, .slice (some ad) m cap]
  | 4, v, _, _, _ => v = .int .i64 i
  | 5, v, _, _, _ => v = .int .i64 (q : Nat)
  | 6, v, _, _, _ => v = .pointer (some (ad.add q))
  | 7, v, _, _, _ => v = .int .i64 x
  | 8, v, _, S, w => ∃ X, v = .slice (some ⟨X, 0, none⟩) 1 1 ∧ S X ∧ w.heap[X]? = some (.cells #[.int .i64 x] 41 (0, 0))
  | 9, v, _, S, w => w.ownsRow B0 41 1 v (a + 1) (vals ++ [.int .i64 x]) ∧ ∀ k, v.ownBlock = some k → S k
  | 10, v, _, S, w => w.ownsRow B0 41 1 v (a + 1) (vals ++ [.int .i64 x]) ∧ ∀ k, v.ownBlock = some k → S k
  | _, _, _, _, _ => True
theorem enters_onD : ∀ (args : Array Value) (a : World), Sem.run Try.prog (callFunc 38 args) a = Result.ok (Next.enter 38 args) a := by
  intro args a
  simp [callFunc, Try.func38, go_sem]
  rfl
set_option maxRecDepth 40000 in
set_option maxHeartbeats 800000 in
theorem kdg_region {Q : Exit → Act → World → Prop} {w0 : World} {P : Nat} {i r c : Int} {l : Value} {ad : Addr} {m cap q B0 a : Nat} {x : Int} {vals : List Value} {u0 u2 u5 u6 u7 u8 u9 u10 u11 u12 u23 u24 u13 u14 u15 u16 u17 u18 u19 u20 u21 u22 : Value} {i0 : TypeInfo} (hi0 : Try.prog.info? 41 = some i0) (hz0 : i0.zero = some (.int .i64 0)) (hz1 : i0.size = 1) (hz2 : i0.bytes = 8)
    (hown : w0.ownsRow B0 41 1 l a vals) (ha : a ≤ 100) (hB0 : B0 ≤ w0.heap.size) (hqm : q < m)
    (hrd : ∀ w, Mod (fun k => l.ownBlock = some k) w0 w → w.cell? ⟨P, 0, none⟩ = some (.int .i64 r) ∧ w.cell? ⟨P, 1, none⟩ = some (.int .i64 c) ∧ w.cell? ⟨P, 2, none⟩ = some (.slice (some ad) m cap) ∧ w.cell? (ad.add q) = some (.int .i64 x))
    (kD : ∀ w, Calls Try.prog 38 #[.agg #[.int .i64 r, .int .i64 c, .slice (some ad) m cap], .int .i64 i] w fun e b => e = .returned (.int .i64 (q : Nat)) ∧ Below w.heap.size w b)
    (hQ : ∀ vs w, Mod (fun k => l.ownBlock = some k) w0 w → w.ownsRow B0 41 1 (vs 3) (a + 1) (vals ++ [.int .i64 x]) → Q .normal (kdgFr P i u0 u2 u5 u6 u7 u8 u9 u10 u11 u12 u23 u24 vs) w) :
    (Code.region 5 kdgOps true).wp Try.prog Q (kdgFr P i u0 u2 u5 u6 u7 u8 u9 u10 u11 u12 u23 u24 (fun k => if k = 3 then l else if k = 13 then u13 else if k = 14 then u14 else if k = 15 then u15 else if k = 16 then u16 else if k = 17 then u17 else if k = 18 then u18 else if k = 19 then u19 else if k = 20 then u20 else if k = 21 then u21 else if k = 22 then u22 else undef)) w0 := by
  refine wp_region_own (by kernel_rfl) (by decide) kdgDst (by decide) (kdgFr P i u0 u2 u5 u6 u7 u8 u9 u10 u11 u12 u23 u24) (fun k => if k = 3 then l else if k = 13 then u13 else if k = 14 then u14 else if k = 15 then u15 else if k = 16 then u16 else if k = 17 then u17 else if k = 18 then u18 else if k = 19 then u19 else if k = 20 then u20 else if k = 21 then u21 else if k = 22 then u22 else undef) (fun i => i) (by decide) (fun k => l.ownBlock = some k) (fun k hk => (hown.lt k hk).2) (fun j k => j = 9 ∧ l.ownBlock = some k) (fun j k h => h.2) (fun j j' k h h' => h.1.trans h'.1.symm)
    (fun _ _ => False) (fun s j h => h.elim) (fun s j h => h.elim) (kdgT P i r c l ad m cap q B0 a x vals) ?_ ?_ ?_
  · intro i9 v u S w w' hi h hw hw' hz hS
    have hi' : i9 < 11 := hi
    rcases (by omega : i9 = 0 ∨ i9 = 1 ∨ i9 = 2 ∨ i9 = 3 ∨ i9 = 4 ∨ i9 = 5 ∨ i9 = 6 ∨ i9 = 7 ∨ i9 = 8 ∨ i9 = 9 ∨ i9 = 10) with rfl | rfl | rfl | rfl | rfl | rfl | rfl | rfl | rfl | rfl | rfl
    · exact h
    · exact h
    · exact h
    · exact h
    · exact h
    · exact h
    · exact h
    · exact h
    · obtain ⟨X, h1, h2, h3⟩ := h; exact ⟨X, h1, h2, (hS X h2).trans h3⟩
    · exact ⟨own_agree h.1 (fun k hk => hS k (h.2 k hk)), h.2⟩
    · exact ⟨own_agree h.1 (fun k hk => hS k (h.2 k hk)), h.2⟩
  · intro i9 hi vs w S hb hp hbd hwr _ hv0
    have hi' : i9 < 11 := hi
    rcases (by omega : i9 = 0 ∨ i9 = 1 ∨ i9 = 2 ∨ i9 = 3 ∨ i9 = 4 ∨ i9 = 5 ∨ i9 = 6 ∨ i9 = 7 ∨ i9 = 8 ∨ i9 = 9 ∨ i9 = 10) with rfl | rfl | rfl | rfl | rfl | rfl | rfl | rfl | rfl | rfl | rfl
    · have h3 : vs 3 = l := hv0 3 (by decide)
      exact wpOp_of _ rfl rfl (op_move rfl h3 ⟨_, fun _ => False, rfl, rfl, fun _ h => h.elim, fun h => h.elim fun _ h9 => h9.elim, Mod.refl _ _⟩)
    · exact wpOp_of _ rfl rfl (op_fieldL rfl rfl ⟨_, fun _ => False, rfl, rfl, fun _ h => h.elim, fun h => h.elim fun _ h9 => h9.elim, Mod.refl _ _⟩)
    · have h : vs 14 = .pointer (some ⟨P, 2, none⟩) := hp 1 (by decide)
      exact wpOp_of _ rfl rfl (op_loadL rfl h (hrd w hb).2.2.1 ⟨_, fun _ => False, rfl, rfl, fun _ h => h.elim, fun h => h.elim fun _ h9 => h9.elim, Mod.refl _ _⟩)
    · exact wpOp_of _ rfl rfl (op_loadM rfl rfl (hrd w hb).1 (hrd w hb).2.1 (hrd w hb).2.2.1 ⟨_, fun _ => False, rfl, rfl, fun _ h => h.elim, fun h => h.elim fun _ h9 => h9.elim, Mod.refl _ _⟩)
    · exact wpOp_of _ rfl rfl (op_move rfl rfl ⟨_, fun _ => False, rfl, rfl, fun _ h => h.elim, fun h => h.elim fun _ h9 => h9.elim, Mod.refl _ _⟩)
    · have h1 : vs 16 = .agg #[.int .i64 r, .int .i64 c, .slice (some ad) m cap] := hp 3 (by decide)
      have h2 : vs 17 = .int .i64 i := hp 4 (by decide)
      exact wpOp_of _ rfl rfl (op_call2 enters_onD rfl h1 h2 (kD w) (by rintro e b ⟨rfl, b'⟩; exact ⟨_, rfl, _, fun _ => False, rfl, rfl, fun _ h => h.elim, fun h => h.elim fun _ h9 => h9.elim, Mod.of b'⟩))
    · have h1 : vs 15 = .slice (some ad) m cap := hp 2 (by decide)
      have h2 : vs 18 = .int .i64 (q : Nat) := hp 5 (by decide)
      exact wpOp_of _ rfl rfl (op_indexQ rfl h1 h2 hqm ⟨_, fun _ => False, rfl, rfl, fun _ h => h.elim, fun h => h.elim fun _ h9 => h9.elim, Mod.refl _ _⟩)
    · have h1 : vs 19 = .pointer (some (ad.add q)) := hp 6 (by decide)
      exact wpOp_of _ rfl rfl (op_loadQ rfl h1 (hrd w hb).2.2.2 ⟨_, fun _ => False, rfl, rfl, fun _ h => h.elim, fun h => h.elim fun _ h9 => h9.elim, Mod.refl _ _⟩)
    · have h1 : vs 20 = .int .i64 x := hp 7 (by decide)
      exact wpOp_of _ rfl rfl (op_buildQ rfl h1 ⟨_, fun k => k = w.heap.size, rfl, ⟨_, rfl, rfl, heap_new _ _⟩, fun k hk => .inr (.inl (by subst hk; simp)), fun h => h.elim fun _ h9 => h9.elim, Mod.of (box_below w _)⟩)
    · have h1 : vs 13 = l := hp 0 (by decide)
      obtain ⟨X, h2, h3, h4⟩ : ∃ X, vs 21 = .slice (some ⟨X, 0, none⟩) 1 1 ∧ S 8 X ∧ w.heap[X]? = some (.cells #[.int .i64 x] 41 (0, 0)) := hp 8 (by decide)
      have hol := own_agree hown (w' := w) (fun k hk => hwr k hk (fun j h => ⟨by rw [h.1]; decide, .inl h.1⟩))
      refine wpOp_of _ rfl rfl (op_appendQ hi0 hz0 hz1 hz2 rfl h1 h2 hol h4 ha (Nat.le_trans hB0 hb.size) ?_)
      intro v' w' ho hg hbk
      refine ⟨v', fun k => v'.ownBlock = some k, rfl, ⟨ho, fun k hk => hk⟩, fun k hk => ?_, fun h => h.elim fun _ h9 => h9.elim, ⟨hg.os, hg.tape, hg.output, hg.size, fun k hk hk' => hg.block k hk (fun e => hk' (.inl ⟨rfl, e.symm⟩))⟩⟩
      rcases hbk with h | h
      · exact .inr (.inr ⟨rfl, by rw [← h]; exact hk⟩)
      · rw [h] at hk; injection hk with hk; subst hk; exact .inr (.inl ⟨Nat.le_refl _, (ho.lt _ h).2⟩)
    · have h1 : w.ownsRow B0 41 1 (vs 22) (a + 1) (vals ++ [.int .i64 x]) ∧ ∀ k, (vs 22).ownBlock = some k → S 9 k := hp 9 (by decide)
      exact wpOp_of _ rfl rfl (op_assign rfl rfl ⟨_, S 9, rfl, h1, fun k hk => .inl ⟨9, by decide, hk⟩, fun h => h.elim fun _ h9 => h9.elim, Mod.refl _ _⟩)
  · intro vs w S hb hT
    have h : w.ownsRow B0 41 1 (vs 3) (a + 1) (vals ++ [.int .i64 x]) ∧ ∀ k, (vs 3).ownBlock = some k → S 10 k := hT 10 (by decide) (fun _ h => h)
    exact hQ vs w hb h.1
end Go.Proofs.Ytiniobcknmaigaa
