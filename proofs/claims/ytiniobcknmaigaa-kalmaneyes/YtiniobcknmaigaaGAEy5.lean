/-
  KalmanEyes: told on.
-/
import Derived.Test.YtiniobcknmaigaaGAEnt
namespace Go.Proofs.Ytiniobcknmaigaa
open Go.RowKit Go.Sort Qm

def ey5Ops : Array Oper := #[
    { dst := some 22, op := Op.load 26 (Operand.tmp 1), type := 26, pos := "more.go:17", after := #[], guard := none },
    { dst := some 23, op := Op.load 24 (Operand.tmp 4), type := 24, pos := "more.go:17", after := #[], guard := none },
    { dst := some 24, op := Op.fieldAddr 26 (Operand.tmp 1) 0, type := 0, pos := "more.go:17", after := #[], guard := none },
    { dst := some 25, op := Op.fieldAddr 24 (Operand.tmp 24) 0, type := 0, pos := "more.go:17", after := #[{ on := 2, ground := Ground.data }], guard := none },
    { dst := some 26, op := Op.load 3 (Operand.tmp 25), type := 3, pos := "more.go:17", after := #[{ on := 3, ground := Ground.data }], guard := none },
    { dst := some 27, op := Op.fieldAddr 26 (Operand.tmp 1) 0, type := 0, pos := "more.go:17", after := #[], guard := none },
    { dst := some 28, op := Op.fieldAddr 24 (Operand.tmp 27) 0, type := 0, pos := "more.go:17", after := #[{ on := 5, ground := Ground.data }], guard := none },
    { dst := some 29, op := Op.load 3 (Operand.tmp 28), type := 3, pos := "more.go:17", after := #[{ on := 6, ground := Ground.data }], guard := none },
    { dst := some 30, op := Op.call { callee := Callee.value (Operand.func 25), args := #[Operand.tmp 26, Operand.tmp 29], argTypes := #[3, 3] }, type := 24, pos := "more.go:17", after := #[{ on := 4, ground := Ground.data }, { on := 7, ground := Ground.data }], guard := none },
    { dst := some 31, op := Op.call { callee := Callee.value (Operand.func 21), args := #[Operand.tmp 22, Operand.tmp 23, Operand.tmp 30], argTypes := #[26, 24, 24] }, type := 45, pos := "more.go:17", after := #[{ on := 0, ground := Ground.data }, { on := 1, ground := Ground.data }, { on := 8, ground := Ground.data }, { on := 8, ground := Ground.chain }], guard := none },
    { dst := some 21, op := Op.move (Operand.tmp 31), type := 45, pos := "more.go:17", after := #[{ on := 9, ground := Ground.data }], guard := none },
    { dst := some 32, op := Op.extract (Operand.tmp 21) 0, type := 26, pos := "more.go:17", after := #[{ on := 10, ground := Ground.data }], guard := none },
    { dst := some 33, op := Op.extract (Operand.tmp 21) 1, type := 4, pos := "more.go:17", after := #[{ on := 10, ground := Ground.data }, { on := 15, ground := Ground.gcOnly Departure.lateStores }], guard := none },
    { dst := some 34, op := Op.extract (Operand.tmp 21) 2, type := 30, pos := "more.go:17", after := #[{ on := 10, ground := Ground.data }, { on := 16, ground := Ground.gcOnly Departure.lateStores }], guard := none },
    { dst := some 6, op := Op.alloc 26, type := 0, pos := "more.go:17", after := #[], guard := none },
    { dst := none, op := Op.store 26 (Operand.tmp 6) (Operand.tmp 32), type := 0, pos := "more.go:17", after := #[{ on := 14, ground := Ground.data }, { on := 11, ground := Ground.data }, { on := 9, ground := Ground.chain }, { on := 0, ground := Ground.phase }, { on := 1, ground := Ground.phase }, { on := 2, ground := Ground.phase }, { on := 3, ground := Ground.phase }, { on := 4, ground := Ground.phase }, { on := 5, ground := Ground.phase }, { on := 6, ground := Ground.phase }, { on := 7, ground := Ground.phase }, { on := 8, ground := Ground.phase }, { on := 9, ground := Ground.phase }, { on := 10, ground := Ground.phase }, { on := 11, ground := Ground.phase }, { on := 12, ground := Ground.textOnly Departure.lateStores }, { on := 13, ground := Ground.textOnly Departure.lateStores }, { on := 14, ground := Ground.phase }], guard := none },
    { dst := some 7, op := Op.assign (Operand.tmp 33), type := 4, pos := "more.go:17", after := #[{ on := 12, ground := Ground.data }, { on := 15, ground := Ground.chain }, { on := 0, ground := Ground.phase }, { on := 1, ground := Ground.phase }, { on := 2, ground := Ground.phase }, { on := 3, ground := Ground.phase }, { on := 4, ground := Ground.phase }, { on := 5, ground := Ground.phase }, { on := 6, ground := Ground.phase }, { on := 7, ground := Ground.phase }, { on := 8, ground := Ground.phase }, { on := 9, ground := Ground.phase }, { on := 10, ground := Ground.phase }, { on := 11, ground := Ground.phase }, { on := 12, ground := Ground.phase }, { on := 13, ground := Ground.textOnly Departure.lateStores }, { on := 14, ground := Ground.phase }, { on := 15, ground := Ground.phase }], guard := none },
    { dst := some 8, op := Op.assign (Operand.tmp 34), type := 30, pos := "more.go:17", after := #[{ on := 13, ground := Ground.data }, { on := 16, ground := Ground.chain }, { on := 0, ground := Ground.phase }, { on := 1, ground := Ground.phase }, { on := 2, ground := Ground.phase }, { on := 3, ground := Ground.phase }, { on := 4, ground := Ground.phase }, { on := 5, ground := Ground.phase }, { on := 6, ground := Ground.phase }, { on := 7, ground := Ground.phase }, { on := 8, ground := Ground.phase }, { on := 9, ground := Ground.phase }, { on := 10, ground := Ground.phase }, { on := 11, ground := Ground.phase }, { on := 12, ground := Ground.phase }, { on := 13, ground := Ground.phase }, { on := 14, ground := Ground.phase }, { on := 15, ground := Ground.phase }, { on := 16, ground := Ground.phase }], guard := none }]
def ey5Dst (i : Nat) : Nat := [22, 23, 24, 25, 26, 27, 28, 29, 30, 31, 21, 32, 33, 34, 6, 1015, 7, 8].getD i 0
def ey5Fr (D1 : Nat) (D4 : Nat) (u0 u2 u3 u5 u9 u10 u11 u12 u13 u14 u15 u16 u17 u18 u19 u20 u35 u36 u37 u38 u39 u40 u41 u42 u43 u44 u45 u46 u47 u48 : Value) (vs : Nat → Value) : Act := ⟨#[u0, .pointer (some ⟨D1, 0, none⟩), u2, u3, .pointer (some ⟨D4, 0, none⟩), u5, vs 6, vs 7, vs 8, u9, u10, u11, u12, u13, u14, u15, u16, u17, u18, u19, u20, vs 21, vs 22, vs 23, vs 24, vs 25, vs 26, vs 27, vs 28, vs 29, vs 30, vs 31, vs 32, vs 33, vs 34, u35, u36, u37, u38, u39, u40, u41, u42, u43, u44, u45, u46, u47, u48], []⟩
def ey5T (B : Nat) (D1 : Nat) (n : Nat) (xc : Nat) (pc : Nat) (ec : Nat) (xo : Option Addr) (po : Option Addr) (eo : Option Addr) (xs : List Int) (ps : List Int) (es : List Int) (zs : List Int) : Nat → Value → Value → (Nat → Prop) → World → Prop
  | 0, v, _, _, _ => v = .agg #[.int .i64 n, .int .i64 1, .slice xo xs.length xc, .int .i64 n, .int .i64 n, .slice po ps.length pc]
  | 1, v, _, _, _ => v = .agg #[.int .i64 n, .int .i64 n, .slice eo es.length ec]
  | 2, v, _, _, _ => v = .pointer (some ⟨D1, 0, none⟩)
  | 3, v, _, _, _ => v = .pointer (some ⟨D1, 0, none⟩)
  | 4, v, _, _, _ => v = .int .i64 n
  | 5, v, _, _, _ => v = .pointer (some ⟨D1, 0, none⟩)
  | 6, v, _, _, _ => v = .pointer (some ⟨D1, 0, none⟩)
  | 7, v, _, _, _ => v = .int .i64 n
  | 8, v, _, S, w => TV1 B B (fun s => .agg #[.int .i64 n, .int .i64 n, s]) zs v S w
  | 9, v, _, S, w => TV2 B B (fun s t => .tuple #[.agg #[.int .i64 n, .int .i64 1, s, .int .i64 n, .int .i64 n, t], .bool false, .int .i64 0]) xs ps v S w
  | 10, v, _, S, w => TV2 B B (fun s t => .tuple #[.agg #[.int .i64 n, .int .i64 1, s, .int .i64 n, .int .i64 n, t], .bool false, .int .i64 0]) xs ps v S w
  | 11, v, _, S, w => TV2 B B (fun s t => .agg #[.int .i64 n, .int .i64 1, s, .int .i64 n, .int .i64 n, t]) xs ps v S w
  | 12, v, _, _, _ => v = .bool false
  | 13, v, _, _, _ => v = .int .i64 0
  | 14, v, _, S, w => TP6 B v S w
  | 15, _, u, S, w => TS2 B B n 1 n n xs ps u S w
  | 16, v, _, _, _ => v = .bool false
  | 17, v, _, _, _ => v = .int .i64 0
  | _, _, _, _, _ => True
set_option maxRecDepth 40000 in
set_option maxHeartbeats 1600000 in
theorem ey5_region {Q : Exit → Act → World → Prop} {w0 : World} {D1 : Nat} {D4 : Nat} {n : Nat} {xc : Nat} {pc : Nat} {ec : Nat} {xo : Option Addr} {po : Option Addr} {eo : Option Addr} {xs : List Int} {ps : List Int} {es : List Int} {zs : List Int} {u0 u2 u3 u5 u9 u10 u11 u12 u13 u14 u15 u16 u17 u18 u19 u20 u35 u36 u37 u38 u39 u40 u41 u42 u43 u44 u45 u46 u47 u48 : Value}
    (cT : ∀ w, Mod (fun _ => False) w0 w → w.heap[D1]? = some (.cells #[.int .i64 n, .int .i64 1, .slice xo xs.length xc, .int .i64 n, .int .i64 n, .slice po ps.length pc] 26 (0, 0)))
    (cN : ∀ w, Mod (fun _ => False) w0 w → w.cell? ⟨D1, 0, none⟩ = some (.int .i64 n))
    (cE : ∀ w, Mod (fun _ => False) w0 w → w.cell? ⟨D4, 0, none⟩ = some (.int .i64 n) ∧ w.cell? ⟨D4, 1, none⟩ = some (.int .i64 n) ∧ w.cell? ⟨D4, 2, none⟩ = some (.slice eo es.length ec))
    (kN : ∀ w, Mod (fun _ => False) w0 w → Calls Try.prog 25 #[.int .i64 n, .int .i64 n] w fun e b => ∃ v, e = .returned (.agg #[.int .i64 n, .int .i64 n, v]) ∧ Sees b v zs ∧ New w.heap.size v ∧ Below w.heap.size w b) (z_zs : 0 < zs.length)
    (kP : ∀ w, Mod (fun _ => False) w0 w → ∀ s, Sees w s zs → Calls Try.prog 21 #[.agg #[.int .i64 n, .int .i64 1, .slice xo xs.length xc, .int .i64 n, .int .i64 n, .slice po ps.length pc], .agg #[.int .i64 n, .int .i64 n, .slice eo es.length ec], .agg #[.int .i64 n, .int .i64 n, s]] w fun e b => ∃ va vb, e = .returned (.tuple #[.agg #[.int .i64 n, .int .i64 1, va, .int .i64 n, .int .i64 n, vb], .bool false, .int .i64 0]) ∧ Sees b va xs ∧ Sees b vb ps ∧ New w.heap.size va ∧ New w.heap.size vb ∧ Below w.heap.size w b) (z_xs : 0 < xs.length) (z_ps : 0 < ps.length)
    (hQ : ∀ vs D ao ac bo bc w, Mod (fun _ => False) w0 w → vs 7 = .bool false → vs 8 = .int .i64 0 → vs 6 = .pointer (some ⟨D, 0, none⟩) → w0.heap.size ≤ D → w.heap[D]? = some (.cells #[.int .i64 n, .int .i64 1, .slice ao xs.length ac, .int .i64 n, .int .i64 n, .slice bo ps.length bc] 26 (0, 0)) → Sees w (.slice ao xs.length ac) xs → Sees w (.slice bo ps.length bc) ps → Q .normal (ey5Fr D1 D4 u0 u2 u3 u5 u9 u10 u11 u12 u13 u14 u15 u16 u17 u18 u19 u20 u35 u36 u37 u38 u39 u40 u41 u42 u43 u44 u45 u46 u47 u48 vs) w) :
    (Code.region 5 ey5Ops true).wp Try.prog Q (ey5Fr D1 D4 u0 u2 u3 u5 u9 u10 u11 u12 u13 u14 u15 u16 u17 u18 u19 u20 u35 u36 u37 u38 u39 u40 u41 u42 u43 u44 u45 u46 u47 u48 (fun _ => undef)) w0 := by
  refine wp_region_own3 (by kernel_rfl) (by decide) ey5Dst (by decide) (ey5Fr D1 D4 u0 u2 u3 u5 u9 u10 u11 u12 u13 u14 u15 u16 u17 u18 u19 u20 u35 u36 u37 u38 u39 u40 u41 u42 u43 u44 u45 u46 u47 u48) (fun _ => undef) (fun i => if i = 15 then 14 else i) (by decide) (fun _ => False) (fun q hq => hq.elim) (fun _ _ => False) (fun _ _ h => h.elim) (fun _ _ _ h _ => h.elim)
    (fun s j => s = 15 ∧ j = 14) (fun s j h => by obtain ⟨rfl, rfl⟩ := h; exact ⟨by decide, by decide⟩) (fun s s2 j h h2 => h.1.trans h2.1.symm) (ey5T w0.heap.size D1 n xc pc ec xo po eo xs ps es zs) ?_ ?_ ?_
  · intro i v u S w w' hi h hw hw' hz hS
    have hi' : i < 18 := hi
    rcases (by omega : i = 0 ∨ i = 1 ∨ i = 2 ∨ i = 3 ∨ i = 4 ∨ i = 5 ∨ i = 6 ∨ i = 7 ∨ i = 8 ∨ i = 9 ∨ i = 10 ∨ i = 11 ∨ i = 12 ∨ i = 13 ∨ i = 14 ∨ i = 15 ∨ i = 16 ∨ i = 17) with rfl | rfl | rfl | rfl | rfl | rfl | rfl | rfl | rfl | rfl | rfl | rfl | rfl | rfl | rfl | rfl | rfl | rfl
    · exact h
    · exact h
    · exact h
    · exact h
    · exact h
    · exact h
    · exact h
    · exact h
    · exact TV1.stab (show TV1 w0.heap.size w0.heap.size (fun s => .agg #[.int .i64 n, .int .i64 n, s]) zs v S w from h) (agr_none hw hw' hz hS)
    · exact TV2.stab (show TV2 w0.heap.size w0.heap.size (fun s t => .tuple #[.agg #[.int .i64 n, .int .i64 1, s, .int .i64 n, .int .i64 n, t], .bool false, .int .i64 0]) xs ps v S w from h) (agr_none hw hw' hz hS)
    · exact TV2.stab (show TV2 w0.heap.size w0.heap.size (fun s t => .tuple #[.agg #[.int .i64 n, .int .i64 1, s, .int .i64 n, .int .i64 n, t], .bool false, .int .i64 0]) xs ps v S w from h) (agr_none hw hw' hz hS)
    · exact TV2.stab (show TV2 w0.heap.size w0.heap.size (fun s t => .agg #[.int .i64 n, .int .i64 1, s, .int .i64 n, .int .i64 n, t]) xs ps v S w from h) (agr_none hw hw' hz hS)
    · exact h
    · exact h
    · exact TP6.stab h (agr_none hw hw' hz hS)
    · exact TS2.stab h (agr_none hw hw' hz hS)
    · exact h
    · exact h
  · intro i hi vs w S hb hp hbd hwr hkl _
    have hi' : i < 18 := hi
    rcases (by omega : i = 0 ∨ i = 1 ∨ i = 2 ∨ i = 3 ∨ i = 4 ∨ i = 5 ∨ i = 6 ∨ i = 7 ∨ i = 8 ∨ i = 9 ∨ i = 10 ∨ i = 11 ∨ i = 12 ∨ i = 13 ∨ i = 14 ∨ i = 15 ∨ i = 16 ∨ i = 17) with rfl | rfl | rfl | rfl | rfl | rfl | rfl | rfl | rfl | rfl | rfl | rfl | rfl | rfl | rfl | rfl | rfl | rfl
    · exact wpOp_of _ rfl rfl (op_loadT rfl rfl (cT w hb) ⟨_, fun _ => False, rfl, rfl, fun _ h => h.elim, fun h => (by obtain ⟨s9, h9⟩ := h; exact absurd h9.2 (by decide)), Mod.refl _ _⟩)
    · exact wpOp_of _ rfl rfl (op_loadM rfl rfl (cE w hb).1 (cE w hb).2.1 (cE w hb).2.2 ⟨_, fun _ => False, rfl, rfl, fun _ h => h.elim, fun h => (by obtain ⟨s9, h9⟩ := h; exact absurd h9.2 (by decide)), Mod.refl _ _⟩)
    · exact wpOp_of _ rfl rfl (op_fieldT (i := 0) (by decide) rfl rfl ⟨_, fun _ => False, rfl, rfl, fun _ h => h.elim, fun h => (by obtain ⟨s9, h9⟩ := h; exact absurd h9.2 (by decide)), Mod.refl _ _⟩)
    · have h2 : vs 24 = .pointer (some ⟨D1, 0, none⟩) := hp 2 (by decide) (fun _ h9 => absurd h9.2 (by decide))
      exact wpOp_of _ rfl rfl (op_fieldM0 rfl h2 ⟨_, fun _ => False, rfl, rfl, fun _ h => h.elim, fun h => (by obtain ⟨s9, h9⟩ := h; exact absurd h9.2 (by decide)), Mod.refl _ _⟩)
    · have h3 : vs 25 = .pointer (some ⟨D1, 0, none⟩) := hp 3 (by decide) (fun _ h9 => absurd h9.2 (by decide))
      exact wpOp_of _ rfl rfl (op_loadI rfl h3 (cN w hb) ⟨_, fun _ => False, rfl, rfl, fun _ h => h.elim, fun h => (by obtain ⟨s9, h9⟩ := h; exact absurd h9.2 (by decide)), Mod.refl _ _⟩)
    · exact wpOp_of _ rfl rfl (op_fieldT (i := 0) (by decide) rfl rfl ⟨_, fun _ => False, rfl, rfl, fun _ h => h.elim, fun h => (by obtain ⟨s9, h9⟩ := h; exact absurd h9.2 (by decide)), Mod.refl _ _⟩)
    · have h5 : vs 27 = .pointer (some ⟨D1, 0, none⟩) := hp 5 (by decide) (fun _ h9 => absurd h9.2 (by decide))
      exact wpOp_of _ rfl rfl (op_fieldM0 rfl h5 ⟨_, fun _ => False, rfl, rfl, fun _ h => h.elim, fun h => (by obtain ⟨s9, h9⟩ := h; exact absurd h9.2 (by decide)), Mod.refl _ _⟩)
    · have h6 : vs 28 = .pointer (some ⟨D1, 0, none⟩) := hp 6 (by decide) (fun _ h9 => absurd h9.2 (by decide))
      exact wpOp_of _ rfl rfl (op_loadI rfl h6 (cN w hb) ⟨_, fun _ => False, rfl, rfl, fun _ h => h.elim, fun h => (by obtain ⟨s9, h9⟩ := h; exact absurd h9.2 (by decide)), Mod.refl _ _⟩)
    · have h4 : vs 26 = .int .i64 n := hp 4 (by decide) (fun _ h9 => absurd h9.2 (by decide))
      have h7 : vs 29 = .int .i64 n := hp 7 (by decide) (fun _ h9 => absurd h9.2 (by decide))
      exact wpOp_of _ rfl rfl (op_call2 enters_none rfl h4 h7 (kN w hb) (by rintro e b ⟨v, rfl, s', n', b'⟩; have hl := s'.lt z_zs; obtain ⟨so, sc, rfl⟩ := s'.slice; exact ⟨_, rfl, _, fun q => (Value.slice so zs.length sc).ownBlock = some q, rfl, ⟨so, sc, rfl, s', fun q hq => .inl hq⟩, fun q hq => .inr (.inl ⟨n' q hq, hl q hq⟩), fun h => (by obtain ⟨s9, h9⟩ := h; exact absurd h9.2 (by decide)), Mod.of b'⟩))
    · have h0 : vs 22 = .agg #[.int .i64 n, .int .i64 1, .slice xo xs.length xc, .int .i64 n, .int .i64 n, .slice po ps.length pc] := hp 0 (by decide) (fun _ h9 => absurd h9.2 (by decide))
      have h1 : vs 23 = .agg #[.int .i64 n, .int .i64 n, .slice eo es.length ec] := hp 1 (by decide) (fun _ h9 => absurd h9.2 (by decide))
      obtain ⟨o8, p8, h8, s8, k8⟩ : TV1 w0.heap.size w0.heap.size (fun s => .agg #[.int .i64 n, .int .i64 n, s]) zs (vs 30) (S 8) w := hp 8 (by decide) (fun _ h9 => absurd h9.2 (by decide))
      exact wpOp_of _ rfl rfl (op_call3 enters_pred rfl h0 h1 h8 (kP w hb _ s8) (by rintro e b ⟨va, vb, rfl, s1, s2, n1, n2, b'⟩; have hl1 := s1.lt z_xs; have hl2 := s2.lt z_ps; obtain ⟨o1, c1, rfl⟩ := s1.slice; obtain ⟨o2, c2, rfl⟩ := s2.slice; exact ⟨_, rfl, _, fun q => (Value.slice o1 xs.length c1).ownBlock = some q ∨ (Value.slice o2 ps.length c2).ownBlock = some q, rfl, ⟨o1, c1, o2, c2, rfl, s1, s2, fun q hq => .inl (.inl hq), fun q hq => .inl (.inr hq)⟩, fun q hq => hq.elim (fun h => .inr (.inl ⟨n1 q h, hl1 q h⟩)) (fun h => .inr (.inl ⟨n2 q h, hl2 q h⟩)), fun h => (by obtain ⟨s9, h9⟩ := h; exact absurd h9.2 (by decide)), Mod.of b'⟩))
    · obtain ⟨o9, p9, q9, r9, h9, s9, t9, k9, l9⟩ : TV2 w0.heap.size w0.heap.size (fun s t => .tuple #[.agg #[.int .i64 n, .int .i64 1, s, .int .i64 n, .int .i64 n, t], .bool false, .int .i64 0]) xs ps (vs 31) (S 9) w := hp 9 (by decide) (fun _ h9 => absurd h9.2 (by decide))
      exact wpOp_of _ rfl rfl (op_move rfl h9 ⟨_, S 9, rfl, ⟨o9, p9, q9, r9, rfl, s9, t9, k9, l9⟩, fun q hq => .inl ⟨9, by decide, fun _ h9 => absurd h9.2 (by decide), hq⟩, fun h => (by obtain ⟨s9, h9⟩ := h; exact absurd h9.2 (by decide)), Mod.refl _ _⟩)
    · obtain ⟨o10, p10, q10, r10, h10, s10, t10, k10, l10⟩ : TV2 w0.heap.size w0.heap.size (fun s t => .tuple #[.agg #[.int .i64 n, .int .i64 1, s, .int .i64 n, .int .i64 n, t], .bool false, .int .i64 0]) xs ps (vs 21) (S 10) w := hp 10 (by decide) (fun _ h9 => absurd h9.2 (by decide))
      exact wpOp_of _ rfl rfl (op_extract rfl h10 rfl ⟨_, S 10, rfl, ⟨o10, p10, q10, r10, rfl, s10, t10, k10, l10⟩, fun q hq => .inl ⟨10, by decide, fun _ h9 => absurd h9.2 (by decide), hq⟩, fun h => (by obtain ⟨s9, h9⟩ := h; exact absurd h9.2 (by decide)), Mod.refl _ _⟩)
    · obtain ⟨o10, p10, q10, r10, h10, s10, t10, k10, l10⟩ : TV2 w0.heap.size w0.heap.size (fun s t => .tuple #[.agg #[.int .i64 n, .int .i64 1, s, .int .i64 n, .int .i64 n, t], .bool false, .int .i64 0]) xs ps (vs 21) (S 10) w := hp 10 (by decide) (fun _ h9 => absurd h9.2 (by decide))
      exact wpOp_of _ rfl rfl (op_extract rfl h10 rfl ⟨_, fun _ => False, rfl, rfl, fun _ h => h.elim, fun h => (by obtain ⟨s9, h9⟩ := h; exact absurd h9.2 (by decide)), Mod.refl _ _⟩)
    · obtain ⟨o10, p10, q10, r10, h10, s10, t10, k10, l10⟩ : TV2 w0.heap.size w0.heap.size (fun s t => .tuple #[.agg #[.int .i64 n, .int .i64 1, s, .int .i64 n, .int .i64 n, t], .bool false, .int .i64 0]) xs ps (vs 21) (S 10) w := hp 10 (by decide) (fun _ h9 => absurd h9.2 (by decide))
      exact wpOp_of _ rfl rfl (op_extract rfl h10 rfl ⟨_, fun _ => False, rfl, rfl, fun _ h => h.elim, fun h => (by obtain ⟨s9, h9⟩ := h; exact absurd h9.2 (by decide)), Mod.refl _ _⟩)
    · exact wpOp_of _ rfl rfl (op_alloc26 rfl ⟨_, fun b => b = w.heap.size, rfl, ⟨_, rfl, rfl, hb.size, _, _, _, _, _, _, heap_new _ _⟩, fun b h => .inr (.inl (by subst h; simp)), fun _ b h => .inl (by omega), Mod.of (box_below w _)⟩)
    · obtain ⟨D, hD, hSD, hBD, x0, x1, x2, x3, x4, x5, hbl⟩ : TP6 w0.heap.size (vs 6) (S 14) w := hp 14 (by decide) (fun _ h9 => h9.1)
      obtain ⟨o11, p11, q11, r11, h11, s11, t11, k11, l11⟩ : TV2 w0.heap.size w0.heap.size (fun s t => .agg #[.int .i64 n, .int .i64 1, s, .int .i64 n, .int .i64 n, t]) xs ps (vs 32) (S 11) w := hp 11 (by decide) (fun _ h9 => absurd h9.2 (by decide))
      have hne : ∀ v, OkS w0.heap.size w0.heap.size (S 11) v → ∀ q, v.ownBlock = some q → q ≠ D := fun v hv q hq e => (hv q hq).elim (fun h => hkl 14 ⟨rfl, rfl⟩ 11 (by decide) (by decide) D hSD (e ▸ h)) (fun h => by omega)
      refine wpOp_of _ rfl rfl (op_storeT rfl rfl hD h11 hbl ?_)
      exact ⟨undef, fun q => q = D ∨ S 11 q, rfl, ⟨D, o11, p11, q11, r11, hD, .inl rfl, hBD, put_six hbl, s11.six (hne _ k11) _ _ _ _ _ _, t11.six (hne _ l11) _ _ _ _ _ _, fun q hq => (k11 q hq).imp .inr id, fun q hq => (l11 q hq).imp .inr id⟩, fun q hq => hq.elim (fun h => .inl ⟨14, by decide, fun _ h9 => h9.1, h ▸ hSD⟩) (fun h => .inl ⟨11, by decide, fun _ h9 => absurd h9.2 (by decide), h⟩), fun h => (by obtain ⟨s9, h9⟩ := h; exact absurd h9.2 (by decide)), (mod_six _ _ _ _ _ _).mono fun q _ hq => .inr ⟨14, ⟨rfl, rfl⟩, hq ▸ hSD⟩⟩
    · have h12 : vs 33 = .bool false := hp 12 (by decide) (fun _ h9 => absurd h9.2 (by decide))
      exact wpOp_of _ rfl rfl (op_assign rfl h12 ⟨_, fun _ => False, rfl, rfl, fun _ h => h.elim, fun h => (by obtain ⟨s9, h9⟩ := h; exact absurd h9.2 (by decide)), Mod.refl _ _⟩)
    · have h13 : vs 34 = .int .i64 0 := hp 13 (by decide) (fun _ h9 => absurd h9.2 (by decide))
      exact wpOp_of _ rfl rfl (op_assign rfl h13 ⟨_, fun _ => False, rfl, rfl, fun _ h => h.elim, fun h => (by obtain ⟨s9, h9⟩ := h; exact absurd h9.2 (by decide)), Mod.refl _ _⟩)
  · intro vs w S hb hT
    obtain ⟨D, ao, ac, bo, bc, h1, _, h3, h4, h5, h6, _⟩ : TS2 w0.heap.size w0.heap.size n 1 n n xs ps (vs 6) (S 15) w := hT 15 (by decide) (fun s h => by omega)
    exact hQ vs D ao ac bo bc w hb (hT 16 (by decide) (fun s h => by omega)) (hT 17 (by decide) (fun s h => by omega)) h1 h3 h4 h5 h6
end Go.Proofs.Ytiniobcknmaigaa
