/-
  KalmanGoods: x, y.
-/
import Derived.Test.YtiniobcknmaigaaGAEnt
namespace Go.Proofs.Ytiniobcknmaigaa
open Go.RowKit Go.Sort Qm

def gd5Ops : Array Oper := #[
    { dst := some 21, op := Op.fieldAddr 24 (Operand.tmp 1) 0, type := 0, pos := "more.go:74", after := #[], guard := none },
    { dst := some 22, op := Op.load 3 (Operand.tmp 21), type := 3, pos := "more.go:74", after := #[{ on := 0, ground := Ground.data }], guard := none },
    { dst := some 23, op := Op.call { callee := Callee.value (Operand.func 25), args := #[Operand.tmp 22, Operand.const (Value.int IntKind.i64 1)], argTypes := #[3, 3] }, type := 24, pos := "more.go:74", after := #[{ on := 1, ground := Ground.data }], guard := none },
    { dst := some 24, op := Op.load 24 (Operand.tmp 4), type := 24, pos := "more.go:74", after := #[], guard := none },
    { dst := some 25, op := Op.build 26 #[(0, Operand.tmp 23), (1, Operand.tmp 24)], type := 26, pos := "more.go:74", after := #[{ on := 2, ground := Ground.data }, { on := 3, ground := Ground.data }], guard := none },
    { dst := some 5, op := Op.alloc 26, type := 0, pos := "more.go:74", after := #[], guard := none },
    { dst := none, op := Op.store 26 (Operand.tmp 5) (Operand.tmp 25), type := 0, pos := "more.go:74", after := #[{ on := 5, ground := Ground.data }, { on := 4, ground := Ground.data }, { on := 2, ground := Ground.chain }, { on := 0, ground := Ground.phase }, { on := 1, ground := Ground.phase }, { on := 2, ground := Ground.phase }, { on := 3, ground := Ground.phase }, { on := 4, ground := Ground.phase }, { on := 5, ground := Ground.phase }], guard := none }]
def gd5Dst (i : Nat) : Nat := [21, 22, 23, 24, 25, 5, 1006].getD i 0
def gd5Fr (D1 : Nat) (D4 : Nat) (u0 u2 u3 u6 u7 u8 u9 u10 u11 u12 u13 u14 u15 u16 u17 u18 u19 u20 u26 u27 u28 u29 u30 u31 u32 u33 u34 u35 u36 u37 u38 u39 u40 u41 u42 u43 u44 u45 u46 u47 u48 u49 u50 u51 u52 u53 u54 u55 : Value) (vs : Nat → Value) : Act := ⟨#[u0, .pointer (some ⟨D1, 0, none⟩), u2, u3, .pointer (some ⟨D4, 0, none⟩), vs 5, u6, u7, u8, u9, u10, u11, u12, u13, u14, u15, u16, u17, u18, u19, u20, vs 21, vs 22, vs 23, vs 24, vs 25, u26, u27, u28, u29, u30, u31, u32, u33, u34, u35, u36, u37, u38, u39, u40, u41, u42, u43, u44, u45, u46, u47, u48, u49, u50, u51, u52, u53, u54, u55], []⟩
def gd5T (B : Nat) (D1 : Nat) (n : Nat) (gc : Nat) (go : Option Addr) (gs : List Int) (zs : List Int) : Nat → Value → Value → (Nat → Prop) → World → Prop
  | 0, v, _, _, _ => v = .pointer (some ⟨D1, 0, none⟩)
  | 1, v, _, _, _ => v = .int .i64 n
  | 2, v, _, S, w => TV1 B B (fun s => .agg #[.int .i64 n, .int .i64 1, s]) zs v S w
  | 3, v, _, _, _ => v = .agg #[.int .i64 n, .int .i64 n, .slice go gs.length gc]
  | 4, v, _, S, w => TV2 B B (fun s t => .agg #[.int .i64 n, .int .i64 1, s, .int .i64 n, .int .i64 n, t]) zs gs v S w
  | 5, v, _, S, w => TP6 B v S w
  | 6, _, u, S, w => TS2 B B n 1 n n zs gs u S w
  | _, _, _, _, _ => True
set_option maxRecDepth 40000 in
set_option maxHeartbeats 1600000 in
theorem gd5_region {Q : Exit → Act → World → Prop} {w0 : World} {D1 : Nat} {D4 : Nat} {n : Nat} {gc : Nat} {go : Option Addr} {gs : List Int} {zs : List Int} {u0 u2 u3 u6 u7 u8 u9 u10 u11 u12 u13 u14 u15 u16 u17 u18 u19 u20 u26 u27 u28 u29 u30 u31 u32 u33 u34 u35 u36 u37 u38 u39 u40 u41 u42 u43 u44 u45 u46 u47 u48 u49 u50 u51 u52 u53 u54 u55 : Value}
    (cN : ∀ w, Mod (fun _ => False) w0 w → w.cell? ⟨D1, 0, none⟩ = some (.int .i64 n))
    (cG : ∀ w, Mod (fun _ => False) w0 w → w.cell? ⟨D4, 0, none⟩ = some (.int .i64 n) ∧ w.cell? ⟨D4, 1, none⟩ = some (.int .i64 n) ∧ w.cell? ⟨D4, 2, none⟩ = some (.slice go gs.length gc))
    (sG : Sees w0 (.slice go gs.length gc) gs) (oG : ∀ k, (Value.slice go gs.length gc).ownBlock = some k → k < w0.heap.size)
    (kN : ∀ w, Mod (fun _ => False) w0 w → Calls Try.prog 25 #[.int .i64 n, .int .i64 1] w fun e b => ∃ v, e = .returned (.agg #[.int .i64 n, .int .i64 1, v]) ∧ Sees b v zs ∧ New w.heap.size v ∧ Below w.heap.size w b) (z_zs : 0 < zs.length)
    (hQ : ∀ vs D ao ac bo bc w, Mod (fun _ => False) w0 w → vs 5 = .pointer (some ⟨D, 0, none⟩) → w0.heap.size ≤ D → w.heap[D]? = some (.cells #[.int .i64 n, .int .i64 1, .slice ao zs.length ac, .int .i64 n, .int .i64 n, .slice bo gs.length bc] 26 (0, 0)) → Sees w (.slice ao zs.length ac) zs → Sees w (.slice bo gs.length bc) gs → Q .normal (gd5Fr D1 D4 u0 u2 u3 u6 u7 u8 u9 u10 u11 u12 u13 u14 u15 u16 u17 u18 u19 u20 u26 u27 u28 u29 u30 u31 u32 u33 u34 u35 u36 u37 u38 u39 u40 u41 u42 u43 u44 u45 u46 u47 u48 u49 u50 u51 u52 u53 u54 u55 vs) w) :
    (Code.region 5 gd5Ops true).wp Try.prog Q (gd5Fr D1 D4 u0 u2 u3 u6 u7 u8 u9 u10 u11 u12 u13 u14 u15 u16 u17 u18 u19 u20 u26 u27 u28 u29 u30 u31 u32 u33 u34 u35 u36 u37 u38 u39 u40 u41 u42 u43 u44 u45 u46 u47 u48 u49 u50 u51 u52 u53 u54 u55 (fun _ => undef)) w0 := by
  have hmb : ∀ w, Mod (fun _ => False) w0 w → Below w0.heap.size w0 w := fun w hw => hw.below (Nat.le_refl _) (fun _ h => h.elim)
  refine wp_region_own3 (by kernel_rfl) (by decide) gd5Dst (by decide) (gd5Fr D1 D4 u0 u2 u3 u6 u7 u8 u9 u10 u11 u12 u13 u14 u15 u16 u17 u18 u19 u20 u26 u27 u28 u29 u30 u31 u32 u33 u34 u35 u36 u37 u38 u39 u40 u41 u42 u43 u44 u45 u46 u47 u48 u49 u50 u51 u52 u53 u54 u55) (fun _ => undef) (fun i => if i = 6 then 5 else i) (by decide) (fun _ => False) (fun q hq => hq.elim) (fun _ _ => False) (fun _ _ h => h.elim) (fun _ _ _ h _ => h.elim)
    (fun s j => s = 6 ∧ j = 5) (fun s j h => by obtain ⟨rfl, rfl⟩ := h; exact ⟨by decide, by decide⟩) (fun s s2 j h h2 => h.1.trans h2.1.symm) (gd5T w0.heap.size D1 n gc go gs zs) ?_ ?_ ?_
  · intro i v u S w w' hi h hw hw' hz hS
    have hi' : i < 7 := hi
    rcases (by omega : i = 0 ∨ i = 1 ∨ i = 2 ∨ i = 3 ∨ i = 4 ∨ i = 5 ∨ i = 6) with rfl | rfl | rfl | rfl | rfl | rfl | rfl
    · exact h
    · exact h
    · exact TV1.stab (show TV1 w0.heap.size w0.heap.size (fun s => .agg #[.int .i64 n, .int .i64 1, s]) zs v S w from h) (agr_none hw hw' hz hS)
    · exact h
    · exact TV2.stab (show TV2 w0.heap.size w0.heap.size (fun s t => .agg #[.int .i64 n, .int .i64 1, s, .int .i64 n, .int .i64 n, t]) zs gs v S w from h) (agr_none hw hw' hz hS)
    · exact TP6.stab h (agr_none hw hw' hz hS)
    · exact TS2.stab h (agr_none hw hw' hz hS)
  · intro i hi vs w S hb hp hbd hwr hkl _
    have hi' : i < 7 := hi
    rcases (by omega : i = 0 ∨ i = 1 ∨ i = 2 ∨ i = 3 ∨ i = 4 ∨ i = 5 ∨ i = 6) with rfl | rfl | rfl | rfl | rfl | rfl | rfl
    · exact wpOp_of _ rfl rfl (op_fieldM0 rfl rfl ⟨_, fun _ => False, rfl, rfl, fun _ h => h.elim, fun h => (by obtain ⟨s9, h9⟩ := h; exact absurd h9.2 (by decide)), Mod.refl _ _⟩)
    · have h0 : vs 21 = .pointer (some ⟨D1, 0, none⟩) := hp 0 (by decide) (fun _ h9 => absurd h9.2 (by decide))
      exact wpOp_of _ rfl rfl (op_loadI rfl h0 (cN w hb) ⟨_, fun _ => False, rfl, rfl, fun _ h => h.elim, fun h => (by obtain ⟨s9, h9⟩ := h; exact absurd h9.2 (by decide)), Mod.refl _ _⟩)
    · have h1 : vs 22 = .int .i64 n := hp 1 (by decide) (fun _ h9 => absurd h9.2 (by decide))
      exact wpOp_of _ rfl rfl (op_call1c enters_none rfl h1 (kN w hb) (by rintro e b ⟨v, rfl, s', n', b'⟩; have hl := s'.lt z_zs; obtain ⟨so, sc, rfl⟩ := s'.slice; exact ⟨_, rfl, _, fun q => (Value.slice so zs.length sc).ownBlock = some q, rfl, ⟨so, sc, rfl, s', fun q hq => .inl hq⟩, fun q hq => .inr (.inl ⟨n' q hq, hl q hq⟩), fun h => (by obtain ⟨s9, h9⟩ := h; exact absurd h9.2 (by decide)), Mod.of b'⟩))
    · exact wpOp_of _ rfl rfl (op_loadM rfl rfl (cG w hb).1 (cG w hb).2.1 (cG w hb).2.2 ⟨_, fun _ => False, rfl, rfl, fun _ h => h.elim, fun h => (by obtain ⟨s9, h9⟩ := h; exact absurd h9.2 (by decide)), Mod.refl _ _⟩)
    · obtain ⟨o2, p2, h2, s2, k2⟩ : TV1 w0.heap.size w0.heap.size (fun s => .agg #[.int .i64 n, .int .i64 1, s]) zs (vs 23) (S 2) w := hp 2 (by decide) (fun _ h9 => absurd h9.2 (by decide))
      have h3 : vs 24 = .agg #[.int .i64 n, .int .i64 n, .slice go gs.length gc] := hp 3 (by decide) (fun _ h9 => absurd h9.2 (by decide))
      exact wpOp_of _ rfl rfl (op_buildT rfl h2 h3 ⟨_, S 2, rfl, ⟨o2, p2, _, _, rfl, s2, sG.below (hmb w hb), k2, fun q hq => .inr ⟨oG q hq, Nat.ne_of_lt (oG q hq)⟩⟩, fun q hq => .inl ⟨2, by decide, fun _ h9 => absurd h9.2 (by decide), hq⟩, fun h => (by obtain ⟨s9, h9⟩ := h; exact absurd h9.2 (by decide)), Mod.refl _ _⟩)
    · exact wpOp_of _ rfl rfl (op_alloc26 rfl ⟨_, fun b => b = w.heap.size, rfl, ⟨_, rfl, rfl, hb.size, _, _, _, _, _, _, heap_new _ _⟩, fun b h => .inr (.inl (by subst h; simp)), fun _ b h => .inl (by omega), Mod.of (box_below w _)⟩)
    · obtain ⟨D, hD, hSD, hBD, x0, x1, x2, x3, x4, x5, hbl⟩ : TP6 w0.heap.size (vs 5) (S 5) w := hp 5 (by decide) (fun _ h9 => h9.1)
      obtain ⟨o4, p4, q4, r4, h4, s4, t4, k4, l4⟩ : TV2 w0.heap.size w0.heap.size (fun s t => .agg #[.int .i64 n, .int .i64 1, s, .int .i64 n, .int .i64 n, t]) zs gs (vs 25) (S 4) w := hp 4 (by decide) (fun _ h9 => absurd h9.2 (by decide))
      have hne : ∀ v, OkS w0.heap.size w0.heap.size (S 4) v → ∀ q, v.ownBlock = some q → q ≠ D := fun v hv q hq e => (hv q hq).elim (fun h => hkl 5 ⟨rfl, rfl⟩ 4 (by decide) (by decide) D hSD (e ▸ h)) (fun h => by omega)
      refine wpOp_of _ rfl rfl (op_storeT rfl rfl hD h4 hbl ?_)
      exact ⟨undef, fun q => q = D ∨ S 4 q, rfl, ⟨D, o4, p4, q4, r4, hD, .inl rfl, hBD, put_six hbl, s4.six (hne _ k4) _ _ _ _ _ _, t4.six (hne _ l4) _ _ _ _ _ _, fun q hq => (k4 q hq).imp .inr id, fun q hq => (l4 q hq).imp .inr id⟩, fun q hq => hq.elim (fun h => .inl ⟨5, by decide, fun _ h9 => h9.1, h ▸ hSD⟩) (fun h => .inl ⟨4, by decide, fun _ h9 => absurd h9.2 (by decide), h⟩), fun h => (by obtain ⟨s9, h9⟩ := h; exact absurd h9.2 (by decide)), (mod_six _ _ _ _ _ _).mono fun q _ hq => .inr ⟨5, ⟨rfl, rfl⟩, hq ▸ hSD⟩⟩
  · intro vs w S hb hT
    obtain ⟨D, ao, ac, bo, bc, h1, _, h3, h4, h5, h6, _⟩ : TS2 w0.heap.size w0.heap.size n 1 n n zs gs (vs 5) (S 6) w := hT 6 (by decide) (fun s h => by omega)
    exact hQ vs D ao ac bo bc w hb  h1 h3 h4 h5 h6
def gd6Ops : Array Oper := #[
    { dst := some 26, op := Op.fieldAddr 24 (Operand.tmp 1) 0, type := 0, pos := "more.go:75", after := #[], guard := none },
    { dst := some 27, op := Op.load 3 (Operand.tmp 26), type := 3, pos := "more.go:75", after := #[{ on := 0, ground := Ground.data }], guard := none },
    { dst := some 28, op := Op.call { callee := Callee.value (Operand.func 25), args := #[Operand.tmp 27, Operand.const (Value.int IntKind.i64 1)], argTypes := #[3, 3] }, type := 24, pos := "more.go:75", after := #[{ on := 1, ground := Ground.data }], guard := none },
    { dst := some 29, op := Op.load 24 (Operand.tmp 1), type := 24, pos := "more.go:75", after := #[], guard := none },
    { dst := some 30, op := Op.build 26 #[(0, Operand.tmp 28), (1, Operand.tmp 29)], type := 26, pos := "more.go:75", after := #[{ on := 2, ground := Ground.data }, { on := 3, ground := Ground.data }], guard := none },
    { dst := some 6, op := Op.alloc 26, type := 0, pos := "more.go:75", after := #[], guard := none },
    { dst := none, op := Op.store 26 (Operand.tmp 6) (Operand.tmp 30), type := 0, pos := "more.go:75", after := #[{ on := 5, ground := Ground.data }, { on := 4, ground := Ground.data }, { on := 2, ground := Ground.chain }, { on := 0, ground := Ground.phase }, { on := 1, ground := Ground.phase }, { on := 2, ground := Ground.phase }, { on := 3, ground := Ground.phase }, { on := 4, ground := Ground.phase }, { on := 5, ground := Ground.phase }], guard := none }]
def gd6Dst (i : Nat) : Nat := [26, 27, 28, 29, 30, 6, 1006].getD i 0
def gd6Fr (D1 : Nat) (u0 u2 u3 u4 u5 u7 u8 u9 u10 u11 u12 u13 u14 u15 u16 u17 u18 u19 u20 u21 u22 u23 u24 u25 u31 u32 u33 u34 u35 u36 u37 u38 u39 u40 u41 u42 u43 u44 u45 u46 u47 u48 u49 u50 u51 u52 u53 u54 u55 : Value) (vs : Nat → Value) : Act := ⟨#[u0, .pointer (some ⟨D1, 0, none⟩), u2, u3, u4, u5, vs 6, u7, u8, u9, u10, u11, u12, u13, u14, u15, u16, u17, u18, u19, u20, u21, u22, u23, u24, u25, vs 26, vs 27, vs 28, vs 29, vs 30, u31, u32, u33, u34, u35, u36, u37, u38, u39, u40, u41, u42, u43, u44, u45, u46, u47, u48, u49, u50, u51, u52, u53, u54, u55], []⟩
def gd6T (B : Nat) (D1 : Nat) (n : Nat) (pc : Nat) (po : Option Addr) (ps : List Int) (zs : List Int) : Nat → Value → Value → (Nat → Prop) → World → Prop
  | 0, v, _, _, _ => v = .pointer (some ⟨D1, 0, none⟩)
  | 1, v, _, _, _ => v = .int .i64 n
  | 2, v, _, S, w => TV1 B B (fun s => .agg #[.int .i64 n, .int .i64 1, s]) zs v S w
  | 3, v, _, _, _ => v = .agg #[.int .i64 n, .int .i64 n, .slice po ps.length pc]
  | 4, v, _, S, w => TV2 B B (fun s t => .agg #[.int .i64 n, .int .i64 1, s, .int .i64 n, .int .i64 n, t]) zs ps v S w
  | 5, v, _, S, w => TP6 B v S w
  | 6, _, u, S, w => TS2 B B n 1 n n zs ps u S w
  | _, _, _, _, _ => True
set_option maxRecDepth 40000 in
set_option maxHeartbeats 1600000 in
theorem gd6_region {Q : Exit → Act → World → Prop} {w0 : World} {D1 : Nat} {n : Nat} {pc : Nat} {po : Option Addr} {ps : List Int} {zs : List Int} {u0 u2 u3 u4 u5 u7 u8 u9 u10 u11 u12 u13 u14 u15 u16 u17 u18 u19 u20 u21 u22 u23 u24 u25 u31 u32 u33 u34 u35 u36 u37 u38 u39 u40 u41 u42 u43 u44 u45 u46 u47 u48 u49 u50 u51 u52 u53 u54 u55 : Value}
    (cN : ∀ w, Mod (fun _ => False) w0 w → w.cell? ⟨D1, 0, none⟩ = some (.int .i64 n))
    (cP : ∀ w, Mod (fun _ => False) w0 w → w.cell? ⟨D1, 0, none⟩ = some (.int .i64 n) ∧ w.cell? ⟨D1, 1, none⟩ = some (.int .i64 n) ∧ w.cell? ⟨D1, 2, none⟩ = some (.slice po ps.length pc))
    (sP : Sees w0 (.slice po ps.length pc) ps) (oP : ∀ k, (Value.slice po ps.length pc).ownBlock = some k → k < w0.heap.size)
    (kN : ∀ w, Mod (fun _ => False) w0 w → Calls Try.prog 25 #[.int .i64 n, .int .i64 1] w fun e b => ∃ v, e = .returned (.agg #[.int .i64 n, .int .i64 1, v]) ∧ Sees b v zs ∧ New w.heap.size v ∧ Below w.heap.size w b) (z_zs : 0 < zs.length)
    (hQ : ∀ vs D ao ac bo bc w, Mod (fun _ => False) w0 w → vs 6 = .pointer (some ⟨D, 0, none⟩) → w0.heap.size ≤ D → w.heap[D]? = some (.cells #[.int .i64 n, .int .i64 1, .slice ao zs.length ac, .int .i64 n, .int .i64 n, .slice bo ps.length bc] 26 (0, 0)) → Sees w (.slice ao zs.length ac) zs → Sees w (.slice bo ps.length bc) ps → Q .normal (gd6Fr D1 u0 u2 u3 u4 u5 u7 u8 u9 u10 u11 u12 u13 u14 u15 u16 u17 u18 u19 u20 u21 u22 u23 u24 u25 u31 u32 u33 u34 u35 u36 u37 u38 u39 u40 u41 u42 u43 u44 u45 u46 u47 u48 u49 u50 u51 u52 u53 u54 u55 vs) w) :
    (Code.region 6 gd6Ops true).wp Try.prog Q (gd6Fr D1 u0 u2 u3 u4 u5 u7 u8 u9 u10 u11 u12 u13 u14 u15 u16 u17 u18 u19 u20 u21 u22 u23 u24 u25 u31 u32 u33 u34 u35 u36 u37 u38 u39 u40 u41 u42 u43 u44 u45 u46 u47 u48 u49 u50 u51 u52 u53 u54 u55 (fun _ => undef)) w0 := by
  have hmb : ∀ w, Mod (fun _ => False) w0 w → Below w0.heap.size w0 w := fun w hw => hw.below (Nat.le_refl _) (fun _ h => h.elim)
  refine wp_region_own3 (by kernel_rfl) (by decide) gd6Dst (by decide) (gd6Fr D1 u0 u2 u3 u4 u5 u7 u8 u9 u10 u11 u12 u13 u14 u15 u16 u17 u18 u19 u20 u21 u22 u23 u24 u25 u31 u32 u33 u34 u35 u36 u37 u38 u39 u40 u41 u42 u43 u44 u45 u46 u47 u48 u49 u50 u51 u52 u53 u54 u55) (fun _ => undef) (fun i => if i = 6 then 5 else i) (by decide) (fun _ => False) (fun q hq => hq.elim) (fun _ _ => False) (fun _ _ h => h.elim) (fun _ _ _ h _ => h.elim)
    (fun s j => s = 6 ∧ j = 5) (fun s j h => by obtain ⟨rfl, rfl⟩ := h; exact ⟨by decide, by decide⟩) (fun s s2 j h h2 => h.1.trans h2.1.symm) (gd6T w0.heap.size D1 n pc po ps zs) ?_ ?_ ?_
  · intro i v u S w w' hi h hw hw' hz hS
    have hi' : i < 7 := hi
    rcases (by omega : i = 0 ∨ i = 1 ∨ i = 2 ∨ i = 3 ∨ i = 4 ∨ i = 5 ∨ i = 6) with rfl | rfl | rfl | rfl | rfl | rfl | rfl
    · exact h
    · exact h
    · exact TV1.stab (show TV1 w0.heap.size w0.heap.size (fun s => .agg #[.int .i64 n, .int .i64 1, s]) zs v S w from h) (agr_none hw hw' hz hS)
    · exact h
    · exact TV2.stab (show TV2 w0.heap.size w0.heap.size (fun s t => .agg #[.int .i64 n, .int .i64 1, s, .int .i64 n, .int .i64 n, t]) zs ps v S w from h) (agr_none hw hw' hz hS)
    · exact TP6.stab h (agr_none hw hw' hz hS)
    · exact TS2.stab h (agr_none hw hw' hz hS)
  · intro i hi vs w S hb hp hbd hwr hkl _
    have hi' : i < 7 := hi
    rcases (by omega : i = 0 ∨ i = 1 ∨ i = 2 ∨ i = 3 ∨ i = 4 ∨ i = 5 ∨ i = 6) with rfl | rfl | rfl | rfl | rfl | rfl | rfl
    · exact wpOp_of _ rfl rfl (op_fieldM0 rfl rfl ⟨_, fun _ => False, rfl, rfl, fun _ h => h.elim, fun h => (by obtain ⟨s9, h9⟩ := h; exact absurd h9.2 (by decide)), Mod.refl _ _⟩)
    · have h0 : vs 26 = .pointer (some ⟨D1, 0, none⟩) := hp 0 (by decide) (fun _ h9 => absurd h9.2 (by decide))
      exact wpOp_of _ rfl rfl (op_loadI rfl h0 (cN w hb) ⟨_, fun _ => False, rfl, rfl, fun _ h => h.elim, fun h => (by obtain ⟨s9, h9⟩ := h; exact absurd h9.2 (by decide)), Mod.refl _ _⟩)
    · have h1 : vs 27 = .int .i64 n := hp 1 (by decide) (fun _ h9 => absurd h9.2 (by decide))
      exact wpOp_of _ rfl rfl (op_call1c enters_none rfl h1 (kN w hb) (by rintro e b ⟨v, rfl, s', n', b'⟩; have hl := s'.lt z_zs; obtain ⟨so, sc, rfl⟩ := s'.slice; exact ⟨_, rfl, _, fun q => (Value.slice so zs.length sc).ownBlock = some q, rfl, ⟨so, sc, rfl, s', fun q hq => .inl hq⟩, fun q hq => .inr (.inl ⟨n' q hq, hl q hq⟩), fun h => (by obtain ⟨s9, h9⟩ := h; exact absurd h9.2 (by decide)), Mod.of b'⟩))
    · exact wpOp_of _ rfl rfl (op_loadM rfl rfl (cP w hb).1 (cP w hb).2.1 (cP w hb).2.2 ⟨_, fun _ => False, rfl, rfl, fun _ h => h.elim, fun h => (by obtain ⟨s9, h9⟩ := h; exact absurd h9.2 (by decide)), Mod.refl _ _⟩)
    · obtain ⟨o2, p2, h2, s2, k2⟩ : TV1 w0.heap.size w0.heap.size (fun s => .agg #[.int .i64 n, .int .i64 1, s]) zs (vs 28) (S 2) w := hp 2 (by decide) (fun _ h9 => absurd h9.2 (by decide))
      have h3 : vs 29 = .agg #[.int .i64 n, .int .i64 n, .slice po ps.length pc] := hp 3 (by decide) (fun _ h9 => absurd h9.2 (by decide))
      exact wpOp_of _ rfl rfl (op_buildT rfl h2 h3 ⟨_, S 2, rfl, ⟨o2, p2, _, _, rfl, s2, sP.below (hmb w hb), k2, fun q hq => .inr ⟨oP q hq, Nat.ne_of_lt (oP q hq)⟩⟩, fun q hq => .inl ⟨2, by decide, fun _ h9 => absurd h9.2 (by decide), hq⟩, fun h => (by obtain ⟨s9, h9⟩ := h; exact absurd h9.2 (by decide)), Mod.refl _ _⟩)
    · exact wpOp_of _ rfl rfl (op_alloc26 rfl ⟨_, fun b => b = w.heap.size, rfl, ⟨_, rfl, rfl, hb.size, _, _, _, _, _, _, heap_new _ _⟩, fun b h => .inr (.inl (by subst h; simp)), fun _ b h => .inl (by omega), Mod.of (box_below w _)⟩)
    · obtain ⟨D, hD, hSD, hBD, x0, x1, x2, x3, x4, x5, hbl⟩ : TP6 w0.heap.size (vs 6) (S 5) w := hp 5 (by decide) (fun _ h9 => h9.1)
      obtain ⟨o4, p4, q4, r4, h4, s4, t4, k4, l4⟩ : TV2 w0.heap.size w0.heap.size (fun s t => .agg #[.int .i64 n, .int .i64 1, s, .int .i64 n, .int .i64 n, t]) zs ps (vs 30) (S 4) w := hp 4 (by decide) (fun _ h9 => absurd h9.2 (by decide))
      have hne : ∀ v, OkS w0.heap.size w0.heap.size (S 4) v → ∀ q, v.ownBlock = some q → q ≠ D := fun v hv q hq e => (hv q hq).elim (fun h => hkl 5 ⟨rfl, rfl⟩ 4 (by decide) (by decide) D hSD (e ▸ h)) (fun h => by omega)
      refine wpOp_of _ rfl rfl (op_storeT rfl rfl hD h4 hbl ?_)
      exact ⟨undef, fun q => q = D ∨ S 4 q, rfl, ⟨D, o4, p4, q4, r4, hD, .inl rfl, hBD, put_six hbl, s4.six (hne _ k4) _ _ _ _ _ _, t4.six (hne _ l4) _ _ _ _ _ _, fun q hq => (k4 q hq).imp .inr id, fun q hq => (l4 q hq).imp .inr id⟩, fun q hq => hq.elim (fun h => .inl ⟨5, by decide, fun _ h9 => h9.1, h ▸ hSD⟩) (fun h => .inl ⟨4, by decide, fun _ h9 => absurd h9.2 (by decide), h⟩), fun h => (by obtain ⟨s9, h9⟩ := h; exact absurd h9.2 (by decide)), (mod_six _ _ _ _ _ _).mono fun q _ hq => .inr ⟨5, ⟨rfl, rfl⟩, hq ▸ hSD⟩⟩
  · intro vs w S hb hT
    obtain ⟨D, ao, ac, bo, bc, h1, _, h3, h4, h5, h6, _⟩ : TS2 w0.heap.size w0.heap.size n 1 n n zs ps (vs 6) (S 6) w := hT 6 (by decide) (fun s h => by omega)
    exact hQ vs D ao ac bo bc w hb  h1 h3 h4 h5 h6
end Go.Proofs.Ytiniobcknmaigaa
