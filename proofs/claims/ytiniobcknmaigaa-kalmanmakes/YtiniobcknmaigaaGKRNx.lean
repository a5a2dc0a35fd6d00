/-
  The code's New, of whatever slice: the track is put together.
-/
import Derived.Test.YtiniobcknmaigaaG23
import Derived.Test.YtiniobcknmaigaaGKClone
namespace Go.Proofs.Ytiniobcknmaigaa
open Go.RowKit Go.Sort Qm

def knxOps : Array Oper := #[
    { dst := some 14, op := Op.move (Operand.tmp 0), type := 22, pos := "kalman.go:32", after := #[], guard := none },
    { dst := some 15, op := Op.call { callee := Callee.builtin Builtin.len, args := #[Operand.tmp 14], argTypes := #[22] }, type := 3, pos := "kalman.go:32", after := #[{ on := 0, ground := Ground.data }], guard := none },
    { dst := some 16, op := Op.move (Operand.tmp 0), type := 22, pos := "kalman.go:32", after := #[], guard := none },
    { dst := some 17, op := Op.call { callee := Callee.value (Operand.func 27), args := #[Operand.tmp 16], argTypes := #[22] }, type := 22, pos := "kalman.go:32", after := #[{ on := 2, ground := Ground.data }], guard := none },
    { dst := some 18, op := Op.build 24 #[(0, Operand.tmp 15), (1, Operand.const (Value.int IntKind.i64 1)), (2, Operand.tmp 17)], type := 24, pos := "kalman.go:32", after := #[{ on := 1, ground := Ground.data }, { on := 3, ground := Ground.data }], guard := none },
    { dst := some 19, op := Op.load 24 (Operand.tmp 6), type := 24, pos := "kalman.go:32", after := #[], guard := none },
    { dst := some 20, op := Op.build 26 #[(0, Operand.tmp 18), (1, Operand.tmp 19)], type := 26, pos := "kalman.go:32", after := #[{ on := 4, ground := Ground.data }, { on := 5, ground := Ground.data }], guard := none },
    { dst := some 8, op := Op.alloc 26, type := 0, pos := "kalman.go:32", after := #[], guard := none },
    { dst := none, op := Op.store 26 (Operand.tmp 8) (Operand.tmp 20), type := 0, pos := "kalman.go:32", after := #[{ on := 7, ground := Ground.data }, { on := 6, ground := Ground.data }, { on := 3, ground := Ground.chain }, { on := 0, ground := Ground.phase }, { on := 1, ground := Ground.phase }, { on := 2, ground := Ground.phase }, { on := 3, ground := Ground.phase }, { on := 4, ground := Ground.phase }, { on := 5, ground := Ground.phase }, { on := 6, ground := Ground.phase }, { on := 7, ground := Ground.phase }], guard := none }]
def knxDst (i : Nat) : Nat := [14, 15, 16, 17, 18, 19, 20, 8, 1000].getD i 0
def knxFr (D6 : Nat) (xo : Option Addr) (xc : Nat) (xs : List Int) (u1 u2 u3 u4 u5 u7 u9 u10 u11 u12 u13 u21 u22 u23 u24 u25 u26 u27 u28 u29 : Value) (vs : Nat → Value) : Act := ⟨#[.slice xo xs.length xc, u1, u2, u3, u4, u5, .pointer (some ⟨D6, 0, none⟩), u7, vs 8, u9, u10, u11, u12, u13, vs 14, vs 15, vs 16, vs 17, vs 18, vs 19, vs 20, u21, u22, u23, u24, u25, u26, u27, u28, u29], []⟩
def knxT (B : Nat) (r2 c2 : Int) (xo po : Option Addr) (xc pn pc : Nat) (xs : List Int) : Nat → Value → Value → (Nat → Prop) → World → Prop
  | 0, v, _, _, _ => v = .slice xo xs.length xc
  | 1, v, _, _, _ => v = .int .i64 (xs.length : Nat)
  | 2, v, _, _, _ => v = .slice xo xs.length xc
  | 3, v, _, S, w => TNum B xs v S w
  | 4, v, _, S, w => TMat B (xs.length : Nat) 1 xs v S w
  | 5, v, _, _, _ => v = .agg #[.int .i64 r2, .int .i64 c2, .slice po pn pc]
  | 6, v, _, S, w => TNt B (xs.length : Nat) 1 r2 c2 xs (.slice po pn pc) v S w
  | 7, v, _, S, w => TP6 B v S w
  | 8, _, u, S, w => TSn B (xs.length : Nat) 1 r2 c2 xs (.slice po pn pc) u S w
  | _, _, _, _, _ => True
set_option maxRecDepth 40000 in
set_option maxHeartbeats 800000 in
theorem knx_region {Q : Exit → Act → World → Prop} {w0 : World} {D6 : Nat} {r2 c2 : Int} {xo po : Option Addr} {xc pn pc : Nat} {xs : List Int} {u1 u2 u3 u4 u5 u7 u9 u10 u11 u12 u13 u21 u22 u23 u24 u25 u26 u27 u28 u29 : Value}
    (cP : ∀ w, Mod (fun _ => False) w0 w → w.cell? ⟨D6, 0, none⟩ = some (.int .i64 r2) ∧ w.cell? ⟨D6, 1, none⟩ = some (.int .i64 c2) ∧ w.cell? ⟨D6, 2, none⟩ = some (.slice po pn pc))
    (kC : ∀ w, Mod (fun _ => False) w0 w → Calls Try.prog 27 #[.slice xo xs.length xc] w fun e b => ∃ v', e = .returned v' ∧ Sees b v' xs ∧ New w.heap.size v' ∧ (∀ q, v'.ownBlock = some q → q < b.heap.size) ∧ Below w.heap.size w b)
    (hQ : ∀ vs D ao ac w, Mod (fun _ => False) w0 w → vs 8 = .pointer (some ⟨D, 0, none⟩) → w0.heap.size ≤ D → w.heap[D]? = some (.cells #[.int .i64 (xs.length : Nat), .int .i64 1, .slice ao xs.length ac, .int .i64 r2, .int .i64 c2, .slice po pn pc] 26 (0, 0)) → Sees w (.slice ao xs.length ac) xs → New w0.heap.size (.slice ao xs.length ac) → Q .normal (knxFr D6 xo xc xs u1 u2 u3 u4 u5 u7 u9 u10 u11 u12 u13 u21 u22 u23 u24 u25 u26 u27 u28 u29 vs) w) :
    (Code.region 2 knxOps true).wp Try.prog Q (knxFr D6 xo xc xs u1 u2 u3 u4 u5 u7 u9 u10 u11 u12 u13 u21 u22 u23 u24 u25 u26 u27 u28 u29 (fun _ => undef)) w0 := by
  refine wp_region_own (by kernel_rfl) (by decide) knxDst (by decide) (knxFr D6 xo xc xs u1 u2 u3 u4 u5 u7 u9 u10 u11 u12 u13 u21 u22 u23 u24 u25 u26 u27 u28 u29) (fun _ => undef) (fun i => if i = 8 then 7 else i) (by decide) (fun _ => False) (fun q hq => hq.elim) (fun _ _ => False) (fun _ _ h => h.elim) (fun _ _ _ h _ => h.elim)
    (fun s j => s = 8 ∧ j = 7) (fun s j h => by obtain ⟨rfl, rfl⟩ := h; exact ⟨by decide, by decide⟩) (fun s j h => by obtain ⟨rfl, rfl⟩ := h; decide) (knxT w0.heap.size r2 c2 xo po xc pn pc xs) ?_ ?_ ?_
  · intro i v u S w w' hi h hw hw' hz hS
    have hi' : i < 9 := hi
    rcases (by omega : i = 0 ∨ i = 1 ∨ i = 2 ∨ i = 3 ∨ i = 4 ∨ i = 5 ∨ i = 6 ∨ i = 7 ∨ i = 8) with rfl | rfl | rfl | rfl | rfl | rfl | rfl | rfl | rfl
    · exact h
    · exact h
    · exact h
    · exact TNum.stab h (agr_none hw hw' hz hS)
    · exact TMat.stab h (agr_none hw hw' hz hS)
    · exact h
    · exact TNt.stab h (agr_none hw hw' hz hS)
    · exact TP6.stab h (agr_none hw hw' hz hS)
    · exact TSn.stab h (agr_none hw hw' hz hS)
  · intro i hi vs w S hb hp hbd hwr hkl _
    have hi' : i < 9 := hi
    rcases (by omega : i = 0 ∨ i = 1 ∨ i = 2 ∨ i = 3 ∨ i = 4 ∨ i = 5 ∨ i = 6 ∨ i = 7 ∨ i = 8) with rfl | rfl | rfl | rfl | rfl | rfl | rfl | rfl | rfl
    · exact wpOp_of _ rfl rfl (op_move rfl rfl ⟨_, fun _ => False, rfl, rfl, fun _ h => h.elim, fun _ _ h => h.elim, Mod.refl _ _⟩)
    · have h : vs 14 = .slice xo xs.length xc := hp 0 (by decide)
      exact wpOp_of _ rfl rfl (op_lenQ rfl rfl h ⟨_, fun _ => False, rfl, rfl, fun _ h => h.elim, fun _ _ h => h.elim, Mod.refl _ _⟩)
    · exact wpOp_of _ rfl rfl (op_move rfl rfl ⟨_, fun _ => False, rfl, rfl, fun _ h => h.elim, fun _ _ h => h.elim, Mod.refl _ _⟩)
    · have h : vs 16 = .slice xo xs.length xc := hp 2 (by decide)
      exact wpOp_of _ rfl rfl (op_call1 enters_clone rfl h (kC w hb) (by rintro e b ⟨v, rfl, s', n', l', b'⟩; obtain ⟨so, sc, hv⟩ := s'.slice; exact ⟨_, rfl, _, fun q => v.ownBlock = some q ∧ q < b.heap.size, rfl, ⟨so, sc, hv, s', fun q hq => ⟨⟨hq, l' q hq⟩, Nat.le_trans hb.size (n' q hq)⟩⟩, fun q hq => .inr (.inl ⟨n' q hq.1, hq.2⟩), fun h => by obtain ⟨s9, h9⟩ := h; exact absurd h9.2 (by decide), Mod.of b'⟩))
    · have h1 : vs 15 = .int .i64 (xs.length : Nat) := hp 1 (by decide)
      obtain ⟨so, sc, hv, h2, h3⟩ : TNum w0.heap.size xs (vs 17) (S 3) w := hp 3 (by decide)
      rw [hv] at h2 h3
      exact wpOp_of _ rfl rfl (op_buildM rfl h1 hv ⟨_, S 3, rfl, ⟨so, sc, rfl, h2, h3⟩, fun q hq => .inl ⟨3, by decide, hq⟩, fun h => by obtain ⟨s9, h9⟩ := h; exact absurd h9.2 (by decide), Mod.refl _ _⟩)
    · exact wpOp_of _ rfl rfl (op_loadM rfl rfl (cP w hb).1 (cP w hb).2.1 (cP w hb).2.2 ⟨_, fun _ => False, rfl, rfl, fun _ h => h.elim, fun _ _ h => h.elim, Mod.refl _ _⟩)
    · obtain ⟨so, sc, h1, h2, h3⟩ : TMat w0.heap.size (xs.length : Nat) 1 xs (vs 18) (S 4) w := hp 4 (by decide)
      have h4 : vs 19 = .agg #[.int .i64 r2, .int .i64 c2, .slice po pn pc] := hp 5 (by decide)
      exact wpOp_of _ rfl rfl (op_buildT rfl h1 h4 ⟨_, S 4, rfl, ⟨so, sc, rfl, h2, h3⟩, fun q hq => .inl ⟨4, by decide, hq⟩, fun h => by obtain ⟨s9, h9⟩ := h; exact absurd h9.2 (by decide), Mod.refl _ _⟩)
    · exact wpOp_of _ rfl rfl (op_alloc26 rfl ⟨_, fun b => b = w.heap.size, rfl, ⟨_, rfl, rfl, hb.size, _, _, _, _, _, _, heap_new _ _⟩, fun b h => .inr (.inl (by subst h; simp)), fun _ b h => .inl (by omega), Mod.of (box_below w _)⟩)
    · obtain ⟨D, hD, hSD, hBD, x0, x1, x2, x3, x4, x5, hbl⟩ : TP6 w0.heap.size (vs 8) (S 7) w := hp 7 (by decide)
      obtain ⟨ao, ac, hf, hs, hso⟩ : TNt w0.heap.size (xs.length : Nat) 1 r2 c2 xs (.slice po pn pc) (vs 20) (S 6) w := hp 6 (by decide)
      have hne : ∀ q, (Value.slice ao xs.length ac).ownBlock = some q → q ≠ D := fun q hq e => hkl 7 ⟨rfl, rfl⟩ 6 (by decide) (by decide) D hSD (e ▸ (hso q hq).1)
      refine wpOp_of _ rfl rfl (op_storeT rfl rfl hD hf hbl ?_)
      exact ⟨undef, fun q => q = D ∨ S 6 q, rfl, ⟨D, ao, ac, hD, .inl rfl, hBD, put_six hbl, hs.six hne _ _ _ _ _ _, fun q hq => ⟨.inr (hso q hq).1, (hso q hq).2⟩⟩, fun q hq => hq.elim (fun h => .inl ⟨7, by decide, h ▸ hSD⟩) (fun h => .inl ⟨6, by decide, h⟩), fun h => by obtain ⟨s9, h9⟩ := h; exact absurd h9.2 (by decide), (mod_six _ _ _ _ _ _).mono fun q _ hq => .inr ⟨7, ⟨rfl, rfl⟩, hq ▸ hSD⟩⟩
  · intro vs w S hb hT
    obtain ⟨D, ao, ac, h1, _, h3, h4, h5, h6⟩ : TSn w0.heap.size (xs.length : Nat) 1 r2 c2 xs (.slice po pn pc) (vs 8) (S 8) w := hT 8 (by decide) (fun s h => by omega)
    exact hQ vs D ao ac w hb h1 h3 h4 h5 (fun q hq => (h6 q hq).2)
end Go.Proofs.Ytiniobcknmaigaa
