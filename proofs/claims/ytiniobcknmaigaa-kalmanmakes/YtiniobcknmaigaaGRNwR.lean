/-
  The document's New: the track is put together.
-/
import Derived.Test.YtiniobcknmaigaaG23
import Derived.Test.YtiniobcknmaigaaGKClone
import Derived.Test.YtiniobcknmaigaaG19
namespace Go.Proofs.Ytiniobcknmaigaa
open Go.RowKit Go.Sort Qm

def TSo (B N : Nat) (r1 c1 r2 c2 : Int) (xs : List Int) (pv : Value) (S : Nat → Prop) (w : World) : Prop := S N ∧ ∃ ao ac, w.heap[N]? = some (.cells #[.int .i64 r1, .int .i64 c1, .slice ao xs.length ac, .int .i64 r2, .int .i64 c2, pv] 26 (0, 0)) ∧ Sees w (.slice ao xs.length ac) xs ∧ ∀ k, (Value.slice ao xs.length ac).ownBlock = some k → S k ∧ B ≤ k
theorem TSo.stab {B B' N N' : Nat} {r1 c1 r2 c2 : Int} {xs : List Int} {pv : Value} {S : Nat → Prop} {w w' : World} (h : TSo B N r1 c1 r2 c2 xs pv S w) (ha : Agr B' N' S w w') : TSo B N r1 c1 r2 c2 xs pv S w' := by
  obtain ⟨h0, ao, ac, h1, h2, h3⟩ := h
  exact ⟨h0, ao, ac, (ha.2 N (.inl h0)).trans h1, h2.agr (fun k hk => .inl (h3 k hk).1) ha, h3⟩
def rnwOps : Array Oper := #[
    { dst := some 46, op := Op.move (Operand.tmp 0), type := 22, pos := "ref.go:48", after := #[], guard := none },
    { dst := some 47, op := Op.call { callee := Callee.builtin Builtin.len, args := #[Operand.tmp 46], argTypes := #[22] }, type := 3, pos := "ref.go:48", after := #[{ on := 0, ground := Ground.data }], guard := none },
    { dst := some 48, op := Op.buildSlice 22 0 #[], type := 22, pos := "ref.go:48", after := #[], guard := none },
    { dst := some 49, op := Op.move (Operand.tmp 0), type := 22, pos := "ref.go:48", after := #[], guard := none },
    { dst := some 50, op := Op.call { callee := Callee.builtin Builtin.append, args := #[Operand.tmp 48, Operand.tmp 49], argTypes := #[22, 22] }, type := 22, pos := "ref.go:48", after := #[{ on := 2, ground := Ground.data }, { on := 3, ground := Ground.data }], guard := none },
    { dst := some 51, op := Op.build 24 #[(0, Operand.tmp 47), (1, Operand.const (Value.int IntKind.i64 1)), (2, Operand.tmp 50)], type := 24, pos := "ref.go:48", after := #[{ on := 1, ground := Ground.data }, { on := 4, ground := Ground.data }], guard := none },
    { dst := some 52, op := Op.load 24 (Operand.tmp 6), type := 24, pos := "ref.go:48", after := #[], guard := none },
    { dst := some 53, op := Op.build 26 #[(0, Operand.tmp 51), (1, Operand.tmp 52)], type := 26, pos := "ref.go:48", after := #[{ on := 5, ground := Ground.data }, { on := 6, ground := Ground.data }], guard := none },
    { dst := none, op := Op.store 26 (Operand.tmp 4) (Operand.tmp 53), type := 0, pos := "ref.go:48", after := #[{ on := 7, ground := Ground.data }, { on := 4, ground := Ground.chain }, { on := 0, ground := Ground.phase }, { on := 1, ground := Ground.phase }, { on := 2, ground := Ground.phase }, { on := 3, ground := Ground.phase }, { on := 4, ground := Ground.phase }, { on := 5, ground := Ground.phase }, { on := 6, ground := Ground.phase }, { on := 7, ground := Ground.phase }], guard := none },
    { dst := some 5, op := Op.assign (Operand.const (Value.int IntKind.i64 0)), type := 3, pos := "ref.go:48", after := #[{ on := 8, ground := Ground.chain }, { on := 0, ground := Ground.phase }, { on := 1, ground := Ground.phase }, { on := 2, ground := Ground.phase }, { on := 3, ground := Ground.phase }, { on := 4, ground := Ground.phase }, { on := 5, ground := Ground.phase }, { on := 6, ground := Ground.phase }, { on := 7, ground := Ground.phase }, { on := 8, ground := Ground.phase }], guard := none }]
def rnwDst (i : Nat) : Nat := [46, 47, 48, 49, 50, 51, 52, 53, 1000, 5].getD i 0
def rnwFr (D4 D6 : Nat) (ad : Addr) (n xc : Nat) (u1 u2 u3 u7 u8 u9 u10 u11 u12 u13 u14 u15 u16 u17 u18 u19 u20 u21 u22 u23 u24 u25 u26 u27 u28 u29 u30 u31 u32 u33 u34 u35 u36 u37 u38 u39 u40 u41 u42 u43 u44 u45 : Value) (vs : Nat → Value) : Act := ⟨#[.slice (some ad) n xc, u1, u2, u3, .pointer (some ⟨D4, 0, none⟩), vs 5, .pointer (some ⟨D6, 0, none⟩), u7, u8, u9, u10, u11, u12, u13, u14, u15, u16, u17, u18, u19, u20, u21, u22, u23, u24, u25, u26, u27, u28, u29, u30, u31, u32, u33, u34, u35, u36, u37, u38, u39, u40, u41, u42, u43, u44, u45, vs 46, vs 47, vs 48, vs 49, vs 50, vs 51, vs 52, vs 53], []⟩
def rnwT (B D4 : Nat) (r2 c2 : Int) (ad : Addr) (po : Option Addr) (n xc pn pc : Nat) (xs : List Int) : Nat → Value → Value → (Nat → Prop) → World → Prop
  | 0, v, _, _, _ => v = .slice (some ad) n xc
  | 1, v, _, _, _ => v = .int .i64 (n : Nat)
  | 2, v, _, _, _ => ∃ b, v = .slice (some b) 0 0
  | 3, v, _, _, _ => v = .slice (some ad) n xc
  | 4, v, _, S, w => TNum B xs v S w
  | 5, v, _, S, w => TMat B (n : Nat) 1 xs v S w
  | 6, v, _, _, _ => v = .agg #[.int .i64 r2, .int .i64 c2, .slice po pn pc]
  | 7, v, _, S, w => TNt B (n : Nat) 1 r2 c2 xs (.slice po pn pc) v S w
  | 8, _, _, S, w => TSo B D4 (n : Nat) 1 r2 c2 xs (.slice po pn pc) S w
  | 9, v, _, _, _ => v = .int .i64 0
  | _, _, _, _, _ => True
set_option maxRecDepth 40000 in
set_option maxHeartbeats 800000 in
theorem rnw_region {Q : Exit → Act → World → Prop} {w0 : World} {D4 D6 : Nat} {r2 c2 : Int} {ad : Addr} {po : Option Addr} {n xc pn pc : Nat} {xs : List Int} {vals : List Value} {r5 u1 u2 u3 u7 u8 u9 u10 u11 u12 u13 u14 u15 u16 u17 u18 u19 u20 u21 u22 u23 u24 u25 u26 u27 u28 u29 u30 u31 u32 u33 u34 u35 u36 u37 u38 u39 u40 u41 u42 u43 u44 u45 : Value} {x0 x1 x2 x3 x4 x5 : Value} {i0 : TypeInfo} (hi0 : Try.prog.info? 41 = some i0) (hz0 : i0.zero = some (.int .i64 0)) (hz1 : i0.size = 1) (hz2 : i0.bytes = 8)
    (hN : w0.heap[D4]? = some (.cells #[x0, x1, x2, x3, x4, x5] 26 (0, 0))) (h0 : 0 < n) (hn : n ≤ 100) (hxn : xs.length = n) (hvs : vals = xs.map (Value.int .i64)) (hvl : vals.length = n * 1)
    (cP : ∀ w, Mod (fun b => b = D4) w0 w → w.cell? ⟨D6, 0, none⟩ = some (.int .i64 r2) ∧ w.cell? ⟨D6, 1, none⟩ = some (.int .i64 c2) ∧ w.cell? ⟨D6, 2, none⟩ = some (.slice po pn pc))
    (hc : ∀ w, Mod (fun b => b = D4) w0 w → ∀ j u, vals[j]? = some u → w.cell? (ad.add j) = some u)
    (hQ : ∀ vs ao ac w, Mod (fun b => b = D4) w0 w → vs 5 = .int .i64 0 → w.heap[D4]? = some (.cells #[.int .i64 (n : Nat), .int .i64 1, .slice ao xs.length ac, .int .i64 r2, .int .i64 c2, .slice po pn pc] 26 (0, 0)) → Sees w (.slice ao xs.length ac) xs → New w0.heap.size (.slice ao xs.length ac) → Q .normal (rnwFr D4 D6 ad n xc u1 u2 u3 u7 u8 u9 u10 u11 u12 u13 u14 u15 u16 u17 u18 u19 u20 u21 u22 u23 u24 u25 u26 u27 u28 u29 u30 u31 u32 u33 u34 u35 u36 u37 u38 u39 u40 u41 u42 u43 u44 u45 vs) w) :
    (Code.region 10 rnwOps true).wp Try.prog Q (rnwFr D4 D6 ad n xc u1 u2 u3 u7 u8 u9 u10 u11 u12 u13 u14 u15 u16 u17 u18 u19 u20 u21 u22 u23 u24 u25 u26 u27 u28 u29 u30 u31 u32 u33 u34 u35 u36 u37 u38 u39 u40 u41 u42 u43 u44 u45 (fun k => if k = 5 then r5 else undef)) w0 := by
  refine wp_region_own (by kernel_rfl) (by decide) rnwDst (by decide) (rnwFr D4 D6 ad n xc u1 u2 u3 u7 u8 u9 u10 u11 u12 u13 u14 u15 u16 u17 u18 u19 u20 u21 u22 u23 u24 u25 u26 u27 u28 u29 u30 u31 u32 u33 u34 u35 u36 u37 u38 u39 u40 u41 u42 u43 u44 u45) (fun k => if k = 5 then r5 else undef) (fun i => i) (by decide) (fun b => b = D4) (fun q hq => by subst hq; exact lt_of_block hN) (fun i q => i = 8 ∧ q = D4) (fun i q h => h.2) (fun i j q h h' => h.1.trans h'.1.symm)
    (fun _ _ => False) (fun s j h => h.elim) (fun s j h => h.elim) (rnwT w0.heap.size D4 r2 c2 ad po n xc pn pc xs) ?_ ?_ ?_
  · intro i v u S w w' hi h hw hw' hz hS
    have ha : Agr w0.heap.size D4 S w w' := agr_of hw hw' hz hS
    have hi' : i < 10 := hi
    rcases (by omega : i = 0 ∨ i = 1 ∨ i = 2 ∨ i = 3 ∨ i = 4 ∨ i = 5 ∨ i = 6 ∨ i = 7 ∨ i = 8 ∨ i = 9) with rfl | rfl | rfl | rfl | rfl | rfl | rfl | rfl | rfl | rfl
    · exact h
    · exact h
    · exact h
    · exact h
    · exact TNum.stab h ha
    · exact TMat.stab h ha
    · exact h
    · exact TNt.stab h ha
    · exact TSo.stab h ha
    · exact h
  · intro i hi vs w S hb hp hbd hwr _ _
    have hi' : i < 10 := hi
    rcases (by omega : i = 0 ∨ i = 1 ∨ i = 2 ∨ i = 3 ∨ i = 4 ∨ i = 5 ∨ i = 6 ∨ i = 7 ∨ i = 8 ∨ i = 9) with rfl | rfl | rfl | rfl | rfl | rfl | rfl | rfl | rfl | rfl
    · exact wpOp_of _ rfl rfl (op_move rfl rfl ⟨_, fun _ => False, rfl, rfl, fun _ h => h.elim, fun _ _ h => h.elim, Mod.refl _ _⟩)
    · have h : vs 46 = .slice (some ad) n xc := hp 0 (by decide)
      exact wpOp_of _ rfl rfl (op_lenQ rfl rfl h ⟨_, fun _ => False, rfl, rfl, fun _ h => h.elim, fun _ _ h => h.elim, Mod.refl _ _⟩)
    · exact wpOp_of _ rfl rfl (op_buildE rfl ⟨_, fun _ => False, rfl, ⟨_, rfl⟩, fun _ h => h.elim, fun _ _ h => h.elim, Mod.of (box_below w _)⟩)
    · exact wpOp_of _ rfl rfl (op_move rfl rfl ⟨_, fun _ => False, rfl, rfl, fun _ h => h.elim, fun _ _ h => h.elim, Mod.refl _ _⟩)
    · obtain ⟨b, h1⟩ : ∃ b, vs 48 = .slice (some b) 0 0 := hp 2 (by decide)
      have h2 : vs 49 = .slice (some ad) n xc := hp 3 (by decide)
      refine wpOp_of _ rfl rfl (op_appendG hi0 hz0 hz1 hz2 rfl h1 h2 hvl (hc w hb) h0 hn ?_)
      intro v' w' ho hg
      have hn' : xs.length = n := hxn
      have s' : Sees w' v' xs := by rw [hvs] at ho; exact Sees.own ho
      obtain ⟨so, sc, hv⟩ := s'.slice
      exact ⟨v', fun k => v'.ownBlock = some k, rfl, ⟨so, sc, hv, s', fun k hk => ⟨hk, Nat.le_trans hb.size (ho.lt k hk).1⟩⟩, fun k hk => .inr (.inl (ho.lt k hk)), fun h => h.elim fun _ h9 => h9.elim, ⟨hg.os, hg.tape, hg.output, hg.size, fun k hk _ => hg.block k hk (by simp)⟩⟩
    · have h1 : vs 47 = .int .i64 (n : Nat) := hp 1 (by decide)
      obtain ⟨so, sc, hv, h2, h3⟩ : TNum w0.heap.size xs (vs 50) (S 4) w := hp 4 (by decide)
      rw [hv] at h2 h3
      exact wpOp_of _ rfl rfl (op_buildM rfl h1 hv ⟨_, S 4, rfl, ⟨so, sc, rfl, h2, h3⟩, fun q hq => .inl ⟨4, by decide, hq⟩, fun h => h.elim fun _ h9 => h9.elim, Mod.refl _ _⟩)
    · exact wpOp_of _ rfl rfl (op_loadM rfl rfl (cP w hb).1 (cP w hb).2.1 (cP w hb).2.2 ⟨_, fun _ => False, rfl, rfl, fun _ h => h.elim, fun _ _ h => h.elim, Mod.refl _ _⟩)
    · obtain ⟨so, sc, h1, h2, h3⟩ : TMat w0.heap.size (n : Nat) 1 xs (vs 51) (S 5) w := hp 5 (by decide)
      have h4 : vs 52 = .agg #[.int .i64 r2, .int .i64 c2, .slice po pn pc] := hp 6 (by decide)
      exact wpOp_of _ rfl rfl (op_buildT rfl h1 h4 ⟨_, S 5, rfl, ⟨so, sc, rfl, h2, h3⟩, fun q hq => .inl ⟨5, by decide, hq⟩, fun h => h.elim fun _ h9 => h9.elim, Mod.refl _ _⟩)
    · obtain ⟨ao, ac, hf, hs, hso⟩ : TNt w0.heap.size (n : Nat) 1 r2 c2 xs (.slice po pn pc) (vs 53) (S 7) w := hp 7 (by decide)
      have hbl := (hwr D4 rfl (fun j h => ⟨by rw [h.1]; decide, .inl h.1⟩)).trans hN
      have hne : ∀ q, (Value.slice ao xs.length ac).ownBlock = some q → q ≠ D4 := fun q hq e => (hbd 7 (by decide) q (hso q hq).1).2 ⟨rfl, e⟩
      refine wpOp_of _ rfl rfl (op_storeT rfl rfl rfl hf hbl ?_)
      exact ⟨undef, fun q => q = D4 ∨ S 7 q, rfl, ⟨.inl rfl, ao, ac, put_six hbl, hs.six hne _ _ _ _ _ _, fun q hq => ⟨.inr (hso q hq).1, (hso q hq).2⟩⟩, fun q hq => hq.elim (fun h => .inr (.inr ⟨rfl, h⟩)) (fun h => .inl ⟨7, by decide, h⟩), fun h => h.elim fun _ h9 => h9.elim, (mod_six _ _ _ _ _ _).mono fun q _ hq => .inl ⟨rfl, hq⟩⟩
    · exact wpOp_of _ rfl rfl (op_const rfl ⟨_, fun _ => False, rfl, rfl, fun _ h => h.elim, fun _ _ h => h.elim, Mod.refl _ _⟩)
  · intro vs w S hb hT
    obtain ⟨_, ao, ac, h1, h2, h3⟩ : TSo w0.heap.size D4 (n : Nat) 1 r2 c2 xs (.slice po pn pc) (S 8) w := hT 8 (by decide) (fun _ h => h)
    exact hQ vs ao ac w hb (hT 9 (by decide) (fun _ h => h)) h1 h2 (fun q hq => (h3 q hq).2)
end Go.Proofs.Ytiniobcknmaigaa
