/-
  The code's Update: what is taken.
-/
import Derived.Test.YtiniobcknmaigaaKRetV
namespace Go.Proofs.Ytiniobcknmaigaa
open Go.RowKit Go.Sort Qm

def ku10Ops : Array Oper := #[
    { dst := some 59, op := Op.load 26 (Operand.tmp 19), type := 26, pos := "kalman.go:86", after := #[], guard := none },
    { dst := some 60, op := Op.fieldAddr 77 (Operand.tmp 18) 0, type := 0, pos := "kalman.go:86", after := #[{ on := 4, ground := Ground.gcOnly Departure.lateStores }], guard := none },
    { dst := some 61, op := Op.load 4 (Operand.tmp 60), type := 4, pos := "kalman.go:86", after := #[{ on := 1, ground := Ground.data }, { on := 4, ground := Ground.gcOnly Departure.lateStores }], guard := none },
    { dst := none, op := Op.store 26 (Operand.tmp 10) (Operand.tmp 59), type := 0, pos := "kalman.go:86", after := #[{ on := 0, ground := Ground.data }, { on := 0, ground := Ground.phase }, { on := 1, ground := Ground.textOnly Departure.lateStores }, { on := 2, ground := Ground.textOnly Departure.lateStores }], guard := none },
    { dst := some 11, op := Op.assign (Operand.const (Value.bool true)), type := 4, pos := "kalman.go:86", after := #[{ on := 3, ground := Ground.chain }, { on := 0, ground := Ground.phase }, { on := 1, ground := Ground.textOnly Departure.lateStores }, { on := 2, ground := Ground.textOnly Departure.lateStores }, { on := 3, ground := Ground.phase }], guard := none },
    { dst := some 12, op := Op.assign (Operand.tmp 61), type := 4, pos := "kalman.go:86", after := #[{ on := 2, ground := Ground.data }, { on := 4, ground := Ground.chain }, { on := 0, ground := Ground.phase }, { on := 1, ground := Ground.phase }, { on := 2, ground := Ground.phase }, { on := 3, ground := Ground.phase }, { on := 4, ground := Ground.phase }], guard := none },
    { dst := some 13, op := Op.assign (Operand.const (Value.int IntKind.i64 0)), type := 30, pos := "kalman.go:86", after := #[{ on := 5, ground := Ground.chain }, { on := 0, ground := Ground.phase }, { on := 1, ground := Ground.phase }, { on := 2, ground := Ground.phase }, { on := 3, ground := Ground.phase }, { on := 4, ground := Ground.phase }, { on := 5, ground := Ground.phase }], guard := none }]
def ku10Dst (i : Nat) : Nat := [59, 60, 61, 1000, 11, 12, 13].getD i 0
def ku10Fr (Nn : Nat) (D10 : Nat) (D19 : Nat) (u0 u1 u2 u3 u4 u5 u6 u7 u8 u9 u14 u15 u16 u17 u20 u21 u22 u23 u24 u25 u26 u27 u28 u29 u30 u31 u32 u33 u34 u35 u36 u37 u38 u39 u40 u41 u42 u43 u44 u45 u46 u47 u48 u49 u50 u51 u52 u53 u54 u55 u56 u57 u58 : Value) (vs : Nat → Value) : Act := ⟨#[u0, u1, u2, u3, u4, u5, u6, u7, u8, u9, .pointer (some ⟨D10, 0, none⟩), vs 11, vs 12, vs 13, u14, u15, u16, u17, .pointer (some ⟨Nn, 0, none⟩), .pointer (some ⟨D19, 0, none⟩), u20, u21, u22, u23, u24, u25, u26, u27, u28, u29, u30, u31, u32, u33, u34, u35, u36, u37, u38, u39, u40, u41, u42, u43, u44, u45, u46, u47, u48, u49, u50, u51, u52, u53, u54, u55, u56, u57, u58, vs 59, vs 60, vs 61], []⟩
def ku10T (B Lo : Nat) (Nn : Nat) (D10 : Nat) (n : Nat) (xs : List Int) (ps : List Int) (m : Bool) : Nat → Value → Value → (Nat → Prop) → World → Prop
  | 0, v, _, S, w => TTrk B D10 Lo n 1 n n xs ps v S w
  | 1, v, _, _, _ => v = .pointer (some ⟨Nn, 0, none⟩)
  | 2, v, _, _, _ => v = .bool m
  | 3, _, _, S, w => TStT B D10 Lo n 1 n n xs ps S w
  | 4, v, _, _, _ => v = .bool true
  | 5, v, _, _, _ => v = .bool m
  | 6, v, _, _, _ => v = .int .i64 0
  | _, _, _, _, _ => True
set_option maxRecDepth 40000 in
set_option maxHeartbeats 400000 in
theorem ku10_region {Q : Exit → Act → World → Prop} {w0 : World} {Nn : Nat} {D10 : Nat} {D19 : Nat} {n : Nat} {xo : Option Addr} {xcap : Nat} {po : Option Addr} {pcap : Nat} {xs : List Int} {ps : List Int} {m : Bool} (Lo : Nat) {r11 r12 r13 : Value} {u0 u1 u2 u3 u4 u5 u6 u7 u8 u9 u14 u15 u16 u17 u20 u21 u22 u23 u24 u25 u26 u27 u28 u29 u30 u31 u32 u33 u34 u35 u36 u37 u38 u39 u40 u41 u42 u43 u44 u45 u46 u47 u48 u49 u50 u51 u52 u53 u54 u55 u56 u57 u58 : Value} {x0 x1 x2 x3 x4 x5 : Value} (hN : w0.heap[D10]? = some (.cells #[x0, x1, x2, x3, x4, x5] 26 (0, 0)))
    (nX : New Lo (.slice xo xs.length xcap)) (nP : New Lo (.slice po ps.length pcap))
    (cT : ∀ w, Mod (fun b => b = D10) w0 w → w.heap[D19]? = some (.cells #[.int .i64 n, .int .i64 1, .slice xo xs.length xcap, .int .i64 n, .int .i64 n, .slice po ps.length pcap] 26 (0, 0)))
    (cN : ∀ w, Mod (fun b => b = D10) w0 w → w.cell? ⟨Nn, 0, none⟩ = some (.bool m))
    (sX : Sees w0 (.slice xo xs.length xcap) xs) (oX : Old w0.heap.size D10 (.slice xo xs.length xcap))
    (sP : Sees w0 (.slice po ps.length pcap) ps) (oP : Old w0.heap.size D10 (.slice po ps.length pcap))
    (hQ : ∀ vs ao ac bo bc w, Mod (fun b => b = D10) w0 w → vs 11 = .bool true → vs 12 = .bool m → vs 13 = .int .i64 0 → w.heap[D10]? = some (.cells #[.int .i64 n, .int .i64 1, .slice ao xs.length ac, .int .i64 n, .int .i64 n, .slice bo ps.length bc] 26 (0, 0)) → Sees w (.slice ao xs.length ac) xs → Sees w (.slice bo ps.length bc) ps → New Lo (.slice ao xs.length ac) → New Lo (.slice bo ps.length bc) → Q .normal (ku10Fr Nn D10 D19 u0 u1 u2 u3 u4 u5 u6 u7 u8 u9 u14 u15 u16 u17 u20 u21 u22 u23 u24 u25 u26 u27 u28 u29 u30 u31 u32 u33 u34 u35 u36 u37 u38 u39 u40 u41 u42 u43 u44 u45 u46 u47 u48 u49 u50 u51 u52 u53 u54 u55 u56 u57 u58 vs) w) :
    (Code.region 10 ku10Ops true).wp Try.prog Q (ku10Fr Nn D10 D19 u0 u1 u2 u3 u4 u5 u6 u7 u8 u9 u14 u15 u16 u17 u20 u21 u22 u23 u24 u25 u26 u27 u28 u29 u30 u31 u32 u33 u34 u35 u36 u37 u38 u39 u40 u41 u42 u43 u44 u45 u46 u47 u48 u49 u50 u51 u52 u53 u54 u55 u56 u57 u58 (fun k => if k = 11 then r11 else if k = 12 then r12 else if k = 13 then r13 else undef)) w0 := by
  refine wp_region_own (by kernel_rfl) (by decide) ku10Dst (by decide) (ku10Fr Nn D10 D19 u0 u1 u2 u3 u4 u5 u6 u7 u8 u9 u14 u15 u16 u17 u20 u21 u22 u23 u24 u25 u26 u27 u28 u29 u30 u31 u32 u33 u34 u35 u36 u37 u38 u39 u40 u41 u42 u43 u44 u45 u46 u47 u48 u49 u50 u51 u52 u53 u54 u55 u56 u57 u58) (fun k => if k = 11 then r11 else if k = 12 then r12 else if k = 13 then r13 else undef) (fun i => i) (by decide) (fun b => b = D10) (fun q hq => by subst hq; exact lt_of_block hN) (fun i q => i = 3 ∧ q = D10) (fun i q h => h.2) (fun i j q h h' => h.1.trans h'.1.symm)
    (fun _ _ => False) (fun s j h => h.elim) (fun s j h => h.elim) (ku10T w0.heap.size Lo Nn D10 n xs ps m) ?_ ?_ ?_
  · intro i v u S w w' hi h hw hw' hz hS
    have ha : Agr w0.heap.size D10 S w w' := agr_of hw hw' hz hS
    have hi' : i < 7 := hi
    rcases (by omega : i = 0 ∨ i = 1 ∨ i = 2 ∨ i = 3 ∨ i = 4 ∨ i = 5 ∨ i = 6) with rfl | rfl | rfl | rfl | rfl | rfl | rfl
    · exact TTrk.stab h ha
    · exact h
    · exact h
    · exact TStT.stab h ha
    · exact h
    · exact h
    · exact h
  · intro i hi vs w S hb hp hbd hwr _ _
    have hi' : i < 7 := hi
    rcases (by omega : i = 0 ∨ i = 1 ∨ i = 2 ∨ i = 3 ∨ i = 4 ∨ i = 5 ∨ i = 6) with rfl | rfl | rfl | rfl | rfl | rfl | rfl
    · exact wpOp_of _ rfl rfl (op_loadT rfl rfl (cT w hb) ⟨_, fun _ => False, rfl, ⟨_, _, _, _, rfl, sX.mod oX hb, sP.mod oP hb, oX.ok _, oP.ok _, nX, nP⟩, fun _ h => h.elim, fun h => h.elim fun _ h9 => h9.elim, Mod.refl _ _⟩)
    · exact wpOp_of _ rfl rfl (op_fieldN rfl rfl ⟨_, fun _ => False, rfl, rfl, fun _ h => h.elim, fun _ _ h => h.elim, Mod.refl _ _⟩)
    · have h1 : vs 60 = .pointer (some ⟨Nn, 0, none⟩) := hp 1 (by decide)
      exact wpOp_of _ rfl rfl (op_loadB rfl h1 (cN w hb) ⟨_, fun _ => False, rfl, rfl, fun _ h => h.elim, fun _ _ h => h.elim, Mod.refl _ _⟩)
    · obtain ⟨ao, ac, bo, bc, hf, s1, s2, k1, k2, k3, k4⟩ : TTrk w0.heap.size D10 Lo n 1 n n xs ps (vs 59) (S 0) w := hp 0 (by decide)
      have hbl := (hwr D10 rfl (fun j h => ⟨by rw [h.1]; decide, .inl h.1⟩)).trans hN
      have hne : ∀ v, OkS w0.heap.size D10 (S 0) v → ∀ q, v.ownBlock = some q → q ≠ D10 := fun v hv q hq e => (hv q hq).elim (fun h => (hbd 0 (by decide) q h).2 ⟨rfl, e⟩) (fun h => h.2 e)
      refine wpOp_of _ rfl rfl (op_storeT rfl rfl rfl hf hbl ?_)
      refine ⟨undef, fun q => q = D10 ∨ S 0 q, rfl, ⟨.inl rfl, ao, ac, bo, bc, put_six hbl, s1.six (hne _ k1) _ _ _ _ _ _, s2.six (hne _ k2) _ _ _ _ _ _, fun q hq => (k1 q hq).imp .inr id, fun q hq => (k2 q hq).imp .inr id, k3, k4⟩, fun q hq => hq.elim (fun h => .inr (.inr ⟨rfl, h⟩)) (fun h => .inl ⟨0, by decide, h⟩), fun h => h.elim fun _ h9 => h9.elim, ?_⟩
      exact (mod_six _ _ _ _ _ _).mono fun q _ hq => .inl ⟨rfl, hq⟩
    · exact wpOp_of _ rfl rfl (op_const rfl ⟨_, fun _ => False, rfl, rfl, fun _ h => h.elim, fun _ _ h => h.elim, Mod.refl _ _⟩)
    · have h2 : vs 61 = .bool m := hp 2 (by decide)
      exact wpOp_of _ rfl rfl (op_assign rfl h2 ⟨_, fun _ => False, rfl, rfl, fun _ h => h.elim, fun _ _ h => h.elim, Mod.refl _ _⟩)
    · exact wpOp_of _ rfl rfl (op_const rfl ⟨_, fun _ => False, rfl, rfl, fun _ h => h.elim, fun _ _ h => h.elim, Mod.refl _ _⟩)
  · intro vs w S hb hT
    obtain ⟨_, ao, ac, bo, bc, h1, h2, h3, _, _, h4, h5⟩ : TStT w0.heap.size D10 Lo n 1 n n xs ps (S 3) w := hT 3 (by decide) (fun _ h => h)
    exact hQ vs ao ac bo bc w hb (hT 4 (by decide) (fun _ h => h)) (hT 5 (by decide) (fun _ h => h)) (hT 6 (by decide) (fun _ h => h)) h1 h2 h3 h4 h5
end Go.Proofs.Ytiniobcknmaigaa
