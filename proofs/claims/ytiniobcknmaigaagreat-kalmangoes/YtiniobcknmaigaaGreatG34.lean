/-
  Texts joined, in the order in which they stand on one another: KCopy2 KRU6 KRU10.
-/
import Derived.Test.YtiniobcknmaigaaGreatG19
import Derived.Test.YtiniobcknmaigaaGreatG27
import Derived.Test.YtiniobcknmaigaaGreatG33
/-
  The contract of the code's copied.
-/
namespace Go.Proofs.YtiniobcknmaigaaGreat
open Go.RowKit Go.Sort Qm

set_option maxRecDepth 20000 in
set_option maxHeartbeats 800000 in
theorem copied_any (n1 c1 n2 c2 : Int) (va vb : Value) (xs ps : List Int) (hx : xs.length ≤ 100) (hp : ps.length ≤ 100) (px : 0 < xs.length) (pp : 0 < ps.length) (w : World) (sa : Sees w va xs) (sb : Sees w vb ps) :
    Calls Tryz.prog 29 #[.agg #[.int .i64 n1, .int .i64 c1, va, .int .i64 n2, .int .i64 c2, vb]] w fun e b => ∃ va vb, e = .returned (.agg #[.int .i64 n1, .int .i64 c1, va, .int .i64 n2, .int .i64 c2, vb]) ∧ Sees b va xs ∧ Sees b vb ps ∧ New w.heap.size va ∧ New w.heap.size vb ∧ Below w.heap.size w b := by
  obtain ⟨ao, ac, rfl⟩ := sa.slice
  obtain ⟨bo, bc, rfl⟩ := sb.slice
  obtain ⟨W, hW⟩ : ∃ W, (w.alloc (.cells #[.int .i64 n1, .int .i64 c1, .slice ao xs.length ac, .int .i64 n2, .int .i64 c2, .slice bo ps.length bc] 26)).alloc (.cells #[.int .i64 0, .int .i64 0, .slice none 0 0, .int .i64 0, .int .i64 0, .slice none 0 0] 26) = W := ⟨_, rfl⟩
  obtain ⟨x1, x2⟩ := allocs2 w (.cells #[.int .i64 n1, .int .i64 c1, .slice ao xs.length ac, .int .i64 n2, .int .i64 c2, .slice bo ps.length bc] 26) (.cells #[.int .i64 0, .int .i64 0, .slice none 0 0, .int .i64 0, .int .i64 0, .slice none 0 0] 26)
  have bW := ball2 w (.cells #[.int .i64 n1, .int .i64 c1, .slice ao xs.length ac, .int .i64 n2, .int .i64 c2, .slice bo ps.length bc] 26) (.cells #[.int .i64 0, .int .i64 0, .slice none 0 0, .int .i64 0, .int .i64 0, .slice none 0 0] 26)
  rw [hW] at x1 x2 bW
  have hW2 : w.heap.size + 2 = W.heap.size := by rw [← hW]; simp
  have oa : Old W.heap.size w.heap.size (.slice ao xs.length ac) := old_of sa px (by omega) (by omega)
  have ob' : Old W.heap.size w.heap.size (.slice bo ps.length bc) := old_of sb pp (by omega) (by omega)
  have k1 := fun v (hv : Mod (fun b => b = w.heap.size) W v) => clone_any _ xs px hx v ((sa.below bW).mod oa hv)
  have k2 := fun v (hv : Mod (fun b => b = w.heap.size) W v) => clone_any _ ps pp hp v ((sb.below bW).mod ob' hv)
  go_enter Tryz.func29, Tryz.ntmps29
  go_wp2
  refine kcp_region (D := w.heap.size) (n1 := n1) (c1 := c1) (n2 := n2) (c2 := c2) (xs := xs) (ps := ps) (ao := ao) (bo := bo) (ac := ac) (bc := bc) x1 k1 px k2 pp ?_
  intro vs ao' ac' bo' bc' wa ma hb1 s1 s2 m1 m2
  unfold kcpFr
  have hd := ma.old x2 (by omega)
  obtain ⟨c0, c1', c2', c3, c4, c5⟩ := six_cells hb1
  obtain ⟨d0, d1, d2, d3, d4, d5⟩ := six_cells hd
  obtain ⟨f0, f1, f2, f3, f4, f5⟩ := six_free hd
  have bE : Below w.heap.size w wa := bW.trans (ma.below (by omega) (fun k hk => by omega))
  have hl1 := s1.lt px
  have hl2 := s2.lt pp
  have HE := fun y0 y1 y2 y3 y4 y5 => below_six (D := w.heap.size + 1) bE (by omega) y0 y1 y2 y3 y4 y5
  have HS1 := fun y0 y1 y2 y3 y4 y5 => s1.six (D := w.heap.size + 1) (fun k hk => by have := m1 k hk; omega) y0 y1 y2 y3 y4 y5
  have HS2 := fun y0 y1 y2 y3 y4 y5 => s2.six (D := w.heap.size + 1) (fun k hk => by have := m2 k hk; omega) y0 y1 y2 y3 y4 y5
  clear hW s1 s2 ma hb1 hd k1 k2 x1 x2 bE
  go_wp2
  refine bodyPost_ret (v := .agg #[.int .i64 n1, .int .i64 c1, .slice ao' xs.length ac', .int .i64 n2, .int .i64 c2, .slice bo' ps.length bc']) (by simp [results, Tryz.results29, go_sem, d0, d1, d2, d3, d4, d5]) rfl ?_
  exact ⟨_, _, rfl, HS1 _ _ _ _ _ _, HS2 _ _ _ _ _ _, m1.mono (by omega), m2.mono (by omega), HE _ _ _ _ _ _⟩
end Go.Proofs.YtiniobcknmaigaaGreat

/-
  The code's Update: what is not taken.
-/
namespace Go.Proofs.YtiniobcknmaigaaGreat
open Go.RowKit Go.Sort Qm

theorem enters_copied : ∀ (args : Array Value) (a : World), Sem.run Tryz.prog (callFunc 29 args) a = Result.ok (Next.enter 29 args) a := by
  intro args a
  simp [callFunc, Tryz.func29, go_sem]
  rfl
def ku6Ops : Array Oper := #[
    { dst := some 42, op := Op.load 26 (Operand.tmp 5), type := 26, pos := "kalman.go:80", after := #[], guard := none },
    { dst := some 43, op := Op.call { callee := Callee.value (Operand.func 29), args := #[Operand.tmp 42], argTypes := #[26] }, type := 26, pos := "kalman.go:80", after := #[{ on := 0, ground := Ground.data }], guard := none },
    { dst := some 44, op := Op.fieldAddr 54 (Operand.tmp 18) 0, type := 0, pos := "kalman.go:80", after := #[{ on := 5, ground := Ground.gcOnly Departure.lateStores }], guard := none },
    { dst := some 45, op := Op.load 4 (Operand.tmp 44), type := 4, pos := "kalman.go:80", after := #[{ on := 2, ground := Ground.data }, { on := 5, ground := Ground.gcOnly Departure.lateStores }], guard := none },
    { dst := none, op := Op.store 26 (Operand.tmp 10) (Operand.tmp 43), type := 0, pos := "kalman.go:80", after := #[{ on := 1, ground := Ground.data }, { on := 1, ground := Ground.chain }, { on := 0, ground := Ground.phase }, { on := 1, ground := Ground.phase }, { on := 2, ground := Ground.textOnly Departure.lateStores }, { on := 3, ground := Ground.textOnly Departure.lateStores }], guard := none },
    { dst := some 11, op := Op.assign (Operand.const (Value.bool false)), type := 4, pos := "kalman.go:80", after := #[{ on := 4, ground := Ground.chain }, { on := 0, ground := Ground.phase }, { on := 1, ground := Ground.phase }, { on := 2, ground := Ground.textOnly Departure.lateStores }, { on := 3, ground := Ground.textOnly Departure.lateStores }, { on := 4, ground := Ground.phase }], guard := none },
    { dst := some 12, op := Op.assign (Operand.tmp 45), type := 4, pos := "kalman.go:80", after := #[{ on := 3, ground := Ground.data }, { on := 5, ground := Ground.chain }, { on := 0, ground := Ground.phase }, { on := 1, ground := Ground.phase }, { on := 2, ground := Ground.phase }, { on := 3, ground := Ground.phase }, { on := 4, ground := Ground.phase }, { on := 5, ground := Ground.phase }], guard := none },
    { dst := some 13, op := Op.assign (Operand.const (Value.int IntKind.i64 0)), type := 34, pos := "kalman.go:80", after := #[{ on := 6, ground := Ground.chain }, { on := 0, ground := Ground.phase }, { on := 1, ground := Ground.phase }, { on := 2, ground := Ground.phase }, { on := 3, ground := Ground.phase }, { on := 4, ground := Ground.phase }, { on := 5, ground := Ground.phase }, { on := 6, ground := Ground.phase }], guard := none }]
def ku6Dst (i : Nat) : Nat := [42, 43, 44, 45, 1000, 11, 12, 13].getD i 0
def ku6Fr (Nn : Nat) (D5 : Nat) (D10 : Nat) (u0 u1 u2 u3 u4 u6 u7 u8 u9 u14 u15 u16 u17 u19 u20 u21 u22 u23 u24 u25 u26 u27 u28 u29 u30 u31 u32 u33 u34 u35 u36 u37 u38 u39 u40 u41 u46 u47 u48 u49 u50 u51 u52 u53 u54 u55 u56 u57 u58 u59 u60 u61 : Value) (vs : Nat → Value) : Act := ⟨#[u0, u1, u2, u3, u4, .pointer (some ⟨D5, 0, none⟩), u6, u7, u8, u9, .pointer (some ⟨D10, 0, none⟩), vs 11, vs 12, vs 13, u14, u15, u16, u17, .pointer (some ⟨Nn, 0, none⟩), u19, u20, u21, u22, u23, u24, u25, u26, u27, u28, u29, u30, u31, u32, u33, u34, u35, u36, u37, u38, u39, u40, u41, vs 42, vs 43, vs 44, vs 45, u46, u47, u48, u49, u50, u51, u52, u53, u54, u55, u56, u57, u58, u59, u60, u61], []⟩
def ku6T (B Lo : Nat) (Nn : Nat) (D10 : Nat) (n : Nat) (xo : Option Addr) (xcap : Nat) (po : Option Addr) (pcap : Nat) (xs : List Int) (ps : List Int) (m : Bool) : Nat → Value → Value → (Nat → Prop) → World → Prop
  | 0, v, _, _, _ => v = .agg #[.int .i64 n, .int .i64 1, .slice xo xs.length xcap, .int .i64 n, .int .i64 n, .slice po ps.length pcap]
  | 1, v, _, S, w => TTrk B D10 Lo n 1 n n xs ps v S w
  | 2, v, _, _, _ => v = .pointer (some ⟨Nn, 0, none⟩)
  | 3, v, _, _, _ => v = .bool m
  | 4, _, _, S, w => TStT B D10 Lo n 1 n n xs ps S w
  | 5, v, _, _, _ => v = .bool false
  | 6, v, _, _, _ => v = .bool m
  | 7, v, _, _, _ => v = .int .i64 0
  | _, _, _, _, _ => True
set_option maxRecDepth 40000 in
set_option maxHeartbeats 400000 in
theorem ku6_region {Q : Exit → Act → World → Prop} {w0 : World} {Nn : Nat} {D5 : Nat} {D10 : Nat} {n : Nat} {xo : Option Addr} {xcap : Nat} {po : Option Addr} {pcap : Nat} {xs : List Int} {ps : List Int} {m : Bool} (Lo : Nat) {r11 r12 r13 : Value} {u0 u1 u2 u3 u4 u6 u7 u8 u9 u14 u15 u16 u17 u19 u20 u21 u22 u23 u24 u25 u26 u27 u28 u29 u30 u31 u32 u33 u34 u35 u36 u37 u38 u39 u40 u41 u46 u47 u48 u49 u50 u51 u52 u53 u54 u55 u56 u57 u58 u59 u60 u61 : Value} {x0 x1 x2 x3 x4 x5 : Value} (hN : w0.heap[D10]? = some (.cells #[x0, x1, x2, x3, x4, x5] 26 (0, 0)))
    (hLo : Lo ≤ w0.heap.size)
    (cT : ∀ w, Mod (fun b => b = D10) w0 w → w.heap[D5]? = some (.cells #[.int .i64 n, .int .i64 1, .slice xo xs.length xcap, .int .i64 n, .int .i64 n, .slice po ps.length pcap] 26 (0, 0)))
    (cN : ∀ w, Mod (fun b => b = D10) w0 w → w.cell? ⟨Nn, 0, none⟩ = some (.bool m))
    (kC : ∀ w, Mod (fun b => b = D10) w0 w → Calls Tryz.prog 29 #[.agg #[.int .i64 n, .int .i64 1, .slice xo xs.length xcap, .int .i64 n, .int .i64 n, .slice po ps.length pcap]] w fun e b => ∃ va vb, e = .returned (.agg #[.int .i64 n, .int .i64 1, va, .int .i64 n, .int .i64 n, vb]) ∧ Sees b va xs ∧ Sees b vb ps ∧ New w.heap.size va ∧ New w.heap.size vb ∧ Below w.heap.size w b) (z_xs : 0 < xs.length) (z_ps : 0 < ps.length)
    (hQ : ∀ vs ao ac bo bc w, Mod (fun b => b = D10) w0 w → vs 11 = .bool false → vs 12 = .bool m → vs 13 = .int .i64 0 → w.heap[D10]? = some (.cells #[.int .i64 n, .int .i64 1, .slice ao xs.length ac, .int .i64 n, .int .i64 n, .slice bo ps.length bc] 26 (0, 0)) → Sees w (.slice ao xs.length ac) xs → Sees w (.slice bo ps.length bc) ps → New Lo (.slice ao xs.length ac) → New Lo (.slice bo ps.length bc) → Q .normal (ku6Fr Nn D5 D10 u0 u1 u2 u3 u4 u6 u7 u8 u9 u14 u15 u16 u17 u19 u20 u21 u22 u23 u24 u25 u26 u27 u28 u29 u30 u31 u32 u33 u34 u35 u36 u37 u38 u39 u40 u41 u46 u47 u48 u49 u50 u51 u52 u53 u54 u55 u56 u57 u58 u59 u60 u61 vs) w) :
    (Code.region 6 ku6Ops true).wp Tryz.prog Q (ku6Fr Nn D5 D10 u0 u1 u2 u3 u4 u6 u7 u8 u9 u14 u15 u16 u17 u19 u20 u21 u22 u23 u24 u25 u26 u27 u28 u29 u30 u31 u32 u33 u34 u35 u36 u37 u38 u39 u40 u41 u46 u47 u48 u49 u50 u51 u52 u53 u54 u55 u56 u57 u58 u59 u60 u61 (fun k => if k = 11 then r11 else if k = 12 then r12 else if k = 13 then r13 else undef)) w0 := by
  refine wp_region_own (by kernel_rfl) (by decide) ku6Dst (by decide) (ku6Fr Nn D5 D10 u0 u1 u2 u3 u4 u6 u7 u8 u9 u14 u15 u16 u17 u19 u20 u21 u22 u23 u24 u25 u26 u27 u28 u29 u30 u31 u32 u33 u34 u35 u36 u37 u38 u39 u40 u41 u46 u47 u48 u49 u50 u51 u52 u53 u54 u55 u56 u57 u58 u59 u60 u61) (fun k => if k = 11 then r11 else if k = 12 then r12 else if k = 13 then r13 else undef) (fun i => i) (by decide) (fun b => b = D10) (fun q hq => by subst hq; exact lt_of_block hN) (fun i q => i = 4 ∧ q = D10) (fun i q h => h.2) (fun i j q h h' => h.1.trans h'.1.symm)
    (fun _ _ => False) (fun s j h => h.elim) (fun s j h => h.elim) (ku6T w0.heap.size Lo Nn D10 n xo xcap po pcap xs ps m) ?_ ?_ ?_
  · intro i v u S w w' hi h hw hw' hz hS
    have ha : Agr w0.heap.size D10 S w w' := agr_of hw hw' hz hS
    have hi' : i < 8 := hi
    rcases (by omega : i = 0 ∨ i = 1 ∨ i = 2 ∨ i = 3 ∨ i = 4 ∨ i = 5 ∨ i = 6 ∨ i = 7) with rfl | rfl | rfl | rfl | rfl | rfl | rfl | rfl
    · exact h
    · exact TTrk.stab h ha
    · exact h
    · exact h
    · exact TStT.stab h ha
    · exact h
    · exact h
    · exact h
  · intro i hi vs w S hb hp hbd hwr _ _
    have hi' : i < 8 := hi
    rcases (by omega : i = 0 ∨ i = 1 ∨ i = 2 ∨ i = 3 ∨ i = 4 ∨ i = 5 ∨ i = 6 ∨ i = 7) with rfl | rfl | rfl | rfl | rfl | rfl | rfl | rfl
    · exact wpOp_of _ rfl rfl (op_loadT rfl rfl (cT w hb) ⟨_, fun _ => False, rfl, rfl, fun _ h => h.elim, fun _ _ h => h.elim, Mod.refl _ _⟩)
    · have h0 : vs 42 = .agg #[.int .i64 n, .int .i64 1, .slice xo xs.length xcap, .int .i64 n, .int .i64 n, .slice po ps.length pcap] := hp 0 (by decide)
      exact wpOp_of _ rfl rfl (op_call1 enters_copied rfl h0 (kC w hb) (by rintro e b ⟨va, vb, rfl, s1, s2, n1, n2, b'⟩; have hl1 := s1.lt z_xs; have hl2 := s2.lt z_ps; obtain ⟨o1, c1, rfl⟩ := s1.slice; obtain ⟨o2, c2, rfl⟩ := s2.slice; exact ⟨_, rfl, _, fun q => (Value.slice o1 xs.length c1).ownBlock = some q ∨ (Value.slice o2 ps.length c2).ownBlock = some q, rfl, ⟨o1, c1, o2, c2, rfl, s1, s2, fun q hq => .inl (.inl hq), fun q hq => .inl (.inr hq), n1.mono (Nat.le_trans hLo hb.size), n2.mono (Nat.le_trans hLo hb.size)⟩, fun q hq => hq.elim (fun h => .inr (.inl ⟨n1 q h, hl1 q h⟩)) (fun h => .inr (.inl ⟨n2 q h, hl2 q h⟩)), fun h => h.elim fun _ h9 => h9.elim, Mod.of b'⟩))
    · exact wpOp_of _ rfl rfl (op_fieldN rfl rfl ⟨_, fun _ => False, rfl, rfl, fun _ h => h.elim, fun _ _ h => h.elim, Mod.refl _ _⟩)
    · have h2 : vs 44 = .pointer (some ⟨Nn, 0, none⟩) := hp 2 (by decide)
      exact wpOp_of _ rfl rfl (op_loadB rfl h2 (cN w hb) ⟨_, fun _ => False, rfl, rfl, fun _ h => h.elim, fun _ _ h => h.elim, Mod.refl _ _⟩)
    · obtain ⟨ao, ac, bo, bc, hf, s1, s2, k1, k2, k3, k4⟩ : TTrk w0.heap.size D10 Lo n 1 n n xs ps (vs 43) (S 1) w := hp 1 (by decide)
      have hbl := (hwr D10 rfl (fun j h => ⟨by rw [h.1]; decide, .inl h.1⟩)).trans hN
      have hne : ∀ v, OkS w0.heap.size D10 (S 1) v → ∀ q, v.ownBlock = some q → q ≠ D10 := fun v hv q hq e => (hv q hq).elim (fun h => (hbd 1 (by decide) q h).2 ⟨rfl, e⟩) (fun h => h.2 e)
      refine wpOp_of _ rfl rfl (op_storeT rfl rfl rfl hf hbl ?_)
      refine ⟨undef, fun q => q = D10 ∨ S 1 q, rfl, ⟨.inl rfl, ao, ac, bo, bc, put_six hbl, s1.six (hne _ k1) _ _ _ _ _ _, s2.six (hne _ k2) _ _ _ _ _ _, fun q hq => (k1 q hq).imp .inr id, fun q hq => (k2 q hq).imp .inr id, k3, k4⟩, fun q hq => hq.elim (fun h => .inr (.inr ⟨rfl, h⟩)) (fun h => .inl ⟨1, by decide, h⟩), fun h => h.elim fun _ h9 => h9.elim, ?_⟩
      exact (mod_six _ _ _ _ _ _).mono fun q _ hq => .inl ⟨rfl, hq⟩
    · exact wpOp_of _ rfl rfl (op_const rfl ⟨_, fun _ => False, rfl, rfl, fun _ h => h.elim, fun _ _ h => h.elim, Mod.refl _ _⟩)
    · have h3 : vs 45 = .bool m := hp 3 (by decide)
      exact wpOp_of _ rfl rfl (op_assign rfl h3 ⟨_, fun _ => False, rfl, rfl, fun _ h => h.elim, fun _ _ h => h.elim, Mod.refl _ _⟩)
    · exact wpOp_of _ rfl rfl (op_const rfl ⟨_, fun _ => False, rfl, rfl, fun _ h => h.elim, fun _ _ h => h.elim, Mod.refl _ _⟩)
  · intro vs w S hb hT
    obtain ⟨_, ao, ac, bo, bc, h1, h2, h3, _, _, h4, h5⟩ : TStT w0.heap.size D10 Lo n 1 n n xs ps (S 4) w := hT 4 (by decide) (fun _ h => h)
    exact hQ vs ao ac bo bc w hb (hT 5 (by decide) (fun _ h => h)) (hT 6 (by decide) (fun _ h => h)) (hT 7 (by decide) (fun _ h => h)) h1 h2 h3 h4 h5
end Go.Proofs.YtiniobcknmaigaaGreat

/-
  The code's Update: what is taken.
-/
namespace Go.Proofs.YtiniobcknmaigaaGreat
open Go.RowKit Go.Sort Qm

def ku10Ops : Array Oper := #[
    { dst := some 59, op := Op.load 26 (Operand.tmp 19), type := 26, pos := "kalman.go:86", after := #[], guard := none },
    { dst := some 60, op := Op.fieldAddr 54 (Operand.tmp 18) 0, type := 0, pos := "kalman.go:86", after := #[{ on := 4, ground := Ground.gcOnly Departure.lateStores }], guard := none },
    { dst := some 61, op := Op.load 4 (Operand.tmp 60), type := 4, pos := "kalman.go:86", after := #[{ on := 1, ground := Ground.data }, { on := 4, ground := Ground.gcOnly Departure.lateStores }], guard := none },
    { dst := none, op := Op.store 26 (Operand.tmp 10) (Operand.tmp 59), type := 0, pos := "kalman.go:86", after := #[{ on := 0, ground := Ground.data }, { on := 0, ground := Ground.phase }, { on := 1, ground := Ground.textOnly Departure.lateStores }, { on := 2, ground := Ground.textOnly Departure.lateStores }], guard := none },
    { dst := some 11, op := Op.assign (Operand.const (Value.bool true)), type := 4, pos := "kalman.go:86", after := #[{ on := 3, ground := Ground.chain }, { on := 0, ground := Ground.phase }, { on := 1, ground := Ground.textOnly Departure.lateStores }, { on := 2, ground := Ground.textOnly Departure.lateStores }, { on := 3, ground := Ground.phase }], guard := none },
    { dst := some 12, op := Op.assign (Operand.tmp 61), type := 4, pos := "kalman.go:86", after := #[{ on := 2, ground := Ground.data }, { on := 4, ground := Ground.chain }, { on := 0, ground := Ground.phase }, { on := 1, ground := Ground.phase }, { on := 2, ground := Ground.phase }, { on := 3, ground := Ground.phase }, { on := 4, ground := Ground.phase }], guard := none },
    { dst := some 13, op := Op.assign (Operand.const (Value.int IntKind.i64 0)), type := 34, pos := "kalman.go:86", after := #[{ on := 5, ground := Ground.chain }, { on := 0, ground := Ground.phase }, { on := 1, ground := Ground.phase }, { on := 2, ground := Ground.phase }, { on := 3, ground := Ground.phase }, { on := 4, ground := Ground.phase }, { on := 5, ground := Ground.phase }], guard := none }]
def ku10Dst (i : Nat) : Nat := [59, 60, 61, 1000, 11, 12, 13].getD i 0
def ku10Fr (Nn : Nat) (D10 : Nat) (D19 : Nat) (u0 u1 u2 u3 u4 u5 u6 u7 u8 u9 u14 u15 u16 u17 u20 u21 u22 u23 u24 u25 u26 u27 u28 u29 u30 u31 u32 u33 u34 u35 u36 u37 u38 u39 u40 u41 u42 u43 u44 u45 u46 u47 u48 u49 u50 u51 u52 u53 u54 u55 u56 u57 u58 : Value) (vs : Nat → Value) : Act := ⟨#[u0, u1, u2, u3, u4, u5, u6, u7, u8, u9, .pointer (some ⟨D10, 0, none⟩), vs 11, vs 12, vs 13, u14, u15, u16, u17, .pointer (some ⟨Nn, 0, none⟩), .pointer (some ⟨D19, 0, none⟩), u20, u21, u22, u23, u24, u25, u26, u27, u28, u29, u30, u31, u32, u33, u34, u35, u36, u37, u38, u39, u40, u41, u42, u43, u44, u45, u46, u47, u48, u49, u50, u51, u52, u53, u54, u55, u56, u57, u58, vs 59, vs 60, vs 61], []⟩
def ku10T (B Lo : Nat) (Nn : Nat) (D10 : Nat) (n : Nat) (xs : List Int) (ps : List Int) (m : Bool) : Nat → Value → Value → (Nat → Prop) → World → Prop
  | 0, v, _, S, w => TTrk B D10 Lo n 1 n n xs ps v S w
  | 1, v, _, _, _ => v = .pointer (some ⟨Nn, 0, none⟩)
  | 2, v, _, _, _ => v = .bool m
  | 3, _, _, S, w => TStT B D10 Lo n 1 n n xs ps S w
  | 4, v, _, _, _ => v = .bool true
  | 5, v, _, _, _ => v = .bool m
  | 6, v, _, _, _ => v = .int .i64 0
  | _, _, _, _, _ => True
set_option maxRecDepth 40000 in
set_option maxHeartbeats 400000 in
theorem ku10_region {Q : Exit → Act → World → Prop} {w0 : World} {Nn : Nat} {D10 : Nat} {D19 : Nat} {n : Nat} {xo : Option Addr} {xcap : Nat} {po : Option Addr} {pcap : Nat} {xs : List Int} {ps : List Int} {m : Bool} (Lo : Nat) {r11 r12 r13 : Value} {u0 u1 u2 u3 u4 u5 u6 u7 u8 u9 u14 u15 u16 u17 u20 u21 u22 u23 u24 u25 u26 u27 u28 u29 u30 u31 u32 u33 u34 u35 u36 u37 u38 u39 u40 u41 u42 u43 u44 u45 u46 u47 u48 u49 u50 u51 u52 u53 u54 u55 u56 u57 u58 : Value} {x0 x1 x2 x3 x4 x5 : Value} (hN : w0.heap[D10]? = some (.cells #[x0, x1, x2, x3, x4, x5] 26 (0, 0)))
    (nX : New Lo (.slice xo xs.length xcap)) (nP : New Lo (.slice po ps.length pcap))
    (cT : ∀ w, Mod (fun b => b = D10) w0 w → w.heap[D19]? = some (.cells #[.int .i64 n, .int .i64 1, .slice xo xs.length xcap, .int .i64 n, .int .i64 n, .slice po ps.length pcap] 26 (0, 0)))
    (cN : ∀ w, Mod (fun b => b = D10) w0 w → w.cell? ⟨Nn, 0, none⟩ = some (.bool m))
    (sX : Sees w0 (.slice xo xs.length xcap) xs) (oX : Old w0.heap.size D10 (.slice xo xs.length xcap))
    (sP : Sees w0 (.slice po ps.length pcap) ps) (oP : Old w0.heap.size D10 (.slice po ps.length pcap))
    (hQ : ∀ vs ao ac bo bc w, Mod (fun b => b = D10) w0 w → vs 11 = .bool true → vs 12 = .bool m → vs 13 = .int .i64 0 → w.heap[D10]? = some (.cells #[.int .i64 n, .int .i64 1, .slice ao xs.length ac, .int .i64 n, .int .i64 n, .slice bo ps.length bc] 26 (0, 0)) → Sees w (.slice ao xs.length ac) xs → Sees w (.slice bo ps.length bc) ps → New Lo (.slice ao xs.length ac) → New Lo (.slice bo ps.length bc) → Q .normal (ku10Fr Nn D10 D19 u0 u1 u2 u3 u4 u5 u6 u7 u8 u9 u14 u15 u16 u17 u20 u21 u22 u23 u24 u25 u26 u27 u28 u29 u30 u31 u32 u33 u34 u35 u36 u37 u38 u39 u40 u41 u42 u43 u44 u45 u46 u47 u48 u49 u50 u51 u52 u53 u54 u55 u56 u57 u58 vs) w) :
    (Code.region 10 ku10Ops true).wp Tryz.prog Q (ku10Fr Nn D10 D19 u0 u1 u2 u3 u4 u5 u6 u7 u8 u9 u14 u15 u16 u17 u20 u21 u22 u23 u24 u25 u26 u27 u28 u29 u30 u31 u32 u33 u34 u35 u36 u37 u38 u39 u40 u41 u42 u43 u44 u45 u46 u47 u48 u49 u50 u51 u52 u53 u54 u55 u56 u57 u58 (fun k => if k = 11 then r11 else if k = 12 then r12 else if k = 13 then r13 else undef)) w0 := by
  refine wp_region_own (by kernel_rfl) (by decide) ku10Dst (by decide) (ku10Fr Nn D10 D19 u0 u1 u2 u3 u4 u5 u6 u7 u8 u9 u14 u15 u16 u17 u20 u21 u22 u23 u24 u25 u26 u27 u28 u29 u30 u31 u32 u33 u34 u35 u36 u37 u38 u39 u40 u41 u42 u43 u44 u45 u46 u47 u48 u49 u50 u51 u52 u53 u54 u55 u56 u57 u58) (fun k => if k = 11 then r11 else if k = 12 then r12 else if k = 13 then r13 else undef) (fun i => i) (by decide) (fun b => b = D10) (fun q hq => by subst hq; exact lt_of_block hN) (fun i q => i = 3 ∧ q = D10) (fun i q h => h.2) (fun i j q h h' => h.1.trans h'.1.symm)
    (fun _ _ => False) (fun s j h => h.elim) (fun s j h => h.elim) (ku10T w0.heap.size Lo Nn D10 n xs ps m) ?_ ?_ ?_
  · intro i v u S w w' hi h hw hw' hz hS
    have ha : Agr w0.heap.size D10 S w w' := agr_of hw hw' hz hS
    have hi' : i < 7 := hi
    rcases (by omega : i = 0 ∨ i = 1 ∨ i = 2 ∨ i = 3 ∨ i = 4 ∨ i = 5 ∨ i = 6) with rfl | rfl | rfl | rfl | rfl | rfl | rfl
    · exact TTrk.stab h ha
    · exact h
    · exact h
    · exact TStT.stab h ha
    · exact h
    · exact h
    · exact h
  · intro i hi vs w S hb hp hbd hwr _ _
    have hi' : i < 7 := hi
    rcases (by omega : i = 0 ∨ i = 1 ∨ i = 2 ∨ i = 3 ∨ i = 4 ∨ i = 5 ∨ i = 6) with rfl | rfl | rfl | rfl | rfl | rfl | rfl
    · exact wpOp_of _ rfl rfl (op_loadT rfl rfl (cT w hb) ⟨_, fun _ => False, rfl, ⟨_, _, _, _, rfl, sX.mod oX hb, sP.mod oP hb, oX.ok _, oP.ok _, nX, nP⟩, fun _ h => h.elim, fun h => h.elim fun _ h9 => h9.elim, Mod.refl _ _⟩)
    · exact wpOp_of _ rfl rfl (op_fieldN rfl rfl ⟨_, fun _ => False, rfl, rfl, fun _ h => h.elim, fun _ _ h => h.elim, Mod.refl _ _⟩)
    · have h1 : vs 60 = .pointer (some ⟨Nn, 0, none⟩) := hp 1 (by decide)
      exact wpOp_of _ rfl rfl (op_loadB rfl h1 (cN w hb) ⟨_, fun _ => False, rfl, rfl, fun _ h => h.elim, fun _ _ h => h.elim, Mod.refl _ _⟩)
    · obtain ⟨ao, ac, bo, bc, hf, s1, s2, k1, k2, k3, k4⟩ : TTrk w0.heap.size D10 Lo n 1 n n xs ps (vs 59) (S 0) w := hp 0 (by decide)
      have hbl := (hwr D10 rfl (fun j h => ⟨by rw [h.1]; decide, .inl h.1⟩)).trans hN
      have hne : ∀ v, OkS w0.heap.size D10 (S 0) v → ∀ q, v.ownBlock = some q → q ≠ D10 := fun v hv q hq e => (hv q hq).elim (fun h => (hbd 0 (by decide) q h).2 ⟨rfl, e⟩) (fun h => h.2 e)
      refine wpOp_of _ rfl rfl (op_storeT rfl rfl rfl hf hbl ?_)
      refine ⟨undef, fun q => q = D10 ∨ S 0 q, rfl, ⟨.inl rfl, ao, ac, bo, bc, put_six hbl, s1.six (hne _ k1) _ _ _ _ _ _, s2.six (hne _ k2) _ _ _ _ _ _, fun q hq => (k1 q hq).imp .inr id, fun q hq => (k2 q hq).imp .inr id, k3, k4⟩, fun q hq => hq.elim (fun h => .inr (.inr ⟨rfl, h⟩)) (fun h => .inl ⟨0, by decide, h⟩), fun h => h.elim fun _ h9 => h9.elim, ?_⟩
      exact (mod_six _ _ _ _ _ _).mono fun q _ hq => .inl ⟨rfl, hq⟩
    · exact wpOp_of _ rfl rfl (op_const rfl ⟨_, fun _ => False, rfl, rfl, fun _ h => h.elim, fun _ _ h => h.elim, Mod.refl _ _⟩)
    · have h2 : vs 61 = .bool m := hp 2 (by decide)
      exact wpOp_of _ rfl rfl (op_assign rfl h2 ⟨_, fun _ => False, rfl, rfl, fun _ h => h.elim, fun _ _ h => h.elim, Mod.refl _ _⟩)
    · exact wpOp_of _ rfl rfl (op_const rfl ⟨_, fun _ => False, rfl, rfl, fun _ h => h.elim, fun _ _ h => h.elim, Mod.refl _ _⟩)
  · intro vs w S hb hT
    obtain ⟨_, ao, ac, bo, bc, h1, h2, h3, _, _, h4, h5⟩ : TStT w0.heap.size D10 Lo n 1 n n xs ps (S 3) w := hT 3 (by decide) (fun _ h => h)
    exact hQ vs ao ac bo bc w hb (hT 4 (by decide) (fun _ h => h)) (hT 5 (by decide) (fun _ h => h)) (hT 6 (by decide) (fun _ h => h)) h1 h2 h3 h4 h5
end Go.Proofs.YtiniobcknmaigaaGreat
