/-
  The code's corrected: the track is put together.
-/
import Derived.Test.YtiniobcknmaigaaKRetV
namespace Go.Proofs.Ytiniobcknmaigaa
open Go.RowKit Go.Sort Qm

theorem enters_goodc : ∀ (args : Array Value) (a : World), Sem.run Try.prog (callFunc 18 args) a = Result.ok (Next.enter 18 args) a := by
  intro args a
  simp [callFunc, Try.func18, go_sem]
  rfl
def kc8Ops : Array Oper := #[
    { dst := some 78, op := Op.load 24 (Operand.tmp 14), type := 24, pos := "kalman.go:124", after := #[], guard := none },
    { dst := some 79, op := Op.load 24 (Operand.tmp 19), type := 24, pos := "kalman.go:124", after := #[], guard := none },
    { dst := some 80, op := Op.call { callee := Callee.value (Operand.func 18), args := #[Operand.tmp 79], argTypes := #[24] }, type := 24, pos := "kalman.go:124", after := #[{ on := 1, ground := Ground.data }], guard := none },
    { dst := some 81, op := Op.build 26 #[(0, Operand.tmp 78), (1, Operand.tmp 80)], type := 26, pos := "kalman.go:124", after := #[{ on := 0, ground := Ground.data }, { on := 2, ground := Ground.data }], guard := none },
    { dst := none, op := Op.store 26 (Operand.tmp 12) (Operand.tmp 81), type := 0, pos := "kalman.go:124", after := #[{ on := 3, ground := Ground.data }, { on := 2, ground := Ground.chain }, { on := 0, ground := Ground.phase }, { on := 1, ground := Ground.phase }, { on := 2, ground := Ground.phase }, { on := 3, ground := Ground.phase }], guard := none }]
def kc8Dst (i : Nat) : Nat := [78, 79, 80, 81, 1000].getD i 0
def kc8Fr (D12 : Nat) (D14 : Nat) (D19 : Nat) (u0 u1 u2 u3 u4 u5 u6 u7 u8 u9 u10 u11 u13 u15 u16 u17 u18 u20 u21 u22 u23 u24 u25 u26 u27 u28 u29 u30 u31 u32 u33 u34 u35 u36 u37 u38 u39 u40 u41 u42 u43 u44 u45 u46 u47 u48 u49 u50 u51 u52 u53 u54 u55 u56 u57 u58 u59 u60 u61 u62 u63 u64 u65 u66 u67 u68 u69 u70 u71 u72 u73 u74 u75 u76 u77 : Value) (vs : Nat → Value) : Act := ⟨#[u0, u1, u2, u3, u4, u5, u6, u7, u8, u9, u10, u11, .pointer (some ⟨D12, 0, none⟩), u13, .pointer (some ⟨D14, 0, none⟩), u15, u16, u17, u18, .pointer (some ⟨D19, 0, none⟩), u20, u21, u22, u23, u24, u25, u26, u27, u28, u29, u30, u31, u32, u33, u34, u35, u36, u37, u38, u39, u40, u41, u42, u43, u44, u45, u46, u47, u48, u49, u50, u51, u52, u53, u54, u55, u56, u57, u58, u59, u60, u61, u62, u63, u64, u65, u66, u67, u68, u69, u70, u71, u72, u73, u74, u75, u76, u77, vs 78, vs 79, vs 80, vs 81], []⟩
def kc8T (B Lo : Nat) (D12 : Nat) (n : Nat) (xo : Option Addr) (xcap : Nat) (po : Option Addr) (pcap : Nat) (xs : List Int) (qs : List Int) (zs : List Int) : Nat → Value → Value → (Nat → Prop) → World → Prop
  | 0, v, _, _, _ => v = .agg #[.int .i64 n, .int .i64 1, .slice xo xs.length xcap]
  | 1, v, _, _, _ => v = .agg #[.int .i64 n, .int .i64 n, .slice po qs.length pcap]
  | 2, v, _, S, w => TMat B n n zs v S w
  | 3, v, _, S, w => TTrk B D12 Lo n 1 n n xs zs v S w
  | 4, _, _, S, w => TStT B D12 Lo n 1 n n xs zs S w
  | _, _, _, _, _ => True
set_option maxRecDepth 40000 in
set_option maxHeartbeats 400000 in
theorem kc8_region {Q : Exit → Act → World → Prop} {w0 : World} {D12 : Nat} {D14 : Nat} {D19 : Nat} {n : Nat} {xo : Option Addr} {xcap : Nat} {po : Option Addr} {pcap : Nat} {xs : List Int} {qs : List Int} {zs : List Int} (Lo : Nat)  {u0 u1 u2 u3 u4 u5 u6 u7 u8 u9 u10 u11 u13 u15 u16 u17 u18 u20 u21 u22 u23 u24 u25 u26 u27 u28 u29 u30 u31 u32 u33 u34 u35 u36 u37 u38 u39 u40 u41 u42 u43 u44 u45 u46 u47 u48 u49 u50 u51 u52 u53 u54 u55 u56 u57 u58 u59 u60 u61 u62 u63 u64 u65 u66 u67 u68 u69 u70 u71 u72 u73 u74 u75 u76 u77 : Value} {x0 x1 x2 x3 x4 x5 : Value} (hN : w0.heap[D12]? = some (.cells #[x0, x1, x2, x3, x4, x5] 26 (0, 0)))
    (hLo : Lo ≤ w0.heap.size) (nX : New Lo (.slice xo xs.length xcap))
    (cX : ∀ w, Mod (fun b => b = D12) w0 w → w.cell? ⟨D14, 0, none⟩ = some (.int .i64 n) ∧ w.cell? ⟨D14, 1, none⟩ = some (.int .i64 1) ∧ w.cell? ⟨D14, 2, none⟩ = some (.slice xo xs.length xcap))
    (cP : ∀ w, Mod (fun b => b = D12) w0 w → w.cell? ⟨D19, 0, none⟩ = some (.int .i64 n) ∧ w.cell? ⟨D19, 1, none⟩ = some (.int .i64 n) ∧ w.cell? ⟨D19, 2, none⟩ = some (.slice po qs.length pcap))
    (sX : Sees w0 (.slice xo xs.length xcap) xs) (oX : Old w0.heap.size D12 (.slice xo xs.length xcap))
    (kG : ∀ w, Mod (fun b => b = D12) w0 w → Calls Try.prog 18 #[.agg #[.int .i64 n, .int .i64 n, .slice po qs.length pcap]] w fun e b => ∃ v, e = .returned (.agg #[.int .i64 n, .int .i64 n, v]) ∧ Sees b v zs ∧ New w.heap.size v ∧ Below w.heap.size w b) (z_zs : 0 < zs.length)
    (hQ : ∀ vs ao ac bo bc w, Mod (fun b => b = D12) w0 w → w.heap[D12]? = some (.cells #[.int .i64 n, .int .i64 1, .slice ao xs.length ac, .int .i64 n, .int .i64 n, .slice bo zs.length bc] 26 (0, 0)) → Sees w (.slice ao xs.length ac) xs → Sees w (.slice bo zs.length bc) zs → New Lo (.slice ao xs.length ac) → New Lo (.slice bo zs.length bc) → Q .normal (kc8Fr D12 D14 D19 u0 u1 u2 u3 u4 u5 u6 u7 u8 u9 u10 u11 u13 u15 u16 u17 u18 u20 u21 u22 u23 u24 u25 u26 u27 u28 u29 u30 u31 u32 u33 u34 u35 u36 u37 u38 u39 u40 u41 u42 u43 u44 u45 u46 u47 u48 u49 u50 u51 u52 u53 u54 u55 u56 u57 u58 u59 u60 u61 u62 u63 u64 u65 u66 u67 u68 u69 u70 u71 u72 u73 u74 u75 u76 u77 vs) w) :
    (Code.region 8 kc8Ops true).wp Try.prog Q (kc8Fr D12 D14 D19 u0 u1 u2 u3 u4 u5 u6 u7 u8 u9 u10 u11 u13 u15 u16 u17 u18 u20 u21 u22 u23 u24 u25 u26 u27 u28 u29 u30 u31 u32 u33 u34 u35 u36 u37 u38 u39 u40 u41 u42 u43 u44 u45 u46 u47 u48 u49 u50 u51 u52 u53 u54 u55 u56 u57 u58 u59 u60 u61 u62 u63 u64 u65 u66 u67 u68 u69 u70 u71 u72 u73 u74 u75 u76 u77 (fun _ => undef)) w0 := by
  refine wp_region_own (by kernel_rfl) (by decide) kc8Dst (by decide) (kc8Fr D12 D14 D19 u0 u1 u2 u3 u4 u5 u6 u7 u8 u9 u10 u11 u13 u15 u16 u17 u18 u20 u21 u22 u23 u24 u25 u26 u27 u28 u29 u30 u31 u32 u33 u34 u35 u36 u37 u38 u39 u40 u41 u42 u43 u44 u45 u46 u47 u48 u49 u50 u51 u52 u53 u54 u55 u56 u57 u58 u59 u60 u61 u62 u63 u64 u65 u66 u67 u68 u69 u70 u71 u72 u73 u74 u75 u76 u77) (fun _ => undef) (fun i => i) (by decide) (fun b => b = D12) (fun q hq => by subst hq; exact lt_of_block hN) (fun i q => i = 4 ∧ q = D12) (fun i q h => h.2) (fun i j q h h' => h.1.trans h'.1.symm)
    (fun _ _ => False) (fun s j h => h.elim) (fun s j h => h.elim) (kc8T w0.heap.size Lo D12 n xo xcap po pcap xs qs zs) ?_ ?_ ?_
  · intro i v u S w w' hi h hw hw' hz hS
    have ha : Agr w0.heap.size D12 S w w' := agr_of hw hw' hz hS
    have hi' : i < 5 := hi
    rcases (by omega : i = 0 ∨ i = 1 ∨ i = 2 ∨ i = 3 ∨ i = 4) with rfl | rfl | rfl | rfl | rfl
    · exact h
    · exact h
    · exact TMat.stab h ha
    · exact TTrk.stab h ha
    · exact TStT.stab h ha
  · intro i hi vs w S hb hp hbd hwr _ _
    have hi' : i < 5 := hi
    rcases (by omega : i = 0 ∨ i = 1 ∨ i = 2 ∨ i = 3 ∨ i = 4) with rfl | rfl | rfl | rfl | rfl
    · exact wpOp_of _ rfl rfl (op_loadM rfl rfl (cX w hb).1 (cX w hb).2.1 (cX w hb).2.2 ⟨_, fun _ => False, rfl, rfl, fun _ h => h.elim, fun _ _ h => h.elim, Mod.refl _ _⟩)
    · exact wpOp_of _ rfl rfl (op_loadM rfl rfl (cP w hb).1 (cP w hb).2.1 (cP w hb).2.2 ⟨_, fun _ => False, rfl, rfl, fun _ h => h.elim, fun _ _ h => h.elim, Mod.refl _ _⟩)
    · have h1 : vs 79 = .agg #[.int .i64 n, .int .i64 n, .slice po qs.length pcap] := hp 1 (by decide)
      exact wpOp_of _ rfl rfl (op_call1 enters_goodc rfl h1 (kG w hb) (by rintro e b ⟨v, rfl, s', n', b'⟩; have hl := s'.lt z_zs; obtain ⟨so, sc, rfl⟩ := s'.slice; exact ⟨_, rfl, _, fun q => (Value.slice so zs.length sc).ownBlock = some q, rfl, ⟨so, sc, rfl, s', fun q hq => ⟨hq, Nat.le_trans hb.size (n' q hq)⟩⟩, fun q hq => .inr (.inl ⟨n' q hq, hl q hq⟩), fun h => h.elim fun _ h9 => h9.elim, Mod.of b'⟩))
    · have h0 : vs 78 = .agg #[.int .i64 n, .int .i64 1, .slice xo xs.length xcap] := hp 0 (by decide)
      obtain ⟨so, sc, h2, s2, n2⟩ : TMat w0.heap.size n n zs (vs 80) (S 2) w := hp 2 (by decide)
      exact wpOp_of _ rfl rfl (op_buildT rfl h0 h2 ⟨_, S 2, rfl, ⟨_, _, so, sc, rfl, sX.mod oX hb, s2, oX.ok _, fun q hq => .inl (n2 q hq).1, nX, fun q hq => Nat.le_trans hLo (n2 q hq).2⟩, fun q hq => .inl ⟨2, by decide, hq⟩, fun h => h.elim fun _ h9 => h9.elim, Mod.refl _ _⟩)
    · obtain ⟨ao, ac, bo, bc, hf, s1, s2, k1, k2, k3, k4⟩ : TTrk w0.heap.size D12 Lo n 1 n n xs zs (vs 81) (S 3) w := hp 3 (by decide)
      have hbl := (hwr D12 rfl (fun j h => ⟨by rw [h.1]; decide, .inl h.1⟩)).trans hN
      have hne : ∀ v, OkS w0.heap.size D12 (S 3) v → ∀ q, v.ownBlock = some q → q ≠ D12 := fun v hv q hq e => (hv q hq).elim (fun h => (hbd 3 (by decide) q h).2 ⟨rfl, e⟩) (fun h => h.2 e)
      refine wpOp_of _ rfl rfl (op_storeT rfl rfl rfl hf hbl ?_)
      refine ⟨undef, fun q => q = D12 ∨ S 3 q, rfl, ⟨.inl rfl, ao, ac, bo, bc, put_six hbl, s1.six (hne _ k1) _ _ _ _ _ _, s2.six (hne _ k2) _ _ _ _ _ _, fun q hq => (k1 q hq).imp .inr id, fun q hq => (k2 q hq).imp .inr id, k3, k4⟩, fun q hq => hq.elim (fun h => .inr (.inr ⟨rfl, h⟩)) (fun h => .inl ⟨3, by decide, h⟩), fun h => h.elim fun _ h9 => h9.elim, ?_⟩
      exact (mod_six _ _ _ _ _ _).mono fun q _ hq => .inl ⟨rfl, hq⟩
  · intro vs w S hb hT
    obtain ⟨_, ao, ac, bo, bc, h1, h2, h3, _, _, h4, h5⟩ : TStT w0.heap.size D12 Lo n 1 n n xs zs (S 4) w := hT 4 (by decide) (fun _ h => h)
    exact hQ vs ao ac bo bc w hb  h1 h2 h3 h4 h5
end Go.Proofs.Ytiniobcknmaigaa
