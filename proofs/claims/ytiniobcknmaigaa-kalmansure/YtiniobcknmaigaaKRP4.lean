/-
  The code's Predict: f X.
-/
import Derived.Test.YtiniobcknmaigaaKREnt
namespace Go.Proofs.Ytiniobcknmaigaa
open Go.RowKit Go.Sort Qm

def kp4Ops : Array Oper := #[
    { dst := some 33, op := Op.makeFunc (Fn.func 41) #[Operand.tmp 9] #[], type := 79, pos := "kalman.go:45", after := #[], guard := none },
    { dst := some 34, op := Op.fieldAddr 26 (Operand.tmp 3) 0, type := 0, pos := "kalman.go:45", after := #[], guard := none },
    { dst := some 35, op := Op.load 24 (Operand.tmp 34), type := 24, pos := "kalman.go:45", after := #[{ on := 1, ground := Ground.data }], guard := none },
    { dst := some 36, op := Op.load 24 (Operand.tmp 4), type := 24, pos := "kalman.go:45", after := #[], guard := none },
    { dst := some 37, op := Op.call { callee := Callee.value (Operand.func 42), args := #[Operand.tmp 36], argTypes := #[24] }, type := 80, pos := "kalman.go:45", after := #[{ on := 3, ground := Ground.data }], guard := none },
    { dst := some 38, op := Op.buildSlice 102 1 #[(0, Operand.tmp 37)], type := 102, pos := "kalman.go:45", after := #[{ on := 4, ground := Ground.data }], guard := none },
    { dst := some 39, op := Op.call { callee := Callee.value (Operand.func 40), args := #[Operand.tmp 33, Operand.tmp 35, Operand.tmp 38], argTypes := #[79, 24, 102] }, type := 24, pos := "kalman.go:45", after := #[{ on := 0, ground := Ground.data }, { on := 2, ground := Ground.data }, { on := 5, ground := Ground.data }, { on := 4, ground := Ground.chain }], guard := none },
    { dst := some 10, op := Op.alloc 24, type := 0, pos := "kalman.go:45", after := #[], guard := none },
    { dst := none, op := Op.store 24 (Operand.tmp 10) (Operand.tmp 39), type := 0, pos := "kalman.go:45", after := #[{ on := 7, ground := Ground.data }, { on := 6, ground := Ground.data }, { on := 6, ground := Ground.chain }, { on := 0, ground := Ground.phase }, { on := 1, ground := Ground.phase }, { on := 2, ground := Ground.phase }, { on := 3, ground := Ground.phase }, { on := 4, ground := Ground.phase }, { on := 5, ground := Ground.phase }, { on := 6, ground := Ground.phase }, { on := 7, ground := Ground.phase }], guard := none }]
def kp4Dst (i : Nat) : Nat := [33, 34, 35, 36, 37, 38, 39, 10, 1000].getD i 0
def kp4Fr (N : Nat) (D3 : Nat) (D4 : Nat) (u0 u1 u2 u5 u6 u7 u8 u11 u12 u13 u14 u15 u16 u17 u18 u19 u20 u21 u22 u23 u24 u25 u26 u27 u28 u29 u30 u31 u32 u40 u41 u42 u43 u44 u45 u46 u47 u48 u49 u50 u51 u52 u53 u54 u55 u56 u57 u58 u59 u60 u61 u62 u63 : Value) (vs : Nat → Value) : Act := ⟨#[u0, u1, u2, .pointer (some ⟨D3, 0, none⟩), .pointer (some ⟨D4, 0, none⟩), u5, u6, u7, u8, .pointer (some ⟨N, 0, none⟩), vs 10, u11, u12, u13, u14, u15, u16, u17, u18, u19, u20, u21, u22, u23, u24, u25, u26, u27, u28, u29, u30, u31, u32, vs 33, vs 34, vs 35, vs 36, vs 37, vs 38, vs 39, u40, u41, u42, u43, u44, u45, u46, u47, u48, u49, u50, u51, u52, u53, u54, u55, u56, u57, u58, u59, u60, u61, u62, u63], []⟩
def kp4T (B : Nat) (m0 : Bool) (N : Nat) (D3 : Nat) (n : Nat) (xo : Option Addr) (xcap : Nat) (fo : Option Addr) (fcap : Nat) (fs : List Int) (X0 X1 : List Int) (b0 : Bool) : Nat → Value → Value → (Nat → Prop) → World → Prop
  | 0, v, _, _, _ => v = .func (.func 41) #[.pointer (some ⟨N, 0, none⟩)] #[]
  | 1, v, _, _, _ => v = .pointer (some ⟨D3, 0, none⟩)
  | 2, v, _, _, _ => v = .agg #[.int .i64 n, .int .i64 1, .slice xo X0.length xcap]
  | 3, v, _, _, _ => v = .agg #[.int .i64 n, .int .i64 n, .slice fo fs.length fcap]
  | 4, v, _, S, w => StepV B N n 1 X0 n 1 X1 b0 v S w
  | 5, v, _, S, w => TSl B [StepV B N n 1 X0 n 1 X1 b0] v S w
  | 6, v, _, S, w => TRes B N n 1 X1 (m0 || anyB (fun i => [b0].getD i false) 1) v S w
  | 7, v, _, S, w => TPtr B v S w
  | 8, _, u, S, w => TSto B n 1 X1 u S w
  | _, _, _, _, _ => True
set_option maxRecDepth 40000 in
set_option maxHeartbeats 400000 in
theorem kp4_region {Q : Exit → Act → World → Prop} {w0 : World} {m0 : Bool} {N : Nat} {D3 : Nat} {D4 : Nat} {n : Nat} {xo : Option Addr} {xcap : Nat} {fo : Option Addr} {fcap : Nat} {fs : List Int} {u0 u1 u2 u5 u6 u7 u8 u11 u12 u13 u14 u15 u16 u17 u18 u19 u20 u21 u22 u23 u24 u25 u26 u27 u28 u29 u30 u31 u32 u40 u41 u42 u43 u44 u45 u46 u47 u48 u49 u50 u51 u52 u53 u54 u55 u56 u57 u58 u59 u60 u61 u62 u63 : Value} (X0 X1 : List Int) (b0 : Bool) (hN : w0.heap[N]? = some (.cells #[.bool m0, .int .i64 0] 77 (0, 0))) (hpos : ∀ i, i ≤ 1 → 0 < ([X0, X1].getD i []).length)
    (cX : ∀ w, Mod (fun b => b = N) w0 w → w.cell? ⟨D3, 0, none⟩ = some (.int .i64 n) ∧ w.cell? ⟨D3, 1, none⟩ = some (.int .i64 1) ∧ w.cell? ⟨D3, 2, none⟩ = some (.slice xo X0.length xcap))
    (cF : ∀ w, Mod (fun b => b = N) w0 w → w.cell? ⟨D4, 0, none⟩ = some (.int .i64 n) ∧ w.cell? ⟨D4, 1, none⟩ = some (.int .i64 n) ∧ w.cell? ⟨D4, 2, none⟩ = some (.slice fo fs.length fcap))
    (sX : Sees w0 (.slice xo X0.length xcap) X0) (oX : Old w0.heap.size N (.slice xo X0.length xcap))
    (sF : Sees w0 (.slice fo fs.length fcap) fs) (oF : Old w0.heap.size N (.slice fo fs.length fcap))
    (st0 : ∀ w A va S, w.heap[A]? = some (.cells #[.int .i64 n, .int .i64 n, va] 24 (0, 0)) → S A → Sees w va fs → OkS w0.heap.size N S va → StepV w0.heap.size N n 1 X0 n 1 X1 b0 (.func (.func 68) #[] #[.pointer (some ⟨A, 0, none⟩)]) S w)
    (hQ : ∀ vs D ao cap w, Mod (fun b => b = N) w0 w → vs 10 = .pointer (some ⟨D, 0, none⟩) → w0.heap.size ≤ D → w.heap[D]? = some (.cells #[.int .i64 n, .int .i64 1, .slice ao X1.length cap] 24 (0, 0)) → Sees w (.slice ao X1.length cap) X1 → (∀ q, (Value.slice ao X1.length cap).ownBlock = some q → w0.heap.size ≤ q) → w.heap[N]? = some (.cells #[.bool (m0 || anyB (fun i => [b0].getD i false) 1), .int .i64 0] 77 (0, 0)) → Q .normal (kp4Fr N D3 D4 u0 u1 u2 u5 u6 u7 u8 u11 u12 u13 u14 u15 u16 u17 u18 u19 u20 u21 u22 u23 u24 u25 u26 u27 u28 u29 u30 u31 u32 u40 u41 u42 u43 u44 u45 u46 u47 u48 u49 u50 u51 u52 u53 u54 u55 u56 u57 u58 u59 u60 u61 u62 u63 vs) w) :
    (Code.region 4 kp4Ops true).wp Try.prog Q (kp4Fr N D3 D4 u0 u1 u2 u5 u6 u7 u8 u11 u12 u13 u14 u15 u16 u17 u18 u19 u20 u21 u22 u23 u24 u25 u26 u27 u28 u29 u30 u31 u32 u40 u41 u42 u43 u44 u45 u46 u47 u48 u49 u50 u51 u52 u53 u54 u55 u56 u57 u58 u59 u60 u61 u62 u63 (fun _ => undef)) w0 := by
  refine wp_region_own (by kernel_rfl) (by decide) kp4Dst (by decide) (kp4Fr N D3 D4 u0 u1 u2 u5 u6 u7 u8 u11 u12 u13 u14 u15 u16 u17 u18 u19 u20 u21 u22 u23 u24 u25 u26 u27 u28 u29 u30 u31 u32 u40 u41 u42 u43 u44 u45 u46 u47 u48 u49 u50 u51 u52 u53 u54 u55 u56 u57 u58 u59 u60 u61 u62 u63) (fun _ => undef) (fun i => if i = 8 then 7 else i) (by decide) (fun b => b = N) (fun q hq => by subst hq; exact lt_of_block hN) (fun i q => i = 6 ∧ q = N) (fun i q h => h.2) (fun i j q h h' => h.1.trans h'.1.symm)
    (fun s j => s = 8 ∧ j = 7) (fun s j h => by obtain ⟨rfl, rfl⟩ := h; exact ⟨by decide, by decide⟩) (fun s j h => by obtain ⟨rfl, rfl⟩ := h; decide) (kp4T w0.heap.size m0 N D3 n xo xcap fo fcap fs X0 X1 b0) ?_ ?_ ?_
  · intro i v u S w w' hi h hw hw' hz hS
    have ha : Agr w0.heap.size N S w w' := agr_of hw hw' hz hS
    have hi' : i < 9 := hi
    rcases (by omega : i = 0 ∨ i = 1 ∨ i = 2 ∨ i = 3 ∨ i = 4 ∨ i = 5 ∨ i = 6 ∨ i = 7 ∨ i = 8) with rfl | rfl | rfl | rfl | rfl | rfl | rfl | rfl | rfl
    · exact h
    · exact h
    · exact h
    · exact h
    · exact StepV.stab h ha
    · exact TSl.stab h (fun t ht u htu => (by simp only [List.mem_cons, List.not_mem_nil, or_false] at ht; rcases ht with rfl <;> exact StepV.stab htu ha)) ha
    · exact TRes.stab h ha
    · exact TPtr.stab h ha
    · exact TSto.stab h ha
  · intro i hi vs w S hb hp hbd hwr hkl _
    have hi' : i < 9 := hi
    rcases (by omega : i = 0 ∨ i = 1 ∨ i = 2 ∨ i = 3 ∨ i = 4 ∨ i = 5 ∨ i = 6 ∨ i = 7 ∨ i = 8) with rfl | rfl | rfl | rfl | rfl | rfl | rfl | rfl | rfl
    · exact wpOp_of _ rfl rfl (op_makeFunc1 rfl rfl ⟨_, fun _ => False, rfl, rfl, fun _ h => h.elim, fun _ _ h => h.elim, Mod.refl _ _⟩)
    · exact wpOp_of _ rfl rfl (op_fieldT (i := 0) (by decide) rfl rfl ⟨_, fun _ => False, rfl, rfl, fun _ h => h.elim, fun _ _ h => h.elim, Mod.refl _ _⟩)
    · have h1 : vs 34 = .pointer (some ⟨D3, 0, none⟩) := hp 1 (by decide)
      exact wpOp_of _ rfl rfl (op_loadM rfl h1 (cX w hb).1 (cX w hb).2.1 (cX w hb).2.2 ⟨_, fun _ => False, rfl, rfl, fun _ h => h.elim, fun _ _ h => h.elim, Mod.refl _ _⟩)
    · exact wpOp_of _ rfl rfl (op_loadM rfl rfl (cF w hb).1 (cF w hb).2.1 (cF w hb).2.2 ⟨_, fun _ => False, rfl, rfl, fun _ h => h.elim, fun _ _ h => h.elim, Mod.refl _ _⟩)
    · have h3 : vs 36 = .agg #[.int .i64 n, .int .i64 n, .slice fo fs.length fcap] := hp 3 (by decide)
      exact wpOp_of _ rfl rfl (op_call1 enters_mleft rfl h3 (left_any _ _ _ _ _ w) (by rintro e b ⟨rfl, rfl⟩; exact ⟨_, rfl, _, fun q => q = w.heap.size, rfl, st0 _ _ _ _ (heap_new _ _) rfl ((sF.mod oF hb).alloc _) (oF.ok _), fun q hq => .inr (.inl (by subst hq; simp)), fun h => by obtain ⟨s9, h9⟩ := h; exact absurd h9.2 (by decide), Mod.of (box_below w _)⟩))
    · have t0 : StepV w0.heap.size N n 1 X0 n 1 X1 b0 (vs 37) (S 4) w := hp 4 (by decide)
      obtain ⟨F0, c0, e0, _⟩ := id t0
      have hX : ∀ j, j < 1 → ∀ q, ([S 4].getD j (fun _ => False)) q → q < w.heap.size := by
        intro j hj q hq
        rcases (by omega : j = 0) with rfl
        · exact (hbd 4 (by decide) q hq).1
      have t0' : StepV w0.heap.size N n 1 X0 n 1 X1 b0 (.func (.func F0) #[] c0) (fun q => q = w.heap.size ∨ S 4 q) (w.alloc (.cells #[.func (.func F0) #[] c0] 80)) := by
        have z := (t0.stab (w' := w.alloc (.cells #[.func (.func F0) #[] c0] 80)) ⟨(box_below w _).size, fun q hq => (box_below w _).block q (hq.elim (fun h => hX 0 (by decide) q h) (fun h => Nat.lt_of_lt_of_le h.1 hb.size))⟩).mono (S' := fun q => q = w.heap.size ∨ S 4 q) (fun q h => .inr (h))
        rw [e0] at z
        exact z
      have hTS : ∀ (i : Nat) (t : Value → (Nat → Prop) → World → Prop) (u : Value), [StepV w0.heap.size N n 1 X0 n 1 X1 b0][i]? = some t → [.func (.func F0) #[] c0][i]? = some u → t u (fun q => q = w.heap.size ∨ S 4 q) (w.alloc (.cells #[.func (.func F0) #[] c0] 80)) := by
        intro i t u ht hu
        have hi : i < 1 := by have := (List.getElem?_eq_some_iff.1 ht).1; simpa using this
        rcases (by omega : i = 0) with rfl
        · cases ht; cases hu; exact t0'
      exact wpOp_of _ rfl rfl (op_slice1 rfl e0 ⟨_, fun q => q = w.heap.size ∨ S 4 q, rfl, ⟨w.heap.size, [.func (.func F0) #[] c0], rfl, .inl rfl, hb.size, rfl, heap_new _ _, hTS⟩, fun q hq => hq.elim (fun h => .inr (.inl (by subst h; simp))) (fun h => .inl ⟨4, by decide, h⟩), fun h => (by obtain ⟨s9, h9⟩ := h; exact absurd h9.2 (by decide)), Mod.of (box_below w _)⟩)
    · have h0 : vs 33 = .func (.func 41) #[.pointer (some ⟨N, 0, none⟩)] #[] := hp 0 (by decide)
      have h2 : vs 35 = .agg #[.int .i64 n, .int .i64 1, .slice xo X0.length xcap] := hp 2 (by decide)
      have hT : TSl w0.heap.size [StepV w0.heap.size N n 1 X0 n 1 X1 b0] (vs 38) (S 5) w := hp 5 (by decide)
      have hn0 : w.heap[N]? = some (.cells #[.bool m0, .int .i64 0] 77 (0, 0)) := (hwr N rfl (fun j h => ⟨by rw [h.1]; decide, .inl h.1⟩)).trans hN
      exact wpOp_of _ rfl rfl (op_call3 enters_kreck rfl h0 h2 rfl (reck_call 1 (by decide) (by decide) (fun i => [n, n].getD i 0) (fun i => [1, 1].getD i 0) (fun i => [X0, X1].getD i []) (fun i => [b0].getD i false) N m0 w0 w _ _ (S 5) hb hn0 (hT) (fun b hSb => ⟨(hbd 5 (by decide) b hSb).1, fun e => (hbd 5 (by decide) b hSb).2 ⟨rfl, e⟩⟩) hpos (sX.mod oX hb) (fun b hb' => (oX b hb').2)) (by rintro e b ⟨x, S', rfl, hR, hS', hM⟩; exact ⟨_, rfl, _, S', rfl, hR, fun q hq => (hS' q hq).elim (fun h => .inr (.inl h)) (fun h => .inr (.inr ⟨rfl, h⟩)), fun h => by obtain ⟨s9, h9⟩ := h; exact absurd h9.2 (by decide), hM.mono fun q _ hq => .inl ⟨rfl, hq⟩⟩))
    · exact wpOp_of _ rfl rfl (op_alloc24 rfl ⟨_, fun b => b = w.heap.size, rfl, ⟨_, rfl, rfl, hb.size, _, _, _, heap_new _ _⟩, fun b h => .inr (.inl (by subst h; simp)), fun _ b h => .inl (by omega), Mod.of (box_below w _)⟩)
    · obtain ⟨D, hD, hSD, hBD, x, y, z, hbl⟩ : TPtr w0.heap.size (vs 10) (S 7) w := hp 7 (by decide)
      obtain ⟨⟨ao, cap, hf, hs, hso⟩, _⟩ : TRes w0.heap.size N n 1 X1 (m0 || anyB (fun i => [b0].getD i false) 1) (vs 39) (S 6) w := hp 6 (by decide)
      have hne : ∀ q, (Value.slice ao X1.length cap).ownBlock = some q → q ≠ D := fun q hq e => hkl 7 ⟨rfl, rfl⟩ 6 (by decide) (by decide) D hSD (e ▸ (hso q hq).1)
      refine wpOp_of _ rfl rfl (op_store24 rfl rfl hD hf hbl ?_)
      refine ⟨undef, fun q => q = D ∨ S 6 q, rfl, ⟨D, ao, cap, hD, .inl rfl, hBD, put_mat hbl, ((hs.set' (a := ⟨D, 0, none⟩) hne _).set' (a := ⟨D, 1, none⟩) hne _).set' (a := ⟨D, 2, none⟩) hne _, fun q hq => ⟨.inr (hso q hq).1, (hso q hq).2⟩⟩, fun q hq => hq.elim (fun h => .inl ⟨7, by decide, h ▸ hSD⟩) (fun h => .inl ⟨6, by decide, h⟩), fun h => by obtain ⟨s9, h9⟩ := h; exact absurd h9.2 (by decide), ?_⟩
      refine ⟨rfl, rfl, rfl, by simp [World.setCell], fun q hq hq' => ?_⟩
      have hqD : q ≠ D := fun e => hq' (.inr ⟨7, ⟨rfl, rfl⟩, e ▸ hSD⟩)
      rw [Below.heap_setCell _ _ _ _ hqD, Below.heap_setCell _ _ _ _ hqD, Below.heap_setCell _ _ _ _ hqD]
  · intro vs w S hb hT
    obtain ⟨D, ao, cap, h1, _, h3, h4, h5, h6⟩ : TSto w0.heap.size n 1 X1 (vs 10) (S 8) w := hT 8 (by decide) (fun s h => by omega)
    obtain ⟨_, _, h7⟩ : TRes w0.heap.size N n 1 X1 (m0 || anyB (fun i => [b0].getD i false) 1) (vs 39) (S 6) w := hT 6 (by decide) (fun s h => by omega)
    exact hQ vs D ao cap w hb h1 h3 h4 h5 (fun q hq => (h6 q hq).2) h7
end Go.Proofs.Ytiniobcknmaigaa
