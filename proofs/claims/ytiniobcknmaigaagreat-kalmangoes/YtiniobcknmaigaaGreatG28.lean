/-
  Texts joined, in the order in which they stand on one another: KRgt2 KRP4 KRP5.
-/
import Derived.Test.YtiniobcknmaigaaGreatG18
import Derived.Test.YtiniobcknmaigaaGreatG23
import Derived.Test.YtiniobcknmaigaaGreatG26
import Derived.Test.YtiniobcknmaigaaGreatG27
/-
  The contracts of the code's diagonal, and of Right.
-/
namespace Go.Proofs.YtiniobcknmaigaaGreat
open Go.RowKit Go.Sort Qm

set_option maxRecDepth 20000 in
set_option maxHeartbeats 800000 in
theorem kdiag_any (n : Nat) (n1 : 1 ≤ n) (hn : n ≤ 8) (v : Value) (ps : List Int) (hp : ps.length = n * n) (w : World) (hs : Sees w v ps) :
    Calls Tryz.prog 83 #[.agg #[.int .i64 n, .int .i64 n, v]] w fun e b => ∃ v', e = .returned v' ∧ Sees b v' (tab (fun i => ge ps (i * n + i)) n) ∧ New w.heap.size v' ∧ Below w.heap.size w b := by
  obtain ⟨i0, hi0, hz0, hz1, hz2⟩ := info_parts Tryz.info33
  have h64 : n * n ≤ 64 := mul_le_64 hn hn
  have hpos : 0 < n * n := Nat.mul_pos n1 n1
  obtain ⟨ao, cap, rfl⟩ := hs.slice
  obtain ⟨ad, hao, _⟩ := hs.at 0 (by omega)
  subst hao
  obtain ⟨m, hm⟩ : ∃ m, ps.length = m := ⟨_, rfl⟩
  have HM : Hid (ps.length = m) := hm
  have HM2 : Hid (m = n * n) := by rw [← hm]; exact hp
  rw [hm] at hs ⊢
  clear hp
  obtain ⟨W, hW⟩ : ∃ W, w.alloc (.cells #[.int .i64 n, .int .i64 n, .slice (some ad) m cap] 24) = W := ⟨_, rfl⟩
  have x1 := heap_new w (.cells #[.int .i64 n, .int .i64 n, .slice (some ad) m cap] 24)
  have bW := box_below w (.cells #[.int .i64 n, .int .i64 n, .slice (some ad) m cap] 24)
  rw [hW] at x1 bW
  have hsW := hs.below bW
  obtain ⟨c0, c1, c2, _⟩ := mat_cells x1
  clear hm
  have hll := hsW.lt (by rw [HM.out, HM2.out]; exact hpos)
  go_enter Tryz.func83, Tryz.ntmps83
  go_wp2_with (at_make; go_must (refine wpList_make_own _ rfl _ _ 22 rfl W.heap.size 27 i0 (.int .i64 0) 1 Tryz.under22 hi0 hz0 hz1 .i64 .i64 _ n rfl rfl rfl (by rw [hz2]; omega) (by unfold maxLen; omega) (by simp) ?_); intro w1 hown1 hg1; have hb1 := gb_none hg1; clear hg1; obtain ⟨q0, q1, q2, _⟩ := mat_cells (keep hb1 x1))
  go_loopw [3, 10] (fun l i wr => ∃ a : Nat, a ≤ n ∧ i = .int .i64 a ∧ wr.ownsRow W.heap.size 27 1 l a ((tab (fun i => ge ps (i * n + i)) a).map (Value.int .i64)) ∧ Below W.heap.size W wr) (fun _ i _ => n - (intOf i).toNat)
  case atStart => exact ⟨0, Nat.zero_le _, rfl, by simpa [tab_zero] using hown1, hb1⟩
  case round =>
    clear hown1 hb1 q0 q1 q2
    obtain ⟨a, ha, rfl, hown, hb⟩ := hrel
    obtain ⟨q0, q1, q2, _⟩ := mat_cells (keep hb x1)
    by_cases hlt : a < n
    · have pA : a * n + a < m := by rw [HM2.out]; exact at_lt hlt hlt
      have hl2 : (tab (fun i => ge ps (i * n + i)) (a + 1)).map (Value.int .i64) = (tab (fun i => ge ps (i * n + i)) a).map (Value.int .i64) ++ [.int .i64 (ge ps (a * n + a))] := by rw [tab_succ, List.map_append]; rfl
      have HL : Hid ((tab (fun i => ge ps (i * n + i)) (a + 1)).map (Value.int .i64) = (tab (fun i => ge ps (i * n + i)) a).map (Value.int .i64) ++ [.int .i64 (ge ps (a * n + a))]) := hl2
      clear hl2
      have hown' := fun k e => hown.lt k e
      go_wp2
      refine kdg_region (P := w.heap.size) (i := a) (r := n) (c := n) (ad := ad) (m := m) (cap := cap) (q := a * n + a) (B0 := W.heap.size) (a := a) (x := ge ps (a * n + a)) hi0 hz0 hz1 hz2 hown (by omega) hb.size pA (fun v hv => ?_) (fun v => onDiag_any n n a (by omega) hn (some ad) m cap v) ?_
      · have hx : v.heap[w.heap.size]? = _ := (hv.block w.heap.size (lt_of_block (keep hb x1)) (fun e => by have := (hown' _ e).1; have := lt_of_block x1; omega)).trans (keep hb x1)
        obtain ⟨r0, r1, r2, _⟩ := mat_cells hx
        have hsv : Sees v (.slice (some ad) m cap) ps := (hsW.below hb).agree hv.size fun k hk => hv.block k (by have := hll k hk; have := hb.size; omega) (fun e => by have := (hown' _ e).1; have := hll k hk; omega)
        obtain ⟨ad', e1, hc⟩ := hsv.at (a * n + a) (by rw [HM.out]; exact pA)
        injection e1 with e1
        subst e1
        exact ⟨r0, r1, r2, hc⟩
      intro vs wa ma ho
      unfold kdgFr
      have hbE : Below W.heap.size W wa := hb.trans (ma.below hb.size (fun k hk => (hown' k hk).1))
      clear hown ma q0 q1 q2
      go_wp2
      go_roundw
      case rel => exact ⟨a + 1, by omega, by go_num, by rw [HL.out]; exact ho, hbE⟩
      case measure => simp [intOf]; omega
    · have e : a = n := by omega
      subst e
      have hsees := Sees.own hown
      have hnew := New.own hown
      clear hown
      go_wp2
      go_ret
      exact ⟨_, rfl, hsees, hnew.mono bW.size, bt bW hb⟩
end Go.Proofs.YtiniobcknmaigaaGreat

/-
  The code's Predict: f X.
-/
namespace Go.Proofs.YtiniobcknmaigaaGreat
open Go.RowKit Go.Sort Qm

def kp4Ops : Array Oper := #[
    { dst := some 33, op := Op.makeFunc (Fn.func 18) #[Operand.tmp 9] #[], type := 56, pos := "kalman.go:45", after := #[], guard := none },
    { dst := some 34, op := Op.fieldAddr 26 (Operand.tmp 3) 0, type := 0, pos := "kalman.go:45", after := #[], guard := none },
    { dst := some 35, op := Op.load 24 (Operand.tmp 34), type := 24, pos := "kalman.go:45", after := #[{ on := 1, ground := Ground.data }], guard := none },
    { dst := some 36, op := Op.load 24 (Operand.tmp 4), type := 24, pos := "kalman.go:45", after := #[], guard := none },
    { dst := some 37, op := Op.call { callee := Callee.value (Operand.func 19), args := #[Operand.tmp 36], argTypes := #[24] }, type := 58, pos := "kalman.go:45", after := #[{ on := 3, ground := Ground.data }], guard := none },
    { dst := some 38, op := Op.buildSlice 79 1 #[(0, Operand.tmp 37)], type := 79, pos := "kalman.go:45", after := #[{ on := 4, ground := Ground.data }], guard := none },
    { dst := some 39, op := Op.call { callee := Callee.value (Operand.func 17), args := #[Operand.tmp 33, Operand.tmp 35, Operand.tmp 38], argTypes := #[56, 24, 79] }, type := 24, pos := "kalman.go:45", after := #[{ on := 0, ground := Ground.data }, { on := 2, ground := Ground.data }, { on := 5, ground := Ground.data }, { on := 4, ground := Ground.chain }], guard := none },
    { dst := some 10, op := Op.alloc 24, type := 0, pos := "kalman.go:45", after := #[], guard := none },
    { dst := none, op := Op.store 24 (Operand.tmp 10) (Operand.tmp 39), type := 0, pos := "kalman.go:45", after := #[{ on := 7, ground := Ground.data }, { on := 6, ground := Ground.data }, { on := 6, ground := Ground.chain }, { on := 0, ground := Ground.phase }, { on := 1, ground := Ground.phase }, { on := 2, ground := Ground.phase }, { on := 3, ground := Ground.phase }, { on := 4, ground := Ground.phase }, { on := 5, ground := Ground.phase }, { on := 6, ground := Ground.phase }, { on := 7, ground := Ground.phase }], guard := none }]
def kp4Dst (i : Nat) : Nat := [33, 34, 35, 36, 37, 38, 39, 10, 1000].getD i 0
def kp4Fr (N : Nat) (D3 : Nat) (D4 : Nat) (u0 u1 u2 u5 u6 u7 u8 u11 u12 u13 u14 u15 u16 u17 u18 u19 u20 u21 u22 u23 u24 u25 u26 u27 u28 u29 u30 u31 u32 u40 u41 u42 u43 u44 u45 u46 u47 u48 u49 u50 u51 u52 u53 u54 u55 u56 u57 u58 u59 u60 u61 u62 u63 : Value) (vs : Nat → Value) : Act := ⟨#[u0, u1, u2, .pointer (some ⟨D3, 0, none⟩), .pointer (some ⟨D4, 0, none⟩), u5, u6, u7, u8, .pointer (some ⟨N, 0, none⟩), vs 10, u11, u12, u13, u14, u15, u16, u17, u18, u19, u20, u21, u22, u23, u24, u25, u26, u27, u28, u29, u30, u31, u32, vs 33, vs 34, vs 35, vs 36, vs 37, vs 38, vs 39, u40, u41, u42, u43, u44, u45, u46, u47, u48, u49, u50, u51, u52, u53, u54, u55, u56, u57, u58, u59, u60, u61, u62, u63], []⟩
def kp4T (B : Nat) (m0 : Bool) (N : Nat) (D3 : Nat) (n : Nat) (xo : Option Addr) (xcap : Nat) (fo : Option Addr) (fcap : Nat) (fs : List Int) (X0 X1 : List Int) (b0 : Bool) : Nat → Value → Value → (Nat → Prop) → World → Prop
  | 0, v, _, _, _ => v = .func (.func 18) #[.pointer (some ⟨N, 0, none⟩)] #[]
  | 1, v, _, _, _ => v = .pointer (some ⟨D3, 0, none⟩)
  | 2, v, _, _, _ => v = .agg #[.int .i64 n, .int .i64 1, .slice xo X0.length xcap]
  | 3, v, _, _, _ => v = .agg #[.int .i64 n, .int .i64 n, .slice fo fs.length fcap]
  | 4, v, _, S, w => StepV B N n 1 X0 n 1 X1 b0 v S w
  | 5, v, _, S, w => TSl B [StepV B N n 1 X0 n 1 X1 b0] v S w
  | 6, v, _, S, w => TRes B N n 1 X1 (m0 || anyB (fun i => [b0].getD i false) 1) v S w
  | 7, v, _, S, w => TPtr B v S w
  | 8, _, u, S, w => TSto B n 1 X1 u S w
  | _, _, _, _, _ => True
set_option maxRecDepth 40000 in
set_option maxHeartbeats 400000 in
theorem kp4_region {Q : Exit → Act → World → Prop} {w0 : World} {m0 : Bool} {N : Nat} {D3 : Nat} {D4 : Nat} {n : Nat} {xo : Option Addr} {xcap : Nat} {fo : Option Addr} {fcap : Nat} {fs : List Int} {u0 u1 u2 u5 u6 u7 u8 u11 u12 u13 u14 u15 u16 u17 u18 u19 u20 u21 u22 u23 u24 u25 u26 u27 u28 u29 u30 u31 u32 u40 u41 u42 u43 u44 u45 u46 u47 u48 u49 u50 u51 u52 u53 u54 u55 u56 u57 u58 u59 u60 u61 u62 u63 : Value} (X0 X1 : List Int) (b0 : Bool) (hN : w0.heap[N]? = some (.cells #[.bool m0, .int .i64 0] 54 (0, 0))) (hpos : ∀ i, i ≤ 1 → 0 < ([X0, X1].getD i []).length)
    (cX : ∀ w, Mod (fun b => b = N) w0 w → w.cell? ⟨D3, 0, none⟩ = some (.int .i64 n) ∧ w.cell? ⟨D3, 1, none⟩ = some (.int .i64 1) ∧ w.cell? ⟨D3, 2, none⟩ = some (.slice xo X0.length xcap))
    (cF : ∀ w, Mod (fun b => b = N) w0 w → w.cell? ⟨D4, 0, none⟩ = some (.int .i64 n) ∧ w.cell? ⟨D4, 1, none⟩ = some (.int .i64 n) ∧ w.cell? ⟨D4, 2, none⟩ = some (.slice fo fs.length fcap))
    (sX : Sees w0 (.slice xo X0.length xcap) X0) (oX : Old w0.heap.size N (.slice xo X0.length xcap))
    (sF : Sees w0 (.slice fo fs.length fcap) fs) (oF : Old w0.heap.size N (.slice fo fs.length fcap))
    (st0 : ∀ w A va S, w.heap[A]? = some (.cells #[.int .i64 n, .int .i64 n, va] 24 (0, 0)) → S A → Sees w va fs → OkS w0.heap.size N S va → StepV w0.heap.size N n 1 X0 n 1 X1 b0 (.func (.func 48) #[] #[.pointer (some ⟨A, 0, none⟩)]) S w)
    (hQ : ∀ vs D ao cap w, Mod (fun b => b = N) w0 w → vs 10 = .pointer (some ⟨D, 0, none⟩) → w0.heap.size ≤ D → w.heap[D]? = some (.cells #[.int .i64 n, .int .i64 1, .slice ao X1.length cap] 24 (0, 0)) → Sees w (.slice ao X1.length cap) X1 → (∀ q, (Value.slice ao X1.length cap).ownBlock = some q → w0.heap.size ≤ q) → w.heap[N]? = some (.cells #[.bool (m0 || anyB (fun i => [b0].getD i false) 1), .int .i64 0] 54 (0, 0)) → Q .normal (kp4Fr N D3 D4 u0 u1 u2 u5 u6 u7 u8 u11 u12 u13 u14 u15 u16 u17 u18 u19 u20 u21 u22 u23 u24 u25 u26 u27 u28 u29 u30 u31 u32 u40 u41 u42 u43 u44 u45 u46 u47 u48 u49 u50 u51 u52 u53 u54 u55 u56 u57 u58 u59 u60 u61 u62 u63 vs) w) :
    (Code.region 4 kp4Ops true).wp Tryz.prog Q (kp4Fr N D3 D4 u0 u1 u2 u5 u6 u7 u8 u11 u12 u13 u14 u15 u16 u17 u18 u19 u20 u21 u22 u23 u24 u25 u26 u27 u28 u29 u30 u31 u32 u40 u41 u42 u43 u44 u45 u46 u47 u48 u49 u50 u51 u52 u53 u54 u55 u56 u57 u58 u59 u60 u61 u62 u63 (fun _ => undef)) w0 := by
  refine wp_region_own (by kernel_rfl) (by decide) kp4Dst (by decide) (kp4Fr N D3 D4 u0 u1 u2 u5 u6 u7 u8 u11 u12 u13 u14 u15 u16 u17 u18 u19 u20 u21 u22 u23 u24 u25 u26 u27 u28 u29 u30 u31 u32 u40 u41 u42 u43 u44 u45 u46 u47 u48 u49 u50 u51 u52 u53 u54 u55 u56 u57 u58 u59 u60 u61 u62 u63) (fun _ => undef) (fun i => if i = 8 then 7 else i) (by decide) (fun b => b = N) (fun q hq => by subst hq; exact lt_of_block hN) (fun i q => i = 6 ∧ q = N) (fun i q h => h.2) (fun i j q h h' => h.1.trans h'.1.symm)
    (fun s j => s = 8 ∧ j = 7) (fun s j h => by obtain ⟨rfl, rfl⟩ := h; exact ⟨by decide, by decide⟩) (fun s j h => by obtain ⟨rfl, rfl⟩ := h; decide) (kp4T w0.heap.size m0 N D3 n xo xcap fo fcap fs X0 X1 b0) ?_ ?_ ?_
  · intro i v u S w w' hi h hw hw' hz hS
    have ha : Agr w0.heap.size N S w w' := agr_of hw hw' hz hS
    have hi' : i < 9 := hi
    rcases (by omega : i = 0 ∨ i = 1 ∨ i = 2 ∨ i = 3 ∨ i = 4 ∨ i = 5 ∨ i = 6 ∨ i = 7 ∨ i = 8) with rfl | rfl | rfl | rfl | rfl | rfl | rfl | rfl | rfl
    · exact h
    · exact h
    · exact h
    · exact h
    · exact StepV.stab h ha
    · exact TSl.stab h (fun t ht u htu => (by simp only [List.mem_cons, List.not_mem_nil, or_false] at ht; rcases ht with rfl <;> exact StepV.stab htu ha)) ha
    · exact TRes.stab h ha
    · exact TPtr.stab h ha
    · exact TSto.stab h ha
  · intro i hi vs w S hb hp hbd hwr hkl _
    have hi' : i < 9 := hi
    rcases (by omega : i = 0 ∨ i = 1 ∨ i = 2 ∨ i = 3 ∨ i = 4 ∨ i = 5 ∨ i = 6 ∨ i = 7 ∨ i = 8) with rfl | rfl | rfl | rfl | rfl | rfl | rfl | rfl | rfl
    · exact wpOp_of _ rfl rfl (op_makeFunc1 rfl rfl ⟨_, fun _ => False, rfl, rfl, fun _ h => h.elim, fun _ _ h => h.elim, Mod.refl _ _⟩)
    · exact wpOp_of _ rfl rfl (op_fieldT (i := 0) (by decide) rfl rfl ⟨_, fun _ => False, rfl, rfl, fun _ h => h.elim, fun _ _ h => h.elim, Mod.refl _ _⟩)
    · have h1 : vs 34 = .pointer (some ⟨D3, 0, none⟩) := hp 1 (by decide)
      exact wpOp_of _ rfl rfl (op_loadM rfl h1 (cX w hb).1 (cX w hb).2.1 (cX w hb).2.2 ⟨_, fun _ => False, rfl, rfl, fun _ h => h.elim, fun _ _ h => h.elim, Mod.refl _ _⟩)
    · exact wpOp_of _ rfl rfl (op_loadM rfl rfl (cF w hb).1 (cF w hb).2.1 (cF w hb).2.2 ⟨_, fun _ => False, rfl, rfl, fun _ h => h.elim, fun _ _ h => h.elim, Mod.refl _ _⟩)
    · have h3 : vs 36 = .agg #[.int .i64 n, .int .i64 n, .slice fo fs.length fcap] := hp 3 (by decide)
      exact wpOp_of _ rfl rfl (op_call1 enters_mleft rfl h3 (left_any _ _ _ _ _ w) (by rintro e b ⟨rfl, rfl⟩; exact ⟨_, rfl, _, fun q => q = w.heap.size, rfl, st0 _ _ _ _ (heap_new _ _) rfl ((sF.mod oF hb).alloc _) (oF.ok _), fun q hq => .inr (.inl (by subst hq; simp)), fun h => by obtain ⟨s9, h9⟩ := h; exact absurd h9.2 (by decide), Mod.of (box_below w _)⟩))
    · have t0 : StepV w0.heap.size N n 1 X0 n 1 X1 b0 (vs 37) (S 4) w := hp 4 (by decide)
      obtain ⟨F0, c0, e0, _⟩ := id t0
      have hX : ∀ j, j < 1 → ∀ q, ([S 4].getD j (fun _ => False)) q → q < w.heap.size := by
        intro j hj q hq
        rcases (by omega : j = 0) with rfl
        · exact (hbd 4 (by decide) q hq).1
      have t0' : StepV w0.heap.size N n 1 X0 n 1 X1 b0 (.func (.func F0) #[] c0) (fun q => q = w.heap.size ∨ S 4 q) (w.alloc (.cells #[.func (.func F0) #[] c0] 58)) := by
        have z := (t0.stab (w' := w.alloc (.cells #[.func (.func F0) #[] c0] 58)) ⟨(box_below w _).size, fun q hq => (box_below w _).block q (hq.elim (fun h => hX 0 (by decide) q h) (fun h => Nat.lt_of_lt_of_le h.1 hb.size))⟩).mono (S' := fun q => q = w.heap.size ∨ S 4 q) (fun q h => .inr (h))
        rw [e0] at z
        exact z
      have hTS : ∀ (i : Nat) (t : Value → (Nat → Prop) → World → Prop) (u : Value), [StepV w0.heap.size N n 1 X0 n 1 X1 b0][i]? = some t → [.func (.func F0) #[] c0][i]? = some u → t u (fun q => q = w.heap.size ∨ S 4 q) (w.alloc (.cells #[.func (.func F0) #[] c0] 58)) := by
        intro i t u ht hu
        have hi : i < 1 := by have := (List.getElem?_eq_some_iff.1 ht).1; simpa using this
        rcases (by omega : i = 0) with rfl
        · cases ht; cases hu; exact t0'
      exact wpOp_of _ rfl rfl (op_slice1 rfl e0 ⟨_, fun q => q = w.heap.size ∨ S 4 q, rfl, ⟨w.heap.size, [.func (.func F0) #[] c0], rfl, .inl rfl, hb.size, rfl, heap_new _ _, hTS⟩, fun q hq => hq.elim (fun h => .inr (.inl (by subst h; simp))) (fun h => .inl ⟨4, by decide, h⟩), fun h => (by obtain ⟨s9, h9⟩ := h; exact absurd h9.2 (by decide)), Mod.of (box_below w _)⟩)
    · have h0 : vs 33 = .func (.func 18) #[.pointer (some ⟨N, 0, none⟩)] #[] := hp 0 (by decide)
      have h2 : vs 35 = .agg #[.int .i64 n, .int .i64 1, .slice xo X0.length xcap] := hp 2 (by decide)
      have hT : TSl w0.heap.size [StepV w0.heap.size N n 1 X0 n 1 X1 b0] (vs 38) (S 5) w := hp 5 (by decide)
      have hn0 : w.heap[N]? = some (.cells #[.bool m0, .int .i64 0] 54 (0, 0)) := (hwr N rfl (fun j h => ⟨by rw [h.1]; decide, .inl h.1⟩)).trans hN
      exact wpOp_of _ rfl rfl (op_call3 enters_kreck rfl h0 h2 rfl (reck_call 1 (by decide) (by decide) (fun i => [n, n].getD i 0) (fun i => [1, 1].getD i 0) (fun i => [X0, X1].getD i []) (fun i => [b0].getD i false) N m0 w0 w _ _ (S 5) hb hn0 (hT) (fun b hSb => ⟨(hbd 5 (by decide) b hSb).1, fun e => (hbd 5 (by decide) b hSb).2 ⟨rfl, e⟩⟩) hpos (sX.mod oX hb) (fun b hb' => (oX b hb').2)) (by rintro e b ⟨x, S', rfl, hR, hS', hM⟩; exact ⟨_, rfl, _, S', rfl, hR, fun q hq => (hS' q hq).elim (fun h => .inr (.inl h)) (fun h => .inr (.inr ⟨rfl, h⟩)), fun h => by obtain ⟨s9, h9⟩ := h; exact absurd h9.2 (by decide), hM.mono fun q _ hq => .inl ⟨rfl, hq⟩⟩))
    · exact wpOp_of _ rfl rfl (op_alloc24 rfl ⟨_, fun b => b = w.heap.size, rfl, ⟨_, rfl, rfl, hb.size, _, _, _, heap_new _ _⟩, fun b h => .inr (.inl (by subst h; simp)), fun _ b h => .inl (by omega), Mod.of (box_below w _)⟩)
    · obtain ⟨D, hD, hSD, hBD, x, y, z, hbl⟩ : TPtr w0.heap.size (vs 10) (S 7) w := hp 7 (by decide)
      obtain ⟨⟨ao, cap, hf, hs, hso⟩, _⟩ : TRes w0.heap.size N n 1 X1 (m0 || anyB (fun i => [b0].getD i false) 1) (vs 39) (S 6) w := hp 6 (by decide)
      have hne : ∀ q, (Value.slice ao X1.length cap).ownBlock = some q → q ≠ D := fun q hq e => hkl 7 ⟨rfl, rfl⟩ 6 (by decide) (by decide) D hSD (e ▸ (hso q hq).1)
      refine wpOp_of _ rfl rfl (op_store24 rfl rfl hD hf hbl ?_)
      refine ⟨undef, fun q => q = D ∨ S 6 q, rfl, ⟨D, ao, cap, hD, .inl rfl, hBD, put_mat hbl, ((hs.set' (a := ⟨D, 0, none⟩) hne _).set' (a := ⟨D, 1, none⟩) hne _).set' (a := ⟨D, 2, none⟩) hne _, fun q hq => ⟨.inr (hso q hq).1, (hso q hq).2⟩⟩, fun q hq => hq.elim (fun h => .inl ⟨7, by decide, h ▸ hSD⟩) (fun h => .inl ⟨6, by decide, h⟩), fun h => by obtain ⟨s9, h9⟩ := h; exact absurd h9.2 (by decide), ?_⟩
      refine ⟨rfl, rfl, rfl, by simp [World.setCell], fun q hq hq' => ?_⟩
      have hqD : q ≠ D := fun e => hq' (.inr ⟨7, ⟨rfl, rfl⟩, e ▸ hSD⟩)
      rw [Below.heap_setCell _ _ _ _ hqD, Below.heap_setCell _ _ _ _ hqD, Below.heap_setCell _ _ _ _ hqD]
  · intro vs w S hb hT
    obtain ⟨D, ao, cap, h1, _, h3, h4, h5, h6⟩ : TSto w0.heap.size n 1 X1 (vs 10) (S 8) w := hT 8 (by decide) (fun s h => by omega)
    obtain ⟨_, _, h7⟩ : TRes w0.heap.size N n 1 X1 (m0 || anyB (fun i => [b0].getD i false) 1) (vs 39) (S 6) w := hT 6 (by decide) (fun s h => by omega)
    exact hQ vs D ao cap w hb h1 h3 h4 h5 (fun q hq => (h6 q hq).2) h7
end Go.Proofs.YtiniobcknmaigaaGreat

/-
  The code's Predict: f P f', and q.
-/
namespace Go.Proofs.YtiniobcknmaigaaGreat
open Go.RowKit Go.Sort Qm

def kp5Ops : Array Oper := #[
    { dst := some 40, op := Op.makeFunc (Fn.func 18) #[Operand.tmp 9] #[], type := 56, pos := "kalman.go:46", after := #[], guard := none },
    { dst := some 41, op := Op.fieldAddr 26 (Operand.tmp 3) 1, type := 0, pos := "kalman.go:46", after := #[], guard := none },
    { dst := some 42, op := Op.load 24 (Operand.tmp 41), type := 24, pos := "kalman.go:46", after := #[{ on := 1, ground := Ground.data }], guard := none },
    { dst := some 43, op := Op.load 24 (Operand.tmp 4), type := 24, pos := "kalman.go:46", after := #[], guard := none },
    { dst := some 44, op := Op.call { callee := Callee.value (Operand.func 19), args := #[Operand.tmp 43], argTypes := #[24] }, type := 58, pos := "kalman.go:46", after := #[{ on := 3, ground := Ground.data }], guard := none },
    { dst := some 45, op := Op.load 24 (Operand.tmp 4), type := 24, pos := "kalman.go:46", after := #[], guard := none },
    { dst := some 46, op := Op.call { callee := Callee.value (Operand.func 21), args := #[Operand.tmp 45], argTypes := #[24] }, type := 24, pos := "kalman.go:46", after := #[{ on := 5, ground := Ground.data }, { on := 4, ground := Ground.chain }], guard := none },
    { dst := some 47, op := Op.call { callee := Callee.value (Operand.func 20), args := #[Operand.tmp 46], argTypes := #[24] }, type := 58, pos := "kalman.go:46", after := #[{ on := 6, ground := Ground.data }, { on := 6, ground := Ground.chain }], guard := none },
    { dst := some 48, op := Op.load 24 (Operand.tmp 5), type := 24, pos := "kalman.go:46", after := #[], guard := none },
    { dst := some 49, op := Op.call { callee := Callee.value (Operand.func 22), args := #[Operand.tmp 48], argTypes := #[24] }, type := 58, pos := "kalman.go:46", after := #[{ on := 8, ground := Ground.data }, { on := 7, ground := Ground.chain }], guard := none },
    { dst := some 50, op := Op.buildSlice 79 3 #[(0, Operand.tmp 44), (1, Operand.tmp 47), (2, Operand.tmp 49)], type := 79, pos := "kalman.go:46", after := #[{ on := 4, ground := Ground.data }, { on := 7, ground := Ground.data }, { on := 9, ground := Ground.data }], guard := none },
    { dst := some 51, op := Op.call { callee := Callee.value (Operand.func 17), args := #[Operand.tmp 40, Operand.tmp 42, Operand.tmp 50], argTypes := #[56, 24, 79] }, type := 24, pos := "kalman.go:46", after := #[{ on := 0, ground := Ground.data }, { on := 2, ground := Ground.data }, { on := 10, ground := Ground.data }, { on := 9, ground := Ground.chain }], guard := none },
    { dst := some 11, op := Op.alloc 24, type := 0, pos := "kalman.go:46", after := #[], guard := none },
    { dst := none, op := Op.store 24 (Operand.tmp 11) (Operand.tmp 51), type := 0, pos := "kalman.go:46", after := #[{ on := 12, ground := Ground.data }, { on := 11, ground := Ground.data }, { on := 11, ground := Ground.chain }, { on := 0, ground := Ground.phase }, { on := 1, ground := Ground.phase }, { on := 2, ground := Ground.phase }, { on := 3, ground := Ground.phase }, { on := 4, ground := Ground.phase }, { on := 5, ground := Ground.phase }, { on := 6, ground := Ground.phase }, { on := 7, ground := Ground.phase }, { on := 8, ground := Ground.phase }, { on := 9, ground := Ground.phase }, { on := 10, ground := Ground.phase }, { on := 11, ground := Ground.phase }, { on := 12, ground := Ground.phase }], guard := none }]
def kp5Dst (i : Nat) : Nat := [40, 41, 42, 43, 44, 45, 46, 47, 48, 49, 50, 51, 11, 1000].getD i 0
def kp5Fr (N : Nat) (D3 : Nat) (D4 : Nat) (D5 : Nat) (u0 u1 u2 u6 u7 u8 u10 u12 u13 u14 u15 u16 u17 u18 u19 u20 u21 u22 u23 u24 u25 u26 u27 u28 u29 u30 u31 u32 u33 u34 u35 u36 u37 u38 u39 u52 u53 u54 u55 u56 u57 u58 u59 u60 u61 u62 u63 : Value) (vs : Nat → Value) : Act := ⟨#[u0, u1, u2, .pointer (some ⟨D3, 0, none⟩), .pointer (some ⟨D4, 0, none⟩), .pointer (some ⟨D5, 0, none⟩), u6, u7, u8, .pointer (some ⟨N, 0, none⟩), u10, vs 11, u12, u13, u14, u15, u16, u17, u18, u19, u20, u21, u22, u23, u24, u25, u26, u27, u28, u29, u30, u31, u32, u33, u34, u35, u36, u37, u38, u39, vs 40, vs 41, vs 42, vs 43, vs 44, vs 45, vs 46, vs 47, vs 48, vs 49, vs 50, vs 51, u52, u53, u54, u55, u56, u57, u58, u59, u60, u61, u62, u63], []⟩
def kp5T (B : Nat) (m0 : Bool) (N : Nat) (D3 : Nat) (n : Nat) (po : Option Addr) (pcap : Nat) (fo : Option Addr) (fcap : Nat) (qo : Option Addr) (qcap : Nat) (fs : List Int) (qs : List Int) (ts : List Int) (X0 X1 X2 X3 : List Int) (b0 b1 b2 : Bool) : Nat → Value → Value → (Nat → Prop) → World → Prop
  | 0, v, _, _, _ => v = .func (.func 18) #[.pointer (some ⟨N, 0, none⟩)] #[]
  | 1, v, _, _, _ => v = .pointer (some ⟨D3, 3, none⟩)
  | 2, v, _, _, _ => v = .agg #[.int .i64 n, .int .i64 n, .slice po X0.length pcap]
  | 3, v, _, _, _ => v = .agg #[.int .i64 n, .int .i64 n, .slice fo fs.length fcap]
  | 4, v, _, S, w => StepV B N n n X0 n n X1 b0 v S w
  | 5, v, _, _, _ => v = .agg #[.int .i64 n, .int .i64 n, .slice fo fs.length fcap]
  | 6, v, _, S, w => TMat B n n ts v S w
  | 7, v, _, S, w => StepV B N n n X1 n n X2 b1 v S w
  | 8, v, _, _, _ => v = .agg #[.int .i64 n, .int .i64 n, .slice qo qs.length qcap]
  | 9, v, _, S, w => StepV B N n n X2 n n X3 b2 v S w
  | 10, v, _, S, w => TSl B [StepV B N n n X0 n n X1 b0, StepV B N n n X1 n n X2 b1, StepV B N n n X2 n n X3 b2] v S w
  | 11, v, _, S, w => TRes B N n n X3 (m0 || anyB (fun i => [b0, b1, b2].getD i false) 3) v S w
  | 12, v, _, S, w => TPtr B v S w
  | 13, _, u, S, w => TSto B n n X3 u S w
  | _, _, _, _, _ => True
set_option maxRecDepth 40000 in
set_option maxHeartbeats 400000 in
theorem kp5_region {Q : Exit → Act → World → Prop} {w0 : World} {m0 : Bool} {N : Nat} {D3 : Nat} {D4 : Nat} {D5 : Nat} {n : Nat} {po : Option Addr} {pcap : Nat} {fo : Option Addr} {fcap : Nat} {qo : Option Addr} {qcap : Nat} {fs : List Int} {qs : List Int} {ts : List Int} {u0 u1 u2 u6 u7 u8 u10 u12 u13 u14 u15 u16 u17 u18 u19 u20 u21 u22 u23 u24 u25 u26 u27 u28 u29 u30 u31 u32 u33 u34 u35 u36 u37 u38 u39 u52 u53 u54 u55 u56 u57 u58 u59 u60 u61 u62 u63 : Value} (X0 X1 X2 X3 : List Int) (b0 b1 b2 : Bool) (hN : w0.heap[N]? = some (.cells #[.bool m0, .int .i64 0] 54 (0, 0))) (hpos : ∀ i, i ≤ 3 → 0 < ([X0, X1, X2, X3].getD i []).length)
    (cP : ∀ w, Mod (fun b => b = N) w0 w → w.cell? ⟨D3, 3, none⟩ = some (.int .i64 n) ∧ w.cell? ⟨D3, 4, none⟩ = some (.int .i64 n) ∧ w.cell? ⟨D3, 5, none⟩ = some (.slice po X0.length pcap))
    (cF : ∀ w, Mod (fun b => b = N) w0 w → w.cell? ⟨D4, 0, none⟩ = some (.int .i64 n) ∧ w.cell? ⟨D4, 1, none⟩ = some (.int .i64 n) ∧ w.cell? ⟨D4, 2, none⟩ = some (.slice fo fs.length fcap))
    (cQ : ∀ w, Mod (fun b => b = N) w0 w → w.cell? ⟨D5, 0, none⟩ = some (.int .i64 n) ∧ w.cell? ⟨D5, 1, none⟩ = some (.int .i64 n) ∧ w.cell? ⟨D5, 2, none⟩ = some (.slice qo qs.length qcap))
    (sP : Sees w0 (.slice po X0.length pcap) X0) (oP : Old w0.heap.size N (.slice po X0.length pcap))
    (sF : Sees w0 (.slice fo fs.length fcap) fs) (oF : Old w0.heap.size N (.slice fo fs.length fcap))
    (sQ : Sees w0 (.slice qo qs.length qcap) qs) (oQ : Old w0.heap.size N (.slice qo qs.length qcap))
    (kT46 : ∀ w, Mod (fun b => b = N) w0 w → Calls Tryz.prog 21 #[.agg #[.int .i64 n, .int .i64 n, .slice fo fs.length fcap]] w fun e b => ∃ v, e = .returned (.agg #[.int .i64 n, .int .i64 n, v]) ∧ Sees b v ts ∧ New w.heap.size v ∧ Below w.heap.size w b) (z46 : 0 < ts.length)
    (st0 : ∀ w A va S, w.heap[A]? = some (.cells #[.int .i64 n, .int .i64 n, va] 24 (0, 0)) → S A → Sees w va fs → OkS w0.heap.size N S va → StepV w0.heap.size N n n X0 n n X1 b0 (.func (.func 48) #[] #[.pointer (some ⟨A, 0, none⟩)]) S w)
    (st1 : ∀ w A va S, w.heap[A]? = some (.cells #[.int .i64 n, .int .i64 n, va] 24 (0, 0)) → S A → Sees w va ts → OkS w0.heap.size N S va → StepV w0.heap.size N n n X1 n n X2 b1 (.func (.func 50) #[] #[.pointer (some ⟨A, 0, none⟩)]) S w)
    (st2 : ∀ w A va S, w.heap[A]? = some (.cells #[.int .i64 n, .int .i64 n, va] 24 (0, 0)) → S A → Sees w va qs → OkS w0.heap.size N S va → StepV w0.heap.size N n n X2 n n X3 b2 (.func (.func 57) #[] #[.pointer (some ⟨A, 0, none⟩)]) S w)
    (hQ : ∀ vs D ao cap w, Mod (fun b => b = N) w0 w → vs 11 = .pointer (some ⟨D, 0, none⟩) → w0.heap.size ≤ D → w.heap[D]? = some (.cells #[.int .i64 n, .int .i64 n, .slice ao X3.length cap] 24 (0, 0)) → Sees w (.slice ao X3.length cap) X3 → (∀ q, (Value.slice ao X3.length cap).ownBlock = some q → w0.heap.size ≤ q) → w.heap[N]? = some (.cells #[.bool (m0 || anyB (fun i => [b0, b1, b2].getD i false) 3), .int .i64 0] 54 (0, 0)) → Q .normal (kp5Fr N D3 D4 D5 u0 u1 u2 u6 u7 u8 u10 u12 u13 u14 u15 u16 u17 u18 u19 u20 u21 u22 u23 u24 u25 u26 u27 u28 u29 u30 u31 u32 u33 u34 u35 u36 u37 u38 u39 u52 u53 u54 u55 u56 u57 u58 u59 u60 u61 u62 u63 vs) w) :
    (Code.region 5 kp5Ops true).wp Tryz.prog Q (kp5Fr N D3 D4 D5 u0 u1 u2 u6 u7 u8 u10 u12 u13 u14 u15 u16 u17 u18 u19 u20 u21 u22 u23 u24 u25 u26 u27 u28 u29 u30 u31 u32 u33 u34 u35 u36 u37 u38 u39 u52 u53 u54 u55 u56 u57 u58 u59 u60 u61 u62 u63 (fun _ => undef)) w0 := by
  refine wp_region_own (by kernel_rfl) (by decide) kp5Dst (by decide) (kp5Fr N D3 D4 D5 u0 u1 u2 u6 u7 u8 u10 u12 u13 u14 u15 u16 u17 u18 u19 u20 u21 u22 u23 u24 u25 u26 u27 u28 u29 u30 u31 u32 u33 u34 u35 u36 u37 u38 u39 u52 u53 u54 u55 u56 u57 u58 u59 u60 u61 u62 u63) (fun _ => undef) (fun i => if i = 13 then 12 else i) (by decide) (fun b => b = N) (fun q hq => by subst hq; exact lt_of_block hN) (fun i q => i = 11 ∧ q = N) (fun i q h => h.2) (fun i j q h h' => h.1.trans h'.1.symm)
    (fun s j => s = 13 ∧ j = 12) (fun s j h => by obtain ⟨rfl, rfl⟩ := h; exact ⟨by decide, by decide⟩) (fun s j h => by obtain ⟨rfl, rfl⟩ := h; decide) (kp5T w0.heap.size m0 N D3 n po pcap fo fcap qo qcap fs qs ts X0 X1 X2 X3 b0 b1 b2) ?_ ?_ ?_
  · intro i v u S w w' hi h hw hw' hz hS
    have ha : Agr w0.heap.size N S w w' := agr_of hw hw' hz hS
    have hi' : i < 14 := hi
    rcases (by omega : i = 0 ∨ i = 1 ∨ i = 2 ∨ i = 3 ∨ i = 4 ∨ i = 5 ∨ i = 6 ∨ i = 7 ∨ i = 8 ∨ i = 9 ∨ i = 10 ∨ i = 11 ∨ i = 12 ∨ i = 13) with rfl | rfl | rfl | rfl | rfl | rfl | rfl | rfl | rfl | rfl | rfl | rfl | rfl | rfl
    · exact h
    · exact h
    · exact h
    · exact h
    · exact StepV.stab h ha
    · exact h
    · exact TMat.stab h ha
    · exact StepV.stab h ha
    · exact h
    · exact StepV.stab h ha
    · exact TSl.stab h (fun t ht u htu => (by simp only [List.mem_cons, List.not_mem_nil, or_false] at ht; rcases ht with rfl | rfl | rfl <;> exact StepV.stab htu ha)) ha
    · exact TRes.stab h ha
    · exact TPtr.stab h ha
    · exact TSto.stab h ha
  · intro i hi vs w S hb hp hbd hwr hkl _
    have hi' : i < 14 := hi
    rcases (by omega : i = 0 ∨ i = 1 ∨ i = 2 ∨ i = 3 ∨ i = 4 ∨ i = 5 ∨ i = 6 ∨ i = 7 ∨ i = 8 ∨ i = 9 ∨ i = 10 ∨ i = 11 ∨ i = 12 ∨ i = 13) with rfl | rfl | rfl | rfl | rfl | rfl | rfl | rfl | rfl | rfl | rfl | rfl | rfl | rfl
    · exact wpOp_of _ rfl rfl (op_makeFunc1 rfl rfl ⟨_, fun _ => False, rfl, rfl, fun _ h => h.elim, fun _ _ h => h.elim, Mod.refl _ _⟩)
    · exact wpOp_of _ rfl rfl (op_fieldT (i := 1) (by decide) rfl rfl ⟨_, fun _ => False, rfl, rfl, fun _ h => h.elim, fun _ _ h => h.elim, Mod.refl _ _⟩)
    · have h1 : vs 41 = .pointer (some ⟨D3, 3, none⟩) := hp 1 (by decide)
      exact wpOp_of _ rfl rfl (op_loadM rfl h1 (cP w hb).1 (cP w hb).2.1 (cP w hb).2.2 ⟨_, fun _ => False, rfl, rfl, fun _ h => h.elim, fun _ _ h => h.elim, Mod.refl _ _⟩)
    · exact wpOp_of _ rfl rfl (op_loadM rfl rfl (cF w hb).1 (cF w hb).2.1 (cF w hb).2.2 ⟨_, fun _ => False, rfl, rfl, fun _ h => h.elim, fun _ _ h => h.elim, Mod.refl _ _⟩)
    · have h3 : vs 43 = .agg #[.int .i64 n, .int .i64 n, .slice fo fs.length fcap] := hp 3 (by decide)
      exact wpOp_of _ rfl rfl (op_call1 enters_mleft rfl h3 (left_any _ _ _ _ _ w) (by rintro e b ⟨rfl, rfl⟩; exact ⟨_, rfl, _, fun q => q = w.heap.size, rfl, st0 _ _ _ _ (heap_new _ _) rfl ((sF.mod oF hb).alloc _) (oF.ok _), fun q hq => .inr (.inl (by subst hq; simp)), fun h => by obtain ⟨s9, h9⟩ := h; exact absurd h9.2 (by decide), Mod.of (box_below w _)⟩))
    · exact wpOp_of _ rfl rfl (op_loadM rfl rfl (cF w hb).1 (cF w hb).2.1 (cF w hb).2.2 ⟨_, fun _ => False, rfl, rfl, fun _ h => h.elim, fun _ _ h => h.elim, Mod.refl _ _⟩)
    · have h5 : vs 45 = .agg #[.int .i64 n, .int .i64 n, .slice fo fs.length fcap] := hp 5 (by decide)
      exact wpOp_of _ rfl rfl (op_call1 enters_trans rfl h5 (kT46 w hb) (by rintro e b ⟨v, rfl, s', n', b'⟩; have hl := s'.lt z46; obtain ⟨so, sc, rfl⟩ := s'.slice; exact ⟨_, rfl, _, fun q => (Value.slice so ts.length sc).ownBlock = some q, rfl, ⟨so, sc, rfl, s', fun q hq => ⟨hq, Nat.le_trans hb.size (n' q hq)⟩⟩, fun q hq => .inr (.inl ⟨n' q hq, hl q hq⟩), fun h => by obtain ⟨s9, h9⟩ := h; exact absurd h9.2 (by decide), Mod.of b'⟩))
    · obtain ⟨so, sc, h6, s6, n6⟩ : TMat w0.heap.size n n ts (vs 46) (S 6) w := hp 6 (by decide)
      exact wpOp_of _ rfl rfl (op_call1 enters_mrght rfl h6 (rght_any _ _ _ _ _ w) (by rintro e b ⟨rfl, rfl⟩; exact ⟨_, rfl, _, fun q => q = w.heap.size ∨ S 6 q, rfl, st1 _ _ _ _ (heap_new _ _) (.inl rfl) (s6.alloc _) (fun q hq => .inl (.inr (n6 q hq).1)), fun q hq => hq.elim (fun h => .inr (.inl (by subst h; simp))) (fun h => .inl ⟨6, by decide, h⟩), fun h => by obtain ⟨s9, h9⟩ := h; exact absurd h9.2 (by decide), Mod.of (box_below w _)⟩))
    · exact wpOp_of _ rfl rfl (op_loadM rfl rfl (cQ w hb).1 (cQ w hb).2.1 (cQ w hb).2.2 ⟨_, fun _ => False, rfl, rfl, fun _ h => h.elim, fun _ _ h => h.elim, Mod.refl _ _⟩)
    · have h8 : vs 48 = .agg #[.int .i64 n, .int .i64 n, .slice qo qs.length qcap] := hp 8 (by decide)
      exact wpOp_of _ rfl rfl (op_call1 enters_mplus rfl h8 (plus_any _ _ _ _ _ w) (by rintro e b ⟨rfl, rfl⟩; exact ⟨_, rfl, _, fun q => q = w.heap.size, rfl, st2 _ _ _ _ (heap_new _ _) rfl ((sQ.mod oQ hb).alloc _) (oQ.ok _), fun q hq => .inr (.inl (by subst hq; simp)), fun h => by obtain ⟨s9, h9⟩ := h; exact absurd h9.2 (by decide), Mod.of (box_below w _)⟩))
    · have t0 : StepV w0.heap.size N n n X0 n n X1 b0 (vs 44) (S 4) w := hp 4 (by decide)
      obtain ⟨F0, c0, e0, _⟩ := id t0
      have t1 : StepV w0.heap.size N n n X1 n n X2 b1 (vs 47) (S 7) w := hp 7 (by decide)
      obtain ⟨F1, c1, e1, _⟩ := id t1
      have t2 : StepV w0.heap.size N n n X2 n n X3 b2 (vs 49) (S 9) w := hp 9 (by decide)
      obtain ⟨F2, c2, e2, _⟩ := id t2
      have hX : ∀ j, j < 3 → ∀ q, ([S 4, S 7, S 9].getD j (fun _ => False)) q → q < w.heap.size := by
        intro j hj q hq
        rcases (by omega : j = 0 ∨ j = 1 ∨ j = 2) with rfl | rfl | rfl
        · exact (hbd 4 (by decide) q hq).1
        · exact (hbd 7 (by decide) q hq).1
        · exact (hbd 9 (by decide) q hq).1
      have t0' : StepV w0.heap.size N n n X0 n n X1 b0 (.func (.func F0) #[] c0) (fun q => q = w.heap.size ∨ S 4 q ∨ S 7 q ∨ S 9 q) (w.alloc (.cells #[.func (.func F0) #[] c0, .func (.func F1) #[] c1, .func (.func F2) #[] c2] 58)) := by
        have z := (t0.stab (w' := w.alloc (.cells #[.func (.func F0) #[] c0, .func (.func F1) #[] c1, .func (.func F2) #[] c2] 58)) ⟨(box_below w _).size, fun q hq => (box_below w _).block q (hq.elim (fun h => hX 0 (by decide) q h) (fun h => Nat.lt_of_lt_of_le h.1 hb.size))⟩).mono (S' := fun q => q = w.heap.size ∨ S 4 q ∨ S 7 q ∨ S 9 q) (fun q h => .inr (.inl h))
        rw [e0] at z
        exact z
      have t1' : StepV w0.heap.size N n n X1 n n X2 b1 (.func (.func F1) #[] c1) (fun q => q = w.heap.size ∨ S 4 q ∨ S 7 q ∨ S 9 q) (w.alloc (.cells #[.func (.func F0) #[] c0, .func (.func F1) #[] c1, .func (.func F2) #[] c2] 58)) := by
        have z := (t1.stab (w' := w.alloc (.cells #[.func (.func F0) #[] c0, .func (.func F1) #[] c1, .func (.func F2) #[] c2] 58)) ⟨(box_below w _).size, fun q hq => (box_below w _).block q (hq.elim (fun h => hX 1 (by decide) q h) (fun h => Nat.lt_of_lt_of_le h.1 hb.size))⟩).mono (S' := fun q => q = w.heap.size ∨ S 4 q ∨ S 7 q ∨ S 9 q) (fun q h => .inr (.inr (.inl h)))
        rw [e1] at z
        exact z
      have t2' : StepV w0.heap.size N n n X2 n n X3 b2 (.func (.func F2) #[] c2) (fun q => q = w.heap.size ∨ S 4 q ∨ S 7 q ∨ S 9 q) (w.alloc (.cells #[.func (.func F0) #[] c0, .func (.func F1) #[] c1, .func (.func F2) #[] c2] 58)) := by
        have z := (t2.stab (w' := w.alloc (.cells #[.func (.func F0) #[] c0, .func (.func F1) #[] c1, .func (.func F2) #[] c2] 58)) ⟨(box_below w _).size, fun q hq => (box_below w _).block q (hq.elim (fun h => hX 2 (by decide) q h) (fun h => Nat.lt_of_lt_of_le h.1 hb.size))⟩).mono (S' := fun q => q = w.heap.size ∨ S 4 q ∨ S 7 q ∨ S 9 q) (fun q h => .inr (.inr (.inr (h))))
        rw [e2] at z
        exact z
      have hTS : ∀ (i : Nat) (t : Value → (Nat → Prop) → World → Prop) (u : Value), [StepV w0.heap.size N n n X0 n n X1 b0, StepV w0.heap.size N n n X1 n n X2 b1, StepV w0.heap.size N n n X2 n n X3 b2][i]? = some t → [.func (.func F0) #[] c0, .func (.func F1) #[] c1, .func (.func F2) #[] c2][i]? = some u → t u (fun q => q = w.heap.size ∨ S 4 q ∨ S 7 q ∨ S 9 q) (w.alloc (.cells #[.func (.func F0) #[] c0, .func (.func F1) #[] c1, .func (.func F2) #[] c2] 58)) := by
        intro i t u ht hu
        have hi : i < 3 := by have := (List.getElem?_eq_some_iff.1 ht).1; simpa using this
        rcases (by omega : i = 0 ∨ i = 1 ∨ i = 2) with rfl | rfl | rfl
        · cases ht; cases hu; exact t0'
        · cases ht; cases hu; exact t1'
        · cases ht; cases hu; exact t2'
      exact wpOp_of _ rfl rfl (op_slice3 rfl e0 e1 e2 ⟨_, fun q => q = w.heap.size ∨ S 4 q ∨ S 7 q ∨ S 9 q, rfl, ⟨w.heap.size, [.func (.func F0) #[] c0, .func (.func F1) #[] c1, .func (.func F2) #[] c2], rfl, .inl rfl, hb.size, rfl, heap_new _ _, hTS⟩, fun q hq => hq.elim (fun h => .inr (.inl (by subst h; simp))) (fun h => h.elim (fun h => .inl ⟨4, by decide, h⟩) (fun h => h.elim (fun h => .inl ⟨7, by decide, h⟩) (fun h => .inl ⟨9, by decide, h⟩))), fun h => (by obtain ⟨s9, h9⟩ := h; exact absurd h9.2 (by decide)), Mod.of (box_below w _)⟩)
    · have h0 : vs 40 = .func (.func 18) #[.pointer (some ⟨N, 0, none⟩)] #[] := hp 0 (by decide)
      have h2 : vs 42 = .agg #[.int .i64 n, .int .i64 n, .slice po X0.length pcap] := hp 2 (by decide)
      have hT : TSl w0.heap.size [StepV w0.heap.size N n n X0 n n X1 b0, StepV w0.heap.size N n n X1 n n X2 b1, StepV w0.heap.size N n n X2 n n X3 b2] (vs 50) (S 10) w := hp 10 (by decide)
      have hn0 : w.heap[N]? = some (.cells #[.bool m0, .int .i64 0] 54 (0, 0)) := (hwr N rfl (fun j h => ⟨by rw [h.1]; decide, .inl h.1⟩)).trans hN
      exact wpOp_of _ rfl rfl (op_call3 enters_kreck rfl h0 h2 rfl (reck_call 3 (by decide) (by decide) (fun i => [n, n, n, n].getD i 0) (fun i => [n, n, n, n].getD i 0) (fun i => [X0, X1, X2, X3].getD i []) (fun i => [b0, b1, b2].getD i false) N m0 w0 w _ _ (S 10) hb hn0 (hT) (fun b hSb => ⟨(hbd 10 (by decide) b hSb).1, fun e => (hbd 10 (by decide) b hSb).2 ⟨rfl, e⟩⟩) hpos (sP.mod oP hb) (fun b hb' => (oP b hb').2)) (by rintro e b ⟨x, S', rfl, hR, hS', hM⟩; exact ⟨_, rfl, _, S', rfl, hR, fun q hq => (hS' q hq).elim (fun h => .inr (.inl h)) (fun h => .inr (.inr ⟨rfl, h⟩)), fun h => by obtain ⟨s9, h9⟩ := h; exact absurd h9.2 (by decide), hM.mono fun q _ hq => .inl ⟨rfl, hq⟩⟩))
    · exact wpOp_of _ rfl rfl (op_alloc24 rfl ⟨_, fun b => b = w.heap.size, rfl, ⟨_, rfl, rfl, hb.size, _, _, _, heap_new _ _⟩, fun b h => .inr (.inl (by subst h; simp)), fun _ b h => .inl (by omega), Mod.of (box_below w _)⟩)
    · obtain ⟨D, hD, hSD, hBD, x, y, z, hbl⟩ : TPtr w0.heap.size (vs 11) (S 12) w := hp 12 (by decide)
      obtain ⟨⟨ao, cap, hf, hs, hso⟩, _⟩ : TRes w0.heap.size N n n X3 (m0 || anyB (fun i => [b0, b1, b2].getD i false) 3) (vs 51) (S 11) w := hp 11 (by decide)
      have hne : ∀ q, (Value.slice ao X3.length cap).ownBlock = some q → q ≠ D := fun q hq e => hkl 12 ⟨rfl, rfl⟩ 11 (by decide) (by decide) D hSD (e ▸ (hso q hq).1)
      refine wpOp_of _ rfl rfl (op_store24 rfl rfl hD hf hbl ?_)
      refine ⟨undef, fun q => q = D ∨ S 11 q, rfl, ⟨D, ao, cap, hD, .inl rfl, hBD, put_mat hbl, ((hs.set' (a := ⟨D, 0, none⟩) hne _).set' (a := ⟨D, 1, none⟩) hne _).set' (a := ⟨D, 2, none⟩) hne _, fun q hq => ⟨.inr (hso q hq).1, (hso q hq).2⟩⟩, fun q hq => hq.elim (fun h => .inl ⟨12, by decide, h ▸ hSD⟩) (fun h => .inl ⟨11, by decide, h⟩), fun h => by obtain ⟨s9, h9⟩ := h; exact absurd h9.2 (by decide), ?_⟩
      refine ⟨rfl, rfl, rfl, by simp [World.setCell], fun q hq hq' => ?_⟩
      have hqD : q ≠ D := fun e => hq' (.inr ⟨12, ⟨rfl, rfl⟩, e ▸ hSD⟩)
      rw [Below.heap_setCell _ _ _ _ hqD, Below.heap_setCell _ _ _ _ hqD, Below.heap_setCell _ _ _ _ hqD]
  · intro vs w S hb hT
    obtain ⟨D, ao, cap, h1, _, h3, h4, h5, h6⟩ : TSto w0.heap.size n n X3 (vs 11) (S 13) w := hT 13 (by decide) (fun s h => by omega)
    obtain ⟨_, _, h7⟩ : TRes w0.heap.size N n n X3 (m0 || anyB (fun i => [b0, b1, b2].getD i false) 3) (vs 51) (S 11) w := hT 11 (by decide) (fun s h => by omega)
    exact hQ vs D ao cap w hb h1 h3 h4 h5 (fun q hq => (h6 q hq).2) h7
end Go.Proofs.YtiniobcknmaigaaGreat
