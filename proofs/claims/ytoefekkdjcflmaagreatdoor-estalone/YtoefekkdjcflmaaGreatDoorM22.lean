/- Parts of the proof. -/
import Derived.Test.YtoefekkdjcflmaaGreatDoorM21
namespace Go.Proofs.YtoefekkdjcflmaaGreatDoor
open Go.RowKit Go.Sort Qm
def ki7Ops : Array Oper := #[
 ⟨some 32, .makeFunc (.func 112) #[.tmp 12] #[], 143, "kalman.go:64", #[], none⟩,
 ⟨some 33, .fieldAddr 31 (.tmp 4) 1, 0, "kalman.go:64", #[], none⟩,
 ⟨some 34, .load 29 (.tmp 33), 29, "kalman.go:64", #[eD 1], none⟩,
 ⟨some 35, .load 29 (.tmp 5), 29, "kalman.go:64", #[], none⟩,
 ⟨some 36, .call ⟨.value (.func 113), #[.tmp 35], #[29]⟩, 145, "kalman.go:64", #[eD 3], none⟩,
 ⟨some 37, .load 29 (.tmp 5), 29, "kalman.go:64", #[], none⟩,
 ⟨some 38, .call ⟨.value (.func 115), #[.tmp 37], #[29]⟩, 29, "kalman.go:64", #[eD 5, eC 4], none⟩,
 ⟨some 39, .call ⟨.value (.func 114), #[.tmp 38], #[29]⟩, 145, "kalman.go:64", #[eD 6, eC 6], none⟩,
 ⟨some 40, .makeFunc (.func 187) #[] #[.tmp 7], 117, "kalman.go:64", #[], none⟩,
 ⟨some 41, .call ⟨.value (.func 185), #[.tmp 40], #[117]⟩, 145, "kalman.go:65", #[eD 8, eC 7], none⟩,
 ⟨some 42, .buildSlice 183 3 #[(0, .tmp 36), (1, .tmp 39), (2, .tmp 41)], 183, "kalman.go:64", #[eD 4, eD 7, eD 9], none⟩,
 ⟨some 43, .call ⟨.value (.func 111), #[.tmp 32, .tmp 34, .tmp 42], #[143, 29, 183]⟩, 29, "kalman.go:64", #[eD 0, eD 2, eD 10, eC 9], none⟩,
 ⟨some 14, .alloc 29, 0, "kalman.go:64", #[], none⟩,
 ⟨none, .store 29 (.tmp 14) (.tmp 43), 0, "kalman.go:64", #[eD 12, eD 11, eC 11, eP 0, eP 1, eP 2, eP 3, eP 4, eP 5, eP 6, eP 7, eP 8, eP 9, eP 10, eP 11, eP 12], none⟩]
def ki7Dst (i : Nat) : Nat := [32, 33, 34, 35, 36, 37, 38, 39, 40, 41, 42, 43, 14, 1000].getD i 0
def ki7Fr (N : Nat) (D4 : Nat) (D5 : Nat) (D7 : Nat) (u0 u1 u2 u3 u6 u8 u9 u10 u11 u13 u15 u16 u17 u18 u19 u20 u21 u22 u23 u24 u25 u26 u27 u28 u29 u30 u31 u44 u45 u46 u47 u48 u49 u50 u51 u52 u53 u54 u55 u56 u57 u58 : Value) (vs : Nat → Value) : Act := ⟨#[u0, u1, u2, u3, .pointer (some ⟨D4, 0, none⟩), .pointer (some ⟨D5, 0, none⟩), u6, .pointer (some ⟨D7, 0, none⟩), u8, u9, u10, u11, .pointer (some ⟨N, 0, none⟩), u13, vs 14, u15, u16, u17, u18, u19, u20, u21, u22, u23, u24, u25, u26, u27, u28, u29, u30, u31, vs 32, vs 33, vs 34, vs 35, vs 36, vs 37, vs 38, vs 39, vs 40, vs 41, vs 42, vs 43, u44, u45, u46, u47, u48, u49, u50, u51, u52, u53, u54, u55, u56, u57, u58], []⟩
def ki7T (B : Nat) (m0 : Bool) (N : Nat) (D4 : Nat) (D7 : Nat) (n : Nat) (po : Option Addr) (pcap : Nat) (ho : Option Addr) (hcap : Nat) (hs : List Int) (ts : List Int) (X0 X1 X2 X3 : List Int) (b0 b1 b2 : Bool) : Nat → Value → Value → (Nat → Prop) → World → Prop
  | 0, v, _, _, _ => v = .func (.func 112) #[.pointer (some ⟨N, 0, none⟩)] #[]
  | 1, v, _, _, _ => v = .pointer (some ⟨D4, 3, none⟩)
  | 2, v, _, _, _ => v = .agg #[.int .i64 n, .int .i64 n, .slice po X0.length pcap]
  | 3, v, _, _, _ => v = .agg #[.int .i64 1, .int .i64 n, .slice ho hs.length hcap]
  | 4, v, _, S, w => StepV B N n n X0 1 n X1 b0 v S w
  | 5, v, _, _, _ => v = .agg #[.int .i64 1, .int .i64 n, .slice ho hs.length hcap]
  | 6, v, _, S, w => TMat B n 1 ts v S w
  | 7, v, _, S, w => StepV B N 1 n X1 1 1 X2 b1 v S w
  | 8, v, _, _, _ => v = .func (.func 187) #[] #[.pointer (some ⟨D7, 0, none⟩)]
  | 9, v, _, S, w => StepV B N 1 1 X2 1 1 X3 b2 v S w
  | 10, v, _, S, w => TSl B [StepV B N n n X0 1 n X1 b0, StepV B N 1 n X1 1 1 X2 b1, StepV B N 1 1 X2 1 1 X3 b2] v S w
  | 11, v, _, S, w => TRes B N 1 1 X3 (m0 || anyB (fun i => [b0, b1, b2].getD i false) 3) v S w
  | 12, v, _, S, w => TPtr B v S w
  | 13, _, u, S, w => TSto B 1 1 X3 u S w
  | _, _, _, _, _ => True
set_option maxRecDepth 40000 in
set_option maxHeartbeats 400000 in
theorem ki7_region {Q : Exit → Act → World → Prop} {w0 : World} {m0 : Bool} {N : Nat} {D4 : Nat} {D5 : Nat} {D7 : Nat} {n : Nat} {po : Option Addr} {pcap : Nat} {ho : Option Addr} {hcap : Nat} {hs : List Int} {ts : List Int} {u0 u1 u2 u3 u6 u8 u9 u10 u11 u13 u15 u16 u17 u18 u19 u20 u21 u22 u23 u24 u25 u26 u27 u28 u29 u30 u31 u44 u45 u46 u47 u48 u49 u50 u51 u52 u53 u54 u55 u56 u57 u58 : Value} (X0 X1 X2 X3 : List Int) (b0 b1 b2 : Bool) (hN : w0.heap[N]? = some (.cells #[.bool m0, .int .i64 0] 141 (0, 0))) (hpos : ∀ i, i ≤ 3 → 0 < ([X0, X1, X2, X3].getD i []).length)
    (cP : ∀ w, Mod (fun b => b = N) w0 w → w.cell? ⟨D4, 3, none⟩ = some (.int .i64 n) ∧ w.cell? ⟨D4, 4, none⟩ = some (.int .i64 n) ∧ w.cell? ⟨D4, 5, none⟩ = some (.slice po X0.length pcap))
    (cH : ∀ w, Mod (fun b => b = N) w0 w → w.cell? ⟨D5, 0, none⟩ = some (.int .i64 1) ∧ w.cell? ⟨D5, 1, none⟩ = some (.int .i64 n) ∧ w.cell? ⟨D5, 2, none⟩ = some (.slice ho hs.length hcap))
    (sP : Sees w0 (.slice po X0.length pcap) X0) (oP : Old w0.heap.size N (.slice po X0.length pcap))
    (sH : Sees w0 (.slice ho hs.length hcap) hs) (oH : Old w0.heap.size N (.slice ho hs.length hcap))
    (kT38 : ∀ w, Mod (fun b => b = N) w0 w → Calls Tryz.prog 115 #[.agg #[.int .i64 1, .int .i64 n, .slice ho hs.length hcap]] w fun e b => ∃ v, e = .returned (.agg #[.int .i64 n, .int .i64 1, v]) ∧ Sees b v ts ∧ New w.heap.size v ∧ Below w.heap.size w b) (z38 : 0 < ts.length)
    (st0 : ∀ w A va S, w.heap[A]? = some (.cells #[.int .i64 1, .int .i64 n, va] 29 (0, 0)) → S A → Sees w va hs → OkS w0.heap.size N S va → StepV w0.heap.size N n n X0 1 n X1 b0 (.func (.func 156) #[] #[.pointer (some ⟨A, 0, none⟩)]) S w)
    (st1 : ∀ w A va S, w.heap[A]? = some (.cells #[.int .i64 n, .int .i64 1, va] 29 (0, 0)) → S A → Sees w va ts → OkS w0.heap.size N S va → StepV w0.heap.size N 1 n X1 1 1 X2 b1 (.func (.func 158) #[] #[.pointer (some ⟨A, 0, none⟩)]) S w)
    (st2 : ∀ w A S, Mod (fun b => b = N) w0 w → w.heap[A]? = some (.cells #[.func (.func 187) #[] #[.pointer (some ⟨D7, 0, none⟩)]] 117 (0, 0)) → S A → StepV w0.heap.size N 1 1 X2 1 1 X3 b2 (.func (.func 195) #[] #[.pointer (some ⟨A, 0, none⟩)]) S w)
    (hQ : ∀ vs D ao cap w, Mod (fun b => b = N) w0 w → vs 14 = .pointer (some ⟨D, 0, none⟩) → w0.heap.size ≤ D → w.heap[D]? = some (.cells #[.int .i64 1, .int .i64 1, .slice ao X3.length cap] 29 (0, 0)) → Sees w (.slice ao X3.length cap) X3 → (∀ q, (Value.slice ao X3.length cap).ownBlock = some q → w0.heap.size ≤ q) → w.heap[N]? = some (.cells #[.bool (m0 || anyB (fun i => [b0, b1, b2].getD i false) 3), .int .i64 0] 141 (0, 0)) → Q .normal (ki7Fr N D4 D5 D7 u0 u1 u2 u3 u6 u8 u9 u10 u11 u13 u15 u16 u17 u18 u19 u20 u21 u22 u23 u24 u25 u26 u27 u28 u29 u30 u31 u44 u45 u46 u47 u48 u49 u50 u51 u52 u53 u54 u55 u56 u57 u58 vs) w) :
    (Code.region 7 ki7Ops true).wp Tryz.prog Q (ki7Fr N D4 D5 D7 u0 u1 u2 u3 u6 u8 u9 u10 u11 u13 u15 u16 u17 u18 u19 u20 u21 u22 u23 u24 u25 u26 u27 u28 u29 u30 u31 u44 u45 u46 u47 u48 u49 u50 u51 u52 u53 u54 u55 u56 u57 u58 (fun _ => undef)) w0 := by
  refine wp_region_own (by kernel_rfl) (by decide) ki7Dst (by decide) (ki7Fr N D4 D5 D7 u0 u1 u2 u3 u6 u8 u9 u10 u11 u13 u15 u16 u17 u18 u19 u20 u21 u22 u23 u24 u25 u26 u27 u28 u29 u30 u31 u44 u45 u46 u47 u48 u49 u50 u51 u52 u53 u54 u55 u56 u57 u58) (fun _ => undef) (fun i => if i = 13 then 12 else i) (by decide) (fun b => b = N) (fun q hq => by subst hq; exact lt_of_block hN) (fun i q => i = 11 ∧ q = N) (fun i q h => h.2) (fun i j q h h' => h.1.trans h'.1.symm)
    (fun s j => s = 13 ∧ j = 12) (fun s j h => by obtain ⟨rfl, rfl⟩ := h; exact ⟨by decide, by decide⟩) (fun s j h => by obtain ⟨rfl, rfl⟩ := h; decide) (ki7T w0.heap.size m0 N D4 D7 n po pcap ho hcap hs ts X0 X1 X2 X3 b0 b1 b2) ?_ ?_ ?_
  · intro i v u S w w' hi h hw hw' hz hS
    have ha : Agr w0.heap.size N S w w' := agr_of hw hw' hz hS
    have hi' : i < 14 := hi
    rcases (by omega : i = 0 ∨ i = 1 ∨ i = 2 ∨ i = 3 ∨ i = 4 ∨ i = 5 ∨ i = 6 ∨ i = 7 ∨ i = 8 ∨ i = 9 ∨ i = 10 ∨ i = 11 ∨ i = 12 ∨ i = 13) with rfl | rfl | rfl | rfl | rfl | rfl | rfl | rfl | rfl | rfl | rfl | rfl | rfl | rfl
    · exact h
    · exact h
    · exact h
    · exact h
    · exact StepV.stab h ha
    · exact h
    · exact TMat.stab h ha
    · exact StepV.stab h ha
    · exact h
    · exact StepV.stab h ha
    · exact TSl.stab h (fun t ht u htu => (by simp only [List.mem_cons, List.not_mem_nil, or_false] at ht; rcases ht with rfl | rfl | rfl <;> exact StepV.stab htu ha)) ha
    · exact TRes.stab h ha
    · exact TPtr.stab h ha
    · exact TSto.stab h ha
  · intro i hi vs w S hb hp hbd hwr hkl _
    have hi' : i < 14 := hi
    rcases (by omega : i = 0 ∨ i = 1 ∨ i = 2 ∨ i = 3 ∨ i = 4 ∨ i = 5 ∨ i = 6 ∨ i = 7 ∨ i = 8 ∨ i = 9 ∨ i = 10 ∨ i = 11 ∨ i = 12 ∨ i = 13) with rfl | rfl | rfl | rfl | rfl | rfl | rfl | rfl | rfl | rfl | rfl | rfl | rfl | rfl
    · exact wpOp_of _ rfl rfl (op_makeFunc1 rfl rfl ⟨_, fun _ => False, rfl, rfl, fun _ h => h.elim, fun _ _ h => h.elim, Mod.refl _ _⟩)
    · exact wpOp_of _ rfl rfl (op_fieldT (i := 1) (by decide) rfl rfl ⟨_, fun _ => False, rfl, rfl, fun _ h => h.elim, fun _ _ h => h.elim, Mod.refl _ _⟩)
    · have h1 : vs 33 = .pointer (some ⟨D4, 3, none⟩) := hp 1 (by decide)
      exact wpOp_of _ rfl rfl (op_loadM rfl h1 (cP w hb).1 (cP w hb).2.1 (cP w hb).2.2 ⟨_, fun _ => False, rfl, rfl, fun _ h => h.elim, fun _ _ h => h.elim, Mod.refl _ _⟩)
    · exact wpOp_of _ rfl rfl (op_loadM rfl rfl (cH w hb).1 (cH w hb).2.1 (cH w hb).2.2 ⟨_, fun _ => False, rfl, rfl, fun _ h => h.elim, fun _ _ h => h.elim, Mod.refl _ _⟩)
    · have h3 : vs 35 = .agg #[.int .i64 1, .int .i64 n, .slice ho hs.length hcap] := hp 3 (by decide)
      exact wpOp_of _ rfl rfl (op_call1 enters_mleft rfl h3 (left_any _ _ _ _ _ w) (by rintro e b ⟨rfl, rfl⟩; exact ⟨_, rfl, _, fun q => q = w.heap.size, rfl, st0 _ _ _ _ (heap_new _ _) rfl ((sH.mod oH hb).alloc _) (oH.ok _), fun q hq => .inr (.inl (by subst hq; simp)), fun h => by obtain ⟨s9, h9⟩ := h; exact absurd h9.2 (by decide), Mod.of (box_below w _)⟩))
    · exact wpOp_of _ rfl rfl (op_loadM rfl rfl (cH w hb).1 (cH w hb).2.1 (cH w hb).2.2 ⟨_, fun _ => False, rfl, rfl, fun _ h => h.elim, fun _ _ h => h.elim, Mod.refl _ _⟩)
    · have h5 : vs 37 = .agg #[.int .i64 1, .int .i64 n, .slice ho hs.length hcap] := hp 5 (by decide)
      exact wpOp_of _ rfl rfl (op_call1 enters_trans rfl h5 (kT38 w hb) (by rintro e b ⟨v, rfl, s', n', b'⟩; have hl := s'.lt z38; obtain ⟨so, sc, rfl⟩ := s'.slice; exact ⟨_, rfl, _, fun q => (Value.slice so ts.length sc).ownBlock = some q, rfl, ⟨so, sc, rfl, s', fun q hq => ⟨hq, Nat.le_trans hb.size (n' q hq)⟩⟩, fun q hq => .inr (.inl ⟨n' q hq, hl q hq⟩), fun h => by obtain ⟨s9, h9⟩ := h; exact absurd h9.2 (by decide), Mod.of b'⟩))
    · obtain ⟨so, sc, h6, s6, n6⟩ : TMat w0.heap.size n 1 ts (vs 38) (S 6) w := hp 6 (by decide)
      exact wpOp_of _ rfl rfl (op_call1 enters_mrght rfl h6 (rght_any _ _ _ _ _ w) (by rintro e b ⟨rfl, rfl⟩; exact ⟨_, rfl, _, fun q => q = w.heap.size ∨ S 6 q, rfl, st1 _ _ _ _ (heap_new _ _) (.inl rfl) (s6.alloc _) (fun q hq => .inl (.inr (n6 q hq).1)), fun q hq => hq.elim (fun h => .inr (.inl (by subst h; simp))) (fun h => .inl ⟨6, by decide, h⟩), fun h => by obtain ⟨s9, h9⟩ := h; exact absurd h9.2 (by decide), Mod.of (box_below w _)⟩))
    · exact wpOp_of _ rfl rfl (op_makeFunc2 rfl rfl ⟨_, fun _ => False, rfl, rfl, fun _ h => h.elim, fun _ _ h => h.elim, Mod.refl _ _⟩)
    · have h8 : vs 40 = .func (.func 187) #[] #[.pointer (some ⟨D7, 0, none⟩)] := hp 8 (by decide)
      exact wpOp_of _ rfl rfl (op_call1 enters_meach rfl h8 (each_any _ _ w) (by rintro e b ⟨rfl, rfl⟩; exact ⟨_, rfl, _, fun q => q = w.heap.size, rfl, st2 _ _ _ (hb.trans (Mod.of (box_below w _))) (heap_new _ _) rfl, fun q hq => .inr (.inl (by subst hq; simp)), fun h => by obtain ⟨s9, h9⟩ := h; exact absurd h9.2 (by decide), Mod.of (box_below w _)⟩))
    · have t0 : StepV w0.heap.size N n n X0 1 n X1 b0 (vs 36) (S 4) w := hp 4 (by decide)
      obtain ⟨F0, c0, e0, _⟩ := id t0
      have t1 : StepV w0.heap.size N 1 n X1 1 1 X2 b1 (vs 39) (S 7) w := hp 7 (by decide)
      obtain ⟨F1, c1, e1, _⟩ := id t1
      have t2 : StepV w0.heap.size N 1 1 X2 1 1 X3 b2 (vs 41) (S 9) w := hp 9 (by decide)
      obtain ⟨F2, c2, e2, _⟩ := id t2
      have hX : ∀ j, j < 3 → ∀ q, ([S 4, S 7, S 9].getD j (fun _ => False)) q → q < w.heap.size := by
        intro j hj q hq
        rcases (by omega : j = 0 ∨ j = 1 ∨ j = 2) with rfl | rfl | rfl
        · exact (hbd 4 (by decide) q hq).1
        · exact (hbd 7 (by decide) q hq).1
        · exact (hbd 9 (by decide) q hq).1
      have t0' : StepV w0.heap.size N n n X0 1 n X1 b0 (.func (.func F0) #[] c0) (fun q => q = w.heap.size ∨ S 4 q ∨ S 7 q ∨ S 9 q) (w.alloc (.cells #[.func (.func F0) #[] c0, .func (.func F1) #[] c1, .func (.func F2) #[] c2] 145)) := by
        have z := (t0.stab (w' := w.alloc (.cells #[.func (.func F0) #[] c0, .func (.func F1) #[] c1, .func (.func F2) #[] c2] 145)) ⟨(box_below w _).size, fun q hq => (box_below w _).block q (hq.elim (fun h => hX 0 (by decide) q h) (fun h => Nat.lt_of_lt_of_le h.1 hb.size))⟩).mono (S' := fun q => q = w.heap.size ∨ S 4 q ∨ S 7 q ∨ S 9 q) (fun q h => .inr (.inl h))
        rw [e0] at z
        exact z
      have t1' : StepV w0.heap.size N 1 n X1 1 1 X2 b1 (.func (.func F1) #[] c1) (fun q => q = w.heap.size ∨ S 4 q ∨ S 7 q ∨ S 9 q) (w.alloc (.cells #[.func (.func F0) #[] c0, .func (.func F1) #[] c1, .func (.func F2) #[] c2] 145)) := by
        have z := (t1.stab (w' := w.alloc (.cells #[.func (.func F0) #[] c0, .func (.func F1) #[] c1, .func (.func F2) #[] c2] 145)) ⟨(box_below w _).size, fun q hq => (box_below w _).block q (hq.elim (fun h => hX 1 (by decide) q h) (fun h => Nat.lt_of_lt_of_le h.1 hb.size))⟩).mono (S' := fun q => q = w.heap.size ∨ S 4 q ∨ S 7 q ∨ S 9 q) (fun q h => .inr (.inr (.inl h)))
        rw [e1] at z
        exact z
      have t2' : StepV w0.heap.size N 1 1 X2 1 1 X3 b2 (.func (.func F2) #[] c2) (fun q => q = w.heap.size ∨ S 4 q ∨ S 7 q ∨ S 9 q) (w.alloc (.cells #[.func (.func F0) #[] c0, .func (.func F1) #[] c1, .func (.func F2) #[] c2] 145)) := by
        have z := (t2.stab (w' := w.alloc (.cells #[.func (.func F0) #[] c0, .func (.func F1) #[] c1, .func (.func F2) #[] c2] 145)) ⟨(box_below w _).size, fun q hq => (box_below w _).block q (hq.elim (fun h => hX 2 (by decide) q h) (fun h => Nat.lt_of_lt_of_le h.1 hb.size))⟩).mono (S' := fun q => q = w.heap.size ∨ S 4 q ∨ S 7 q ∨ S 9 q) (fun q h => .inr (.inr (.inr (h))))
        rw [e2] at z
        exact z
      have hTS : ∀ (i : Nat) (t : Value → (Nat → Prop) → World → Prop) (u : Value), [StepV w0.heap.size N n n X0 1 n X1 b0, StepV w0.heap.size N 1 n X1 1 1 X2 b1, StepV w0.heap.size N 1 1 X2 1 1 X3 b2][i]? = some t → [.func (.func F0) #[] c0, .func (.func F1) #[] c1, .func (.func F2) #[] c2][i]? = some u → t u (fun q => q = w.heap.size ∨ S 4 q ∨ S 7 q ∨ S 9 q) (w.alloc (.cells #[.func (.func F0) #[] c0, .func (.func F1) #[] c1, .func (.func F2) #[] c2] 145)) := by
        intro i t u ht hu
        have hi : i < 3 := by have := (List.getElem?_eq_some_iff.1 ht).1; simpa using this
        rcases (by omega : i = 0 ∨ i = 1 ∨ i = 2) with rfl | rfl | rfl
        · cases ht; cases hu; exact t0'
        · cases ht; cases hu; exact t1'
        · cases ht; cases hu; exact t2'
      exact wpOp_of _ rfl rfl (op_slice3 rfl e0 e1 e2 ⟨_, fun q => q = w.heap.size ∨ S 4 q ∨ S 7 q ∨ S 9 q, rfl, ⟨w.heap.size, [.func (.func F0) #[] c0, .func (.func F1) #[] c1, .func (.func F2) #[] c2], rfl, .inl rfl, hb.size, rfl, heap_new _ _, hTS⟩, fun q hq => hq.elim (fun h => .inr (.inl (by subst h; simp))) (fun h => h.elim (fun h => .inl ⟨4, by decide, h⟩) (fun h => h.elim (fun h => .inl ⟨7, by decide, h⟩) (fun h => .inl ⟨9, by decide, h⟩))), fun h => (by obtain ⟨s9, h9⟩ := h; exact absurd h9.2 (by decide)), Mod.of (box_below w _)⟩)
    · have h0 : vs 32 = .func (.func 112) #[.pointer (some ⟨N, 0, none⟩)] #[] := hp 0 (by decide)
      have h2 : vs 34 = .agg #[.int .i64 n, .int .i64 n, .slice po X0.length pcap] := hp 2 (by decide)
      have hT : TSl w0.heap.size [StepV w0.heap.size N n n X0 1 n X1 b0, StepV w0.heap.size N 1 n X1 1 1 X2 b1, StepV w0.heap.size N 1 1 X2 1 1 X3 b2] (vs 42) (S 10) w := hp 10 (by decide)
      have hn0 : w.heap[N]? = some (.cells #[.bool m0, .int .i64 0] 141 (0, 0)) := (hwr N rfl (fun j h => ⟨by rw [h.1]; decide, .inl h.1⟩)).trans hN
      exact wpOp_of _ rfl rfl (op_call3 enters_kreck rfl h0 h2 rfl (reck_call 3 (by decide) (by decide) (fun i => [n, 1, 1, 1].getD i 0) (fun i => [n, n, 1, 1].getD i 0) (fun i => [X0, X1, X2, X3].getD i []) (fun i => [b0, b1, b2].getD i false) N m0 w0 w _ _ (S 10) hb hn0 (hT) (fun b hSb => ⟨(hbd 10 (by decide) b hSb).1, fun e => (hbd 10 (by decide) b hSb).2 ⟨rfl, e⟩⟩) hpos (sP.mod oP hb) (fun b hb' => (oP b hb').2)) (by rintro e b ⟨x, S', rfl, hR, hS', hM⟩; exact ⟨_, rfl, _, S', rfl, hR, fun q hq => (hS' q hq).elim (fun h => .inr (.inl h)) (fun h => .inr (.inr ⟨rfl, h⟩)), fun h => by obtain ⟨s9, h9⟩ := h; exact absurd h9.2 (by decide), hM.mono fun q _ hq => .inl ⟨rfl, hq⟩⟩))
    · exact wpOp_of _ rfl rfl (op_alloc24 rfl ⟨_, fun b => b = w.heap.size, rfl, ⟨_, rfl, rfl, hb.size, _, _, _, heap_new _ _⟩, fun b h => .inr (.inl (by subst h; simp)), fun _ b h => .inl (by omega), Mod.of (box_below w _)⟩)
    · obtain ⟨D, hD, hSD, hBD, x, y, z, hbl⟩ : TPtr w0.heap.size (vs 14) (S 12) w := hp 12 (by decide)
      obtain ⟨⟨ao, cap, hf, hs, hso⟩, _⟩ : TRes w0.heap.size N 1 1 X3 (m0 || anyB (fun i => [b0, b1, b2].getD i false) 3) (vs 43) (S 11) w := hp 11 (by decide)
      have hne : ∀ q, (Value.slice ao X3.length cap).ownBlock = some q → q ≠ D := fun q hq e => hkl 12 ⟨rfl, rfl⟩ 11 (by decide) (by decide) D hSD (e ▸ (hso q hq).1)
      refine wpOp_of _ rfl rfl (op_store24 rfl rfl hD hf hbl ?_)
      refine ⟨undef, fun q => q = D ∨ S 11 q, rfl, ⟨D, ao, cap, hD, .inl rfl, hBD, put_mat hbl, ((hs.set' (a := ⟨D, 0, none⟩) hne _).set' (a := ⟨D, 1, none⟩) hne _).set' (a := ⟨D, 2, none⟩) hne _, fun q hq => ⟨.inr (hso q hq).1, (hso q hq).2⟩⟩, fun q hq => hq.elim (fun h => .inl ⟨12, by decide, h ▸ hSD⟩) (fun h => .inl ⟨11, by decide, h⟩), fun h => by obtain ⟨s9, h9⟩ := h; exact absurd h9.2 (by decide), ?_⟩
      refine ⟨rfl, rfl, rfl, by simp [World.setCell], fun q hq hq' => ?_⟩
      have hqD : q ≠ D := fun e => hq' (.inr ⟨12, ⟨rfl, rfl⟩, e ▸ hSD⟩)
      rw [Below.heap_setCell _ _ _ _ hqD, Below.heap_setCell _ _ _ _ hqD, Below.heap_setCell _ _ _ _ hqD]
  · intro vs w S hb hT
    obtain ⟨D, ao, cap, h1, _, h3, h4, h5, h6⟩ : TSto w0.heap.size 1 1 X3 (vs 14) (S 13) w := hT 13 (by decide) (fun s h => by omega)
    obtain ⟨_, _, h7⟩ : TRes w0.heap.size N 1 1 X3 (m0 || anyB (fun i => [b0, b1, b2].getD i false) 3) (vs 43) (S 11) w := hT 11 (by decide) (fun s h => by omega)
    exact hQ vs D ao cap w hb h1 h3 h4 h5 (fun q hq => (h6 q hq).2) h7
set_option maxHeartbeats 800000 in
theorem hasSize_any (r c a b : Int) (ao : Option Addr) (n cap : Nat) (w : World) :
    Calls Tryz.prog 110 #[.agg #[.int .i64 r, .int .i64 c, .slice ao n cap], .int .i64 a, .int .i64 b] w fun e w' => e = .returned (.bool (decide (r = a ∧ c = b))) ∧ Below w.heap.size w w' := by
  by_cases h1 : r = a
  · subst h1
    by_cases h2 : c = b
    · subst h2
      go_enter Tryz.func110, Tryz.ntmps110
      go_wp2
      go_ret
      exact ⟨by simp, box_below w _⟩
    · have h3 : (c == b) = false := by simpa using h2
      go_enter Tryz.func110, Tryz.ntmps110
      go_wp2
      go_ret
      exact ⟨by simp [h2], box_below w _⟩
  · have h3 : (r == a) = false := by simpa using h1
    go_enter Tryz.func110, Tryz.ntmps110
    go_wp2
    go_ret
    exact ⟨by simp [h1], box_below w _⟩
theorem Qm.eaL_len (t : Int → Int) (ys : List Int) : (eaL t ys).length = ys.length := tab_len _ _
theorem Qm.eaL_one (t : Int → Int) {ys : List Int} (h : ys.length = 1) : ge (eaL t ys) 0 = t (ge ys 0) := ge_tab (by omega)
theorem Qm.eaB_one (o : Int → Bool) {ys : List Int} (h : ys.length = 1) : eaB o ys = o (ge ys 0) := by unfold eaB; rw [h]; simp [anyB]
theorem old_of {w0 w : World} {N : Nat} {v : Value} {xs : List Int} (h : Sees w v xs) (h0 : 0 < xs.length) (hN : w.heap.size ≤ N) (hw : w.heap.size ≤ w0.heap.size) : Old w0.heap.size N v := fun k hk => by
  have := h.lt h0 k hk
  exact ⟨by omega, by omega⟩
theorem six_mod {w : World} {b : Nat} {x y z u v t : Value} {T : TypeId} (h : w.heap[b]? = some (.cells #[x, y, z, u, v, t] T (0, 0))) :
    (w.cell? ⟨b, 0, none⟩ = some x ∧ w.cell? ⟨b, 1, none⟩ = some y ∧ w.cell? ⟨b, 2, none⟩ = some z) ∧ w.cell? ⟨b, 3, none⟩ = some u ∧ w.cell? ⟨b, 4, none⟩ = some v ∧ w.cell? ⟨b, 5, none⟩ = some t := by
  simp [World.cell?, h]
theorem three_mod {w : World} {b : Nat} {x y z : Value} {T : TypeId} (h : w.heap[b]? = some (.cells #[x, y, z] T (0, 0))) :
    w.cell? ⟨b, 0, none⟩ = some x ∧ w.cell? ⟨b, 1, none⟩ = some y ∧ w.cell? ⟨b, 2, none⟩ = some z := by
  simp [World.cell?, h]
set_option maxRecDepth 20000 in
set_option maxHeartbeats 3200000 in
theorem kinnov_any (n : Nat) (n1 : 1 ≤ n) (hn : n ≤ 8) (vx vp vh : Value) (xs ps hs : List Int) (hx : xs.length = n * 1) (hp : ps.length = n * n) (hh : hs.length = 1 * n) (z r : Int) (hr : 0 < r) (w : World) (sx : Sees w vx xs) (sp : Sees w vp ps) (sh : Sees w vh hs) :
    Calls Tryz.prog 168 #[.agg #[.int .i64 n, .int .i64 1, vx, .int .i64 n, .int .i64 n, vp], .agg #[.int .i64 1, .int .i64 n, vh], .int .i64 z, .int .i64 r] w fun e b =>
      e = .returned (.tuple #[.int .i64 (inY n xs hs z), .int .i64 (inS n ps hs r), .bool (inF n xs ps hs z r), .int .i64 0]) ∧ Below w.heap.size w b := by
  obtain ⟨xo, xcap, rfl⟩ := sx.slice
  obtain ⟨po, pcap, rfl⟩ := sp.slice
  obtain ⟨ho, hcap, rfl⟩ := sh.slice
  obtain ⟨W, hW⟩ : ∃ W, (((w.alloc (.cells #[.int .i64 n, .int .i64 1, .slice xo xs.length xcap, .int .i64 n, .int .i64 n, .slice po ps.length pcap] 31)).alloc (.cells #[.int .i64 1, .int .i64 n, .slice ho hs.length hcap] 29)).alloc (.cells #[.int .i64 z] 22)).alloc (.cells #[.int .i64 r] 22) = W := ⟨_, rfl⟩
  have bW := ball4 w (.cells #[.int .i64 n, .int .i64 1, .slice xo xs.length xcap, .int .i64 n, .int .i64 n, .slice po ps.length pcap] 31) (.cells #[.int .i64 1, .int .i64 n, .slice ho hs.length hcap] 29) (.cells #[.int .i64 z] 22) (.cells #[.int .i64 r] 22)
  obtain ⟨x1, x2, x3, x4⟩ := allocs4 w (.cells #[.int .i64 n, .int .i64 1, .slice xo xs.length xcap, .int .i64 n, .int .i64 n, .slice po ps.length pcap] 31) (.cells #[.int .i64 1, .int .i64 n, .slice ho hs.length hcap] 29) (.cells #[.int .i64 z] 22) (.cells #[.int .i64 r] 22)
  rw [hW] at bW x1 x2 x3 x4
  have k1 := hasSize_any 1 n 1 n ho hs.length hcap W
  rw [show decide ((1 : Int) = 1 ∧ (n : Int) = n) = true from by simp] at k1
  have px : 0 < xs.length := by omega
  have pp : 0 < ps.length := by rw [hp]; exact Nat.mul_pos n1 n1
  have ph : 0 < hs.length := by omega
  -- the steps
  have l1 := prd_len 1 n 1 hs xs
  have m1 := prd_len 1 n n hs ps
  have m2 := prd_len 1 n 1 (prd 1 n n hs ps) (trn 1 n hs)
  have lt := trn_len 1 n hs
  have A0 := fun B N => left_step (B := B) (Nn := N) 1 n 1 (by omega) (by omega) n1 hn (by omega) (by omega) hs xs hh hx
  have A1 := fun B N Z hZB hZN => each_step (B := B) (Nn := N) 1 1 186 enters_in1 (sub z) (subB z) z Z hZB hZN (fun n a h => in1_any z n Z a h) (prd 1 n 1 hs xs) (by omega)
  have B0 := fun B N => left_step (B := B) (Nn := N) 1 n n (by omega) (by omega) n1 hn n1 hn hs ps hh hp
  have B1 := fun B N => rght_step (B := B) (Nn := N) 1 n 1 (by omega) (by omega) n1 hn (by omega) (by omega) (trn 1 n hs) (prd 1 n n hs ps) lt (by omega)
  have B2 := fun B N Z hZB hZN => each_step (B := B) (Nn := N) 1 1 187 enters_in2 (fun q => add q r) (fun q => addB q r) r Z hZB hZN (fun n a h => in2_any r n Z a h) (prd 1 n 1 (prd 1 n n hs ps) (trn 1 n hs)) (by omega)
  have kT := fun w hs' => trans_any 1 n (by omega) (by omega) n1 hn (.slice ho hs.length hcap) hs hh w hs'
  have eY : inY n xs hs z = ge (eaL (sub z) (prd 1 n 1 hs xs)) 0 := (eaL_one (sub z) (by omega)).symm
  have eS : inS n ps hs r = ge (eaL (fun q => add q r) (prd 1 n 1 (prd 1 n n hs ps) (trn 1 n hs))) 0 := (eaL_one (fun q => add q r) (ys := prd 1 n 1 (prd 1 n n hs ps) (trn 1 n hs)) (by omega)).symm
  have eF : inF n xs ps hs z r = (false || anyB (fun i => [prdB 1 n 1 hs xs, eaB (subB z) (prd 1 n 1 hs xs)].getD i false) 2 || anyB (fun i => [prdB 1 n n hs ps, prdB 1 n 1 (prd 1 n n hs ps) (trn 1 n hs), eaB (fun q => addB q r) (prd 1 n 1 (prd 1 n n hs ps) (trn 1 n hs))].getD i false) 3) := by
    rw [eaB_one _ (by omega), eaB_one _ (by omega)]
    simp [inF, midB, midL, anyB, Bool.or_assoc]
  have l2 : (eaL (sub z) (prd 1 n 1 hs xs)).length = 1 := by rw [eaL_len]; omega
  have m3 : (eaL (fun q => add q r) (prd 1 n 1 (prd 1 n n hs ps) (trn 1 n hs))).length = 1 := by rw [eaL_len]; omega
  rw [eY, eS, eF]
  clear eY eS eF
  generalize eaL (sub z) (prd 1 n 1 hs xs) = X2 at A1 l2 ⊢
  generalize eaB (subB z) (prd 1 n 1 hs xs) = b1 at A1 ⊢
  generalize prd 1 n 1 hs xs = X1 at A0 A1 l1 ⊢
  generalize prdB 1 n 1 hs xs = b0 at A0 ⊢
  generalize eaL (fun q => add q r) (prd 1 n 1 (prd 1 n n hs ps) (trn 1 n hs)) = Y3 at B2 m3 ⊢
  generalize eaB (fun q => addB q r) (prd 1 n 1 (prd 1 n n hs ps) (trn 1 n hs)) = c2 at B2 ⊢
  generalize prd 1 n 1 (prd 1 n n hs ps) (trn 1 n hs) = Y2 at B1 B2 m2 ⊢
  generalize prdB 1 n 1 (prd 1 n n hs ps) (trn 1 n hs) = c1 at B1 ⊢
  generalize prd 1 n n hs ps = Y1 at B0 B1 m1 ⊢
  generalize prdB 1 n n hs ps = c0 at B0 ⊢
  generalize trn 1 n hs = ts at B1 kT lt
  obtain ⟨F1, hF1⟩ : ∃ F, (false || anyB (fun i => [b0, b1].getD i false) 2) = F := ⟨_, rfl⟩
  obtain ⟨F2, hF2⟩ : ∃ F, (F1 || anyB (fun i => [c0, c1, c2].getD i false) 3) = F := ⟨_, rfl⟩
  have HF1 : Hid ((false || anyB (fun i => [b0, b1].getD i false) 2) = F1) := hF1
  have HF2 : Hid ((F1 || anyB (fun i => [c0, c1, c2].getD i false) 3) = F2) := hF2
  rw [hF1, hF2]
  obtain ⟨y0, hy0⟩ : ∃ y, ge X2 0 = y := ⟨_, rfl⟩
  obtain ⟨s0, hs0⟩ : ∃ y, ge Y3 0 = y := ⟨_, rfl⟩
  have HY : Hid (ge X2 0 = y0) := hy0
  have HS : Hid (ge Y3 0 = s0) := hs0
  rw [hy0, hs0]
  have P1 : Hid (0 < xs.length ∧ 0 < X1.length ∧ 0 < X2.length) := ⟨px, by omega, by omega⟩
  have P2 : Hid (0 < ps.length ∧ 0 < Y1.length ∧ 0 < Y2.length ∧ 0 < Y3.length) := ⟨pp, by omega, by omega, by omega⟩
  have P3 : Hid (0 < hs.length ∧ 0 < ts.length) := ⟨ph, by rw [lt]; omega⟩
  have P4 : Hid (X2.length = 1 ∧ Y3.length = 1) := ⟨l2, m3⟩
  have hW4 : w.heap.size + 4 = W.heap.size := by rw [← hW]; simp
  clear hx hp hh l1 m1 m2 lt l2 m3 hy0 hs0 hF1 hF2 px pp ph
  obtain ⟨q0, q1, q2, _⟩ := mat_cells x2
  obtain ⟨t0, t1, t2, t3, t4, t5⟩ := six_cells x1
  have hr' : decide (r ≤ 0) = false := by simpa using hr
  go_enter Tryz.func168, Tryz.ntmps168
  go_wp2_with (go_at_call 110; refine k1.mono ?_; rintro e wx ⟨rfl, bx⟩; have c4 := cell_of_one (keep bx x4))
  have y0' := heap_new wx (.cells #[.bool false, .int .i64 0] 141)
  have bw0 := bt bx (box_below wx (.cells #[.bool false, .int .i64 0] 141))
  have hWx := bx.size
  have hsz0 : wx.heap.size + 1 = (wx.alloc (.cells #[.bool false, .int .i64 0] 141)).heap.size := by simp
  generalize wx.alloc (.cells #[.bool false, .int .i64 0] 141) = w0 at y0' bw0 hsz0 ⊢
  have z1 := keep bw0 x1
  have z2 := keep bw0 x2
  have z3 := keep bw0 x3
  have z4 := keep bw0 x4
  refine ki6_region (N := wx.heap.size) (D4 := w.heap.size) (D5 := w.heap.size + 1) (D6 := w.heap.size + 1 + 1) (n := n) (xo := xo) (xcap := xcap) (ho := ho) (hcap := hcap) (hs := hs) xs X1 X2 b0 b1 y0' ?_ (fun v hv => (six_mod (hv.old z1 (by omega))).1) (fun v hv => three_mod (hv.old z2 (by omega))) ((sx.below bW).below bw0) (old_of (sx) P1.out.1 (by omega) (by omega)) ((sh.below bW).below bw0) (old_of sh P3.out.1 (by omega) (by omega))
    (fun v A va S => A0 _ _ A va S v) (fun v A S hv => A1 _ _ _ (by omega) (by omega) A S v (cell_of_one (hv.old z3 (by omega))) hv.size) ?_
  · intro i hi
    rcases (by omega : i = 0 ∨ i = 1 ∨ i = 2) with rfl | rfl | rfl
    · exact P1.out.1
    · exact P1.out.2.1
    · exact P1.out.2.2
  intro vs D ao cap wa ma e13 hD hbD sD nD hNa
  rw [HF1.out] at hNa
  unfold ki6Fr
  rw [e13]
  have hsa := ma.size
  go_wp2
  refine ki7_region (N := wx.heap.size) (D4 := w.heap.size) (D5 := w.heap.size + 1) (D7 := w.heap.size + 1 + 1 + 1) (n := n) (po := po) (pcap := pcap) (ho := ho) (hcap := hcap) (hs := hs) (ts := ts) ps Y1 Y2 Y3 c0 c1 c2 hNa ?_ (fun v hv => (six_mod (hv.old (ma.old z1 (by omega)) (by omega))).2) (fun v hv => three_mod (hv.old (ma.old z2 (by omega)) (by omega))) (((sp.below bW).below bw0).mod (old_of sp P2.out.1 (by omega) (by omega)) ma) (old_of sp P2.out.1 (by omega) (by omega)) (((sh.below bW).below bw0).mod (old_of sh P3.out.1 (by omega) (by omega)) ma) (old_of sh P3.out.1 (by omega) (by omega))
    (fun v hv => kT v ((((sh.below bW).below bw0).mod (old_of sh P3.out.1 (by omega) (by omega)) ma).mod (old_of sh P3.out.1 (by omega) (by omega)) hv)) P3.out.2
    (fun v A va S => B0 _ _ A va S v) (fun v A va S => B1 _ _ A va S v) (fun v A S hv => B2 _ _ _ (by omega) (by omega) A S v (cell_of_one (hv.old (ma.old z4 (by omega)) (by omega))) hv.size) ?_
  · intro i hi
    rcases (by omega : i = 0 ∨ i = 1 ∨ i = 2 ∨ i = 3) with rfl | rfl | rfl | rfl
    · exact P2.out.1
    · exact P2.out.2.1
    · exact P2.out.2.2.1
    · exact P2.out.2.2.2
  intro vs' D' ao' cap' wb mb e14 hD' hbD' sD' nD' hNb
  rw [HF2.out] at hNb
  unfold ki7Fr
  rw [e14]
  have hsb := mb.size
  obtain ⟨g0, g1, g2, _⟩ := mat_cells (mb.old hbD (by omega))
  obtain ⟨a1, cp1, eq1, _, v1⟩ := (sD.mod (fun k hk => ⟨sD.lt P1.out.2.2 k hk, by have := nD k hk; omega⟩) mb).first P4.out.1
  obtain ⟨j0, j1, j2, _⟩ := mat_cells hbD'
  obtain ⟨a2, cp2, eq2, _, v2⟩ := sD'.first P4.out.2
  obtain ⟨f0, f1, _⟩ := two_cells hNb
  rw [eq1] at g2
  rw [eq2] at j2
  rw [HY.out] at v1
  rw [HS.out] at v2
  have bE : Below w.heap.size w wb := bt bW (bw0.trans ((ma.trans mb).below (by omega) (fun k hk => by omega)))
  clear hNa hNb ma mb sD sD' eq1 eq2 hbD hbD' z1 z2 z3 z4 y0' k1 A0 A1 B0 B1 B2 kT x1 x2 x3 x4 bx bw0
  go_wp2
  go_quiet (fail)
  go_wp2
  refine bodyPost_ret (v := .tuple #[.int .i64 y0, .int .i64 s0, .bool F2, .int .i64 0]) (by simp [results, Tryz.results168, go_sem]) rfl ?_
  exact ⟨rfl, below_drewN bE _⟩
end Go.Proofs.YtoefekkdjcflmaaGreatDoor

