/- Parts of the proof. -/
import Derived.Test.YtoefekkdjcflmaaGreatDoorM15
namespace Go.Proofs.YtoefekkdjcflmaaGreatDoor
open Go.RowKit Go.Sort Qm
def kc7Ops : Array Oper := #[
 ⟨some 66, .move (.tmp 0), 143, "kalman.go:123", #[], none⟩,
 ⟨some 67, .fieldAddr 31 (.tmp 7) 1, 0, "kalman.go:123", #[], none⟩,
 ⟨some 68, .load 29 (.tmp 67), 29, "kalman.go:123", #[eD 1], none⟩,
 ⟨some 69, .load 29 (.tmp 17), 29, "kalman.go:123", #[], none⟩,
 ⟨some 70, .call ⟨.value (.func 113), #[.tmp 69], #[29]⟩, 145, "kalman.go:123", #[eD 3], none⟩,
 ⟨some 71, .load 29 (.tmp 17), 29, "kalman.go:123", #[], none⟩,
 ⟨some 72, .call ⟨.value (.func 115), #[.tmp 71], #[29]⟩, 29, "kalman.go:123", #[eD 5, eC 4], none⟩,
 ⟨some 73, .call ⟨.value (.func 114), #[.tmp 72], #[29]⟩, 145, "kalman.go:123", #[eD 6, eC 6], none⟩,
 ⟨some 74, .load 29 (.tmp 18), 29, "kalman.go:123", #[], none⟩,
 ⟨some 75, .call ⟨.value (.func 116), #[.tmp 74], #[29]⟩, 145, "kalman.go:123", #[eD 8, eC 7], none⟩,
 ⟨some 76, .buildSlice 183 3 #[(0, .tmp 70), (1, .tmp 73), (2, .tmp 75)], 183, "kalman.go:123", #[eD 4, eD 7, eD 9], none⟩,
 ⟨some 77, .call ⟨.value (.func 111), #[.tmp 66, .tmp 68, .tmp 76], #[143, 29, 183]⟩, 29, "kalman.go:123", #[eD 0, eD 2, eD 10, eC 9], none⟩,
 ⟨some 19, .alloc 29, 0, "kalman.go:123", #[], none⟩,
 ⟨none, .store 29 (.tmp 19) (.tmp 77), 0, "kalman.go:123", #[eD 12, eD 11, eC 11, eP 0, eP 1, eP 2, eP 3, eP 4, eP 5, eP 6, eP 7, eP 8, eP 9, eP 10, eP 11, eP 12], none⟩]
def kc7Dst (i : Nat) : Nat := [66, 67, 68, 69, 70, 71, 72, 73, 74, 75, 76, 77, 19, 1000].getD i 0
def kc7Fr (N : Nat) (D7 : Nat) (D17 : Nat) (D18 : Nat) (u1 u2 u3 u4 u5 u6 u8 u9 u10 u11 u12 u13 u14 u15 u16 u20 u21 u22 u23 u24 u25 u26 u27 u28 u29 u30 u31 u32 u33 u34 u35 u36 u37 u38 u39 u40 u41 u42 u43 u44 u45 u46 u47 u48 u49 u50 u51 u52 u53 u54 u55 u56 u57 u58 u59 u60 u61 u62 u63 u64 u65 u78 u79 u80 u81 : Value) (vs : Nat → Value) : Act := ⟨#[.func (.func 112) #[.pointer (some ⟨N, 0, none⟩)] #[], u1, u2, u3, u4, u5, u6, .pointer (some ⟨D7, 0, none⟩), u8, u9, u10, u11, u12, u13, u14, u15, u16, .pointer (some ⟨D17, 0, none⟩), .pointer (some ⟨D18, 0, none⟩), vs 19, u20, u21, u22, u23, u24, u25, u26, u27, u28, u29, u30, u31, u32, u33, u34, u35, u36, u37, u38, u39, u40, u41, u42, u43, u44, u45, u46, u47, u48, u49, u50, u51, u52, u53, u54, u55, u56, u57, u58, u59, u60, u61, u62, u63, u64, u65, vs 66, vs 67, vs 68, vs 69, vs 70, vs 71, vs 72, vs 73, vs 74, vs 75, vs 76, vs 77, u78, u79, u80, u81], []⟩
def kc7T (B : Nat) (m0 : Bool) (N : Nat) (D7 : Nat) (n : Nat) (po : Option Addr) (pcap : Nat) (io : Option Addr) (icap : Nat) (zo : Option Addr) (zcap : Nat) (is : List Int) (zs : List Int) (ts : List Int) (X0 X1 X2 X3 : List Int) (b0 b1 b2 : Bool) : Nat → Value → Value → (Nat → Prop) → World → Prop
  | 0, v, _, _, _ => v = .func (.func 112) #[.pointer (some ⟨N, 0, none⟩)] #[]
  | 1, v, _, _, _ => v = .pointer (some ⟨D7, 3, none⟩)
  | 2, v, _, _, _ => v = .agg #[.int .i64 n, .int .i64 n, .slice po X0.length pcap]
  | 3, v, _, _, _ => v = .agg #[.int .i64 n, .int .i64 n, .slice io is.length icap]
  | 4, v, _, S, w => StepV B N n n X0 n n X1 b0 v S w
  | 5, v, _, _, _ => v = .agg #[.int .i64 n, .int .i64 n, .slice io is.length icap]
  | 6, v, _, S, w => TMat B n n ts v S w
  | 7, v, _, S, w => StepV B N n n X1 n n X2 b1 v S w
  | 8, v, _, _, _ => v = .agg #[.int .i64 n, .int .i64 n, .slice zo zs.length zcap]
  | 9, v, _, S, w => StepV B N n n X2 n n X3 b2 v S w
  | 10, v, _, S, w => TSl B [StepV B N n n X0 n n X1 b0, StepV B N n n X1 n n X2 b1, StepV B N n n X2 n n X3 b2] v S w
  | 11, v, _, S, w => TRes B N n n X3 (m0 || anyB (fun i => [b0, b1, b2].getD i false) 3) v S w
  | 12, v, _, S, w => TPtr B v S w
  | 13, _, u, S, w => TSto B n n X3 u S w
  | _, _, _, _, _ => True
set_option maxRecDepth 40000 in
set_option maxHeartbeats 400000 in
theorem kc7_region {Q : Exit → Act → World → Prop} {w0 : World} {m0 : Bool} {N : Nat} {D7 : Nat} {D17 : Nat} {D18 : Nat} {n : Nat} {po : Option Addr} {pcap : Nat} {io : Option Addr} {icap : Nat} {zo : Option Addr} {zcap : Nat} {is : List Int} {zs : List Int} {ts : List Int} {u1 u2 u3 u4 u5 u6 u8 u9 u10 u11 u12 u13 u14 u15 u16 u20 u21 u22 u23 u24 u25 u26 u27 u28 u29 u30 u31 u32 u33 u34 u35 u36 u37 u38 u39 u40 u41 u42 u43 u44 u45 u46 u47 u48 u49 u50 u51 u52 u53 u54 u55 u56 u57 u58 u59 u60 u61 u62 u63 u64 u65 u78 u79 u80 u81 : Value} (X0 X1 X2 X3 : List Int) (b0 b1 b2 : Bool) (hN : w0.heap[N]? = some (.cells #[.bool m0, .int .i64 0] 141 (0, 0))) (hpos : ∀ i, i ≤ 3 → 0 < ([X0, X1, X2, X3].getD i []).length)
    (cP : ∀ w, Mod (fun b => b = N) w0 w → w.cell? ⟨D7, 3, none⟩ = some (.int .i64 n) ∧ w.cell? ⟨D7, 4, none⟩ = some (.int .i64 n) ∧ w.cell? ⟨D7, 5, none⟩ = some (.slice po X0.length pcap))
    (cI : ∀ w, Mod (fun b => b = N) w0 w → w.cell? ⟨D17, 0, none⟩ = some (.int .i64 n) ∧ w.cell? ⟨D17, 1, none⟩ = some (.int .i64 n) ∧ w.cell? ⟨D17, 2, none⟩ = some (.slice io is.length icap))
    (cZ : ∀ w, Mod (fun b => b = N) w0 w → w.cell? ⟨D18, 0, none⟩ = some (.int .i64 n) ∧ w.cell? ⟨D18, 1, none⟩ = some (.int .i64 n) ∧ w.cell? ⟨D18, 2, none⟩ = some (.slice zo zs.length zcap))
    (sP : Sees w0 (.slice po X0.length pcap) X0) (oP : Old w0.heap.size N (.slice po X0.length pcap))
    (sI : Sees w0 (.slice io is.length icap) is) (oI : Old w0.heap.size N (.slice io is.length icap))
    (sZ : Sees w0 (.slice zo zs.length zcap) zs) (oZ : Old w0.heap.size N (.slice zo zs.length zcap))
    (kT72 : ∀ w, Mod (fun b => b = N) w0 w → Calls Tryz.prog 115 #[.agg #[.int .i64 n, .int .i64 n, .slice io is.length icap]] w fun e b => ∃ v, e = .returned (.agg #[.int .i64 n, .int .i64 n, v]) ∧ Sees b v ts ∧ New w.heap.size v ∧ Below w.heap.size w b) (z72 : 0 < ts.length)
    (st0 : ∀ w A va S, w.heap[A]? = some (.cells #[.int .i64 n, .int .i64 n, va] 29 (0, 0)) → S A → Sees w va is → OkS w0.heap.size N S va → StepV w0.heap.size N n n X0 n n X1 b0 (.func (.func 156) #[] #[.pointer (some ⟨A, 0, none⟩)]) S w)
    (st1 : ∀ w A va S, w.heap[A]? = some (.cells #[.int .i64 n, .int .i64 n, va] 29 (0, 0)) → S A → Sees w va ts → OkS w0.heap.size N S va → StepV w0.heap.size N n n X1 n n X2 b1 (.func (.func 158) #[] #[.pointer (some ⟨A, 0, none⟩)]) S w)
    (st2 : ∀ w A va S, w.heap[A]? = some (.cells #[.int .i64 n, .int .i64 n, va] 29 (0, 0)) → S A → Sees w va zs → OkS w0.heap.size N S va → StepV w0.heap.size N n n X2 n n X3 b2 (.func (.func 164) #[] #[.pointer (some ⟨A, 0, none⟩)]) S w)
    (hQ : ∀ vs D ao cap w, Mod (fun b => b = N) w0 w → vs 19 = .pointer (some ⟨D, 0, none⟩) → w0.heap.size ≤ D → w.heap[D]? = some (.cells #[.int .i64 n, .int .i64 n, .slice ao X3.length cap] 29 (0, 0)) → Sees w (.slice ao X3.length cap) X3 → (∀ q, (Value.slice ao X3.length cap).ownBlock = some q → w0.heap.size ≤ q) → w.heap[N]? = some (.cells #[.bool (m0 || anyB (fun i => [b0, b1, b2].getD i false) 3), .int .i64 0] 141 (0, 0)) → Q .normal (kc7Fr N D7 D17 D18 u1 u2 u3 u4 u5 u6 u8 u9 u10 u11 u12 u13 u14 u15 u16 u20 u21 u22 u23 u24 u25 u26 u27 u28 u29 u30 u31 u32 u33 u34 u35 u36 u37 u38 u39 u40 u41 u42 u43 u44 u45 u46 u47 u48 u49 u50 u51 u52 u53 u54 u55 u56 u57 u58 u59 u60 u61 u62 u63 u64 u65 u78 u79 u80 u81 vs) w) :
    (Code.region 7 kc7Ops true).wp Tryz.prog Q (kc7Fr N D7 D17 D18 u1 u2 u3 u4 u5 u6 u8 u9 u10 u11 u12 u13 u14 u15 u16 u20 u21 u22 u23 u24 u25 u26 u27 u28 u29 u30 u31 u32 u33 u34 u35 u36 u37 u38 u39 u40 u41 u42 u43 u44 u45 u46 u47 u48 u49 u50 u51 u52 u53 u54 u55 u56 u57 u58 u59 u60 u61 u62 u63 u64 u65 u78 u79 u80 u81 (fun _ => undef)) w0 := by
  refine wp_region_own (by kernel_rfl) (by decide) kc7Dst (by decide) (kc7Fr N D7 D17 D18 u1 u2 u3 u4 u5 u6 u8 u9 u10 u11 u12 u13 u14 u15 u16 u20 u21 u22 u23 u24 u25 u26 u27 u28 u29 u30 u31 u32 u33 u34 u35 u36 u37 u38 u39 u40 u41 u42 u43 u44 u45 u46 u47 u48 u49 u50 u51 u52 u53 u54 u55 u56 u57 u58 u59 u60 u61 u62 u63 u64 u65 u78 u79 u80 u81) (fun _ => undef) (fun i => if i = 13 then 12 else i) (by decide) (fun b => b = N) (fun q hq => by subst hq; exact lt_of_block hN) (fun i q => i = 11 ∧ q = N) (fun i q h => h.2) (fun i j q h h' => h.1.trans h'.1.symm)
    (fun s j => s = 13 ∧ j = 12) (fun s j h => by obtain ⟨rfl, rfl⟩ := h; exact ⟨by decide, by decide⟩) (fun s j h => by obtain ⟨rfl, rfl⟩ := h; decide) (kc7T w0.heap.size m0 N D7 n po pcap io icap zo zcap is zs ts X0 X1 X2 X3 b0 b1 b2) ?_ ?_ ?_
  · intro i v u S w w' hi h hw hw' hz hS
    have ha : Agr w0.heap.size N S w w' := agr_of hw hw' hz hS
    have hi' : i < 14 := hi
    rcases (by omega : i = 0 ∨ i = 1 ∨ i = 2 ∨ i = 3 ∨ i = 4 ∨ i = 5 ∨ i = 6 ∨ i = 7 ∨ i = 8 ∨ i = 9 ∨ i = 10 ∨ i = 11 ∨ i = 12 ∨ i = 13) with rfl | rfl | rfl | rfl | rfl | rfl | rfl | rfl | rfl | rfl | rfl | rfl | rfl | rfl
    · exact h
    · exact h
    · exact h
    · exact h
    · exact StepV.stab h ha
    · exact h
    · exact TMat.stab h ha
    · exact StepV.stab h ha
    · exact h
    · exact StepV.stab h ha
    · exact TSl.stab h (fun t ht u htu => (by simp only [List.mem_cons, List.not_mem_nil, or_false] at ht; rcases ht with rfl | rfl | rfl <;> exact StepV.stab htu ha)) ha
    · exact TRes.stab h ha
    · exact TPtr.stab h ha
    · exact TSto.stab h ha
  · intro i hi vs w S hb hp hbd hwr hkl _
    have hi' : i < 14 := hi
    rcases (by omega : i = 0 ∨ i = 1 ∨ i = 2 ∨ i = 3 ∨ i = 4 ∨ i = 5 ∨ i = 6 ∨ i = 7 ∨ i = 8 ∨ i = 9 ∨ i = 10 ∨ i = 11 ∨ i = 12 ∨ i = 13) with rfl | rfl | rfl | rfl | rfl | rfl | rfl | rfl | rfl | rfl | rfl | rfl | rfl | rfl
    · exact wpOp_of _ rfl rfl (op_move rfl rfl ⟨_, fun _ => False, rfl, rfl, fun _ h => h.elim, fun _ _ h => h.elim, Mod.refl _ _⟩)
    · exact wpOp_of _ rfl rfl (op_fieldT (i := 1) (by decide) rfl rfl ⟨_, fun _ => False, rfl, rfl, fun _ h => h.elim, fun _ _ h => h.elim, Mod.refl _ _⟩)
    · have h1 : vs 67 = .pointer (some ⟨D7, 3, none⟩) := hp 1 (by decide)
      exact wpOp_of _ rfl rfl (op_loadM rfl h1 (cP w hb).1 (cP w hb).2.1 (cP w hb).2.2 ⟨_, fun _ => False, rfl, rfl, fun _ h => h.elim, fun _ _ h => h.elim, Mod.refl _ _⟩)
    · exact wpOp_of _ rfl rfl (op_loadM rfl rfl (cI w hb).1 (cI w hb).2.1 (cI w hb).2.2 ⟨_, fun _ => False, rfl, rfl, fun _ h => h.elim, fun _ _ h => h.elim, Mod.refl _ _⟩)
    · have h3 : vs 69 = .agg #[.int .i64 n, .int .i64 n, .slice io is.length icap] := hp 3 (by decide)
      exact wpOp_of _ rfl rfl (op_call1 enters_mleft rfl h3 (left_any _ _ _ _ _ w) (by rintro e b ⟨rfl, rfl⟩; exact ⟨_, rfl, _, fun q => q = w.heap.size, rfl, st0 _ _ _ _ (heap_new _ _) rfl ((sI.mod oI hb).alloc _) (oI.ok _), fun q hq => .inr (.inl (by subst hq; simp)), fun h => by obtain ⟨s9, h9⟩ := h; exact absurd h9.2 (by decide), Mod.of (box_below w _)⟩))
    · exact wpOp_of _ rfl rfl (op_loadM rfl rfl (cI w hb).1 (cI w hb).2.1 (cI w hb).2.2 ⟨_, fun _ => False, rfl, rfl, fun _ h => h.elim, fun _ _ h => h.elim, Mod.refl _ _⟩)
    · have h5 : vs 71 = .agg #[.int .i64 n, .int .i64 n, .slice io is.length icap] := hp 5 (by decide)
      exact wpOp_of _ rfl rfl (op_call1 enters_trans rfl h5 (kT72 w hb) (by rintro e b ⟨v, rfl, s', n', b'⟩; have hl := s'.lt z72; obtain ⟨so, sc, rfl⟩ := s'.slice; exact ⟨_, rfl, _, fun q => (Value.slice so ts.length sc).ownBlock = some q, rfl, ⟨so, sc, rfl, s', fun q hq => ⟨hq, Nat.le_trans hb.size (n' q hq)⟩⟩, fun q hq => .inr (.inl ⟨n' q hq, hl q hq⟩), fun h => by obtain ⟨s9, h9⟩ := h; exact absurd h9.2 (by decide), Mod.of b'⟩))
    · obtain ⟨so, sc, h6, s6, n6⟩ : TMat w0.heap.size n n ts (vs 72) (S 6) w := hp 6 (by decide)
      exact wpOp_of _ rfl rfl (op_call1 enters_mrght rfl h6 (rght_any _ _ _ _ _ w) (by rintro e b ⟨rfl, rfl⟩; exact ⟨_, rfl, _, fun q => q = w.heap.size ∨ S 6 q, rfl, st1 _ _ _ _ (heap_new _ _) (.inl rfl) (s6.alloc _) (fun q hq => .inl (.inr (n6 q hq).1)), fun q hq => hq.elim (fun h => .inr (.inl (by subst h; simp))) (fun h => .inl ⟨6, by decide, h⟩), fun h => by obtain ⟨s9, h9⟩ := h; exact absurd h9.2 (by decide), Mod.of (box_below w _)⟩))
    · exact wpOp_of _ rfl rfl (op_loadM rfl rfl (cZ w hb).1 (cZ w hb).2.1 (cZ w hb).2.2 ⟨_, fun _ => False, rfl, rfl, fun _ h => h.elim, fun _ _ h => h.elim, Mod.refl _ _⟩)
    · have h8 : vs 74 = .agg #[.int .i64 n, .int .i64 n, .slice zo zs.length zcap] := hp 8 (by decide)
      exact wpOp_of _ rfl rfl (op_call1 enters_mplus rfl h8 (plus_any _ _ _ _ _ w) (by rintro e b ⟨rfl, rfl⟩; exact ⟨_, rfl, _, fun q => q = w.heap.size, rfl, st2 _ _ _ _ (heap_new _ _) rfl ((sZ.mod oZ hb).alloc _) (oZ.ok _), fun q hq => .inr (.inl (by subst hq; simp)), fun h => by obtain ⟨s9, h9⟩ := h; exact absurd h9.2 (by decide), Mod.of (box_below w _)⟩))
    · have t0 : StepV w0.heap.size N n n X0 n n X1 b0 (vs 70) (S 4) w := hp 4 (by decide)
      obtain ⟨F0, c0, e0, _⟩ := id t0
      have t1 : StepV w0.heap.size N n n X1 n n X2 b1 (vs 73) (S 7) w := hp 7 (by decide)
      obtain ⟨F1, c1, e1, _⟩ := id t1
      have t2 : StepV w0.heap.size N n n X2 n n X3 b2 (vs 75) (S 9) w := hp 9 (by decide)
      obtain ⟨F2, c2, e2, _⟩ := id t2
      have hX : ∀ j, j < 3 → ∀ q, ([S 4, S 7, S 9].getD j (fun _ => False)) q → q < w.heap.size := by
        intro j hj q hq
        rcases (by omega : j = 0 ∨ j = 1 ∨ j = 2) with rfl | rfl | rfl
        · exact (hbd 4 (by decide) q hq).1
        · exact (hbd 7 (by decide) q hq).1
        · exact (hbd 9 (by decide) q hq).1
      have t0' : StepV w0.heap.size N n n X0 n n X1 b0 (.func (.func F0) #[] c0) (fun q => q = w.heap.size ∨ S 4 q ∨ S 7 q ∨ S 9 q) (w.alloc (.cells #[.func (.func F0) #[] c0, .func (.func F1) #[] c1, .func (.func F2) #[] c2] 145)) := by
        have z := (t0.stab (w' := w.alloc (.cells #[.func (.func F0) #[] c0, .func (.func F1) #[] c1, .func (.func F2) #[] c2] 145)) ⟨(box_below w _).size, fun q hq => (box_below w _).block q (hq.elim (fun h => hX 0 (by decide) q h) (fun h => Nat.lt_of_lt_of_le h.1 hb.size))⟩).mono (S' := fun q => q = w.heap.size ∨ S 4 q ∨ S 7 q ∨ S 9 q) (fun q h => .inr (.inl h))
        rw [e0] at z
        exact z
      have t1' : StepV w0.heap.size N n n X1 n n X2 b1 (.func (.func F1) #[] c1) (fun q => q = w.heap.size ∨ S 4 q ∨ S 7 q ∨ S 9 q) (w.alloc (.cells #[.func (.func F0) #[] c0, .func (.func F1) #[] c1, .func (.func F2) #[] c2] 145)) := by
        have z := (t1.stab (w' := w.alloc (.cells #[.func (.func F0) #[] c0, .func (.func F1) #[] c1, .func (.func F2) #[] c2] 145)) ⟨(box_below w _).size, fun q hq => (box_below w _).block q (hq.elim (fun h => hX 1 (by decide) q h) (fun h => Nat.lt_of_lt_of_le h.1 hb.size))⟩).mono (S' := fun q => q = w.heap.size ∨ S 4 q ∨ S 7 q ∨ S 9 q) (fun q h => .inr (.inr (.inl h)))
        rw [e1] at z
        exact z
      have t2' : StepV w0.heap.size N n n X2 n n X3 b2 (.func (.func F2) #[] c2) (fun q => q = w.heap.size ∨ S 4 q ∨ S 7 q ∨ S 9 q) (w.alloc (.cells #[.func (.func F0) #[] c0, .func (.func F1) #[] c1, .func (.func F2) #[] c2] 145)) := by
        have z := (t2.stab (w' := w.alloc (.cells #[.func (.func F0) #[] c0, .func (.func F1) #[] c1, .func (.func F2) #[] c2] 145)) ⟨(box_below w _).size, fun q hq => (box_below w _).block q (hq.elim (fun h => hX 2 (by decide) q h) (fun h => Nat.lt_of_lt_of_le h.1 hb.size))⟩).mono (S' := fun q => q = w.heap.size ∨ S 4 q ∨ S 7 q ∨ S 9 q) (fun q h => .inr (.inr (.inr (h))))
        rw [e2] at z
        exact z
      have hTS : ∀ (i : Nat) (t : Value → (Nat → Prop) → World → Prop) (u : Value), [StepV w0.heap.size N n n X0 n n X1 b0, StepV w0.heap.size N n n X1 n n X2 b1, StepV w0.heap.size N n n X2 n n X3 b2][i]? = some t → [.func (.func F0) #[] c0, .func (.func F1) #[] c1, .func (.func F2) #[] c2][i]? = some u → t u (fun q => q = w.heap.size ∨ S 4 q ∨ S 7 q ∨ S 9 q) (w.alloc (.cells #[.func (.func F0) #[] c0, .func (.func F1) #[] c1, .func (.func F2) #[] c2] 145)) := by
        intro i t u ht hu
        have hi : i < 3 := by have := (List.getElem?_eq_some_iff.1 ht).1; simpa using this
        rcases (by omega : i = 0 ∨ i = 1 ∨ i = 2) with rfl | rfl | rfl
        · cases ht; cases hu; exact t0'
        · cases ht; cases hu; exact t1'
        · cases ht; cases hu; exact t2'
      exact wpOp_of _ rfl rfl (op_slice3 rfl e0 e1 e2 ⟨_, fun q => q = w.heap.size ∨ S 4 q ∨ S 7 q ∨ S 9 q, rfl, ⟨w.heap.size, [.func (.func F0) #[] c0, .func (.func F1) #[] c1, .func (.func F2) #[] c2], rfl, .inl rfl, hb.size, rfl, heap_new _ _, hTS⟩, fun q hq => hq.elim (fun h => .inr (.inl (by subst h; simp))) (fun h => h.elim (fun h => .inl ⟨4, by decide, h⟩) (fun h => h.elim (fun h => .inl ⟨7, by decide, h⟩) (fun h => .inl ⟨9, by decide, h⟩))), fun h => (by obtain ⟨s9, h9⟩ := h; exact absurd h9.2 (by decide)), Mod.of (box_below w _)⟩)
    · have h0 : vs 66 = .func (.func 112) #[.pointer (some ⟨N, 0, none⟩)] #[] := hp 0 (by decide)
      have h2 : vs 68 = .agg #[.int .i64 n, .int .i64 n, .slice po X0.length pcap] := hp 2 (by decide)
      have hT : TSl w0.heap.size [StepV w0.heap.size N n n X0 n n X1 b0, StepV w0.heap.size N n n X1 n n X2 b1, StepV w0.heap.size N n n X2 n n X3 b2] (vs 76) (S 10) w := hp 10 (by decide)
      have hn0 : w.heap[N]? = some (.cells #[.bool m0, .int .i64 0] 141 (0, 0)) := (hwr N rfl (fun j h => ⟨by rw [h.1]; decide, .inl h.1⟩)).trans hN
      exact wpOp_of _ rfl rfl (op_call3 enters_kreck rfl h0 h2 rfl (reck_call 3 (by decide) (by decide) (fun i => [n, n, n, n].getD i 0) (fun i => [n, n, n, n].getD i 0) (fun i => [X0, X1, X2, X3].getD i []) (fun i => [b0, b1, b2].getD i false) N m0 w0 w _ _ (S 10) hb hn0 (hT) (fun b hSb => ⟨(hbd 10 (by decide) b hSb).1, fun e => (hbd 10 (by decide) b hSb).2 ⟨rfl, e⟩⟩) hpos (sP.mod oP hb) (fun b hb' => (oP b hb').2)) (by rintro e b ⟨x, S', rfl, hR, hS', hM⟩; exact ⟨_, rfl, _, S', rfl, hR, fun q hq => (hS' q hq).elim (fun h => .inr (.inl h)) (fun h => .inr (.inr ⟨rfl, h⟩)), fun h => by obtain ⟨s9, h9⟩ := h; exact absurd h9.2 (by decide), hM.mono fun q _ hq => .inl ⟨rfl, hq⟩⟩))
    · exact wpOp_of _ rfl rfl (op_alloc24 rfl ⟨_, fun b => b = w.heap.size, rfl, ⟨_, rfl, rfl, hb.size, _, _, _, heap_new _ _⟩, fun b h => .inr (.inl (by subst h; simp)), fun _ b h => .inl (by omega), Mod.of (box_below w _)⟩)
    · obtain ⟨D, hD, hSD, hBD, x, y, z, hbl⟩ : TPtr w0.heap.size (vs 19) (S 12) w := hp 12 (by decide)
      obtain ⟨⟨ao, cap, hf, hs, hso⟩, _⟩ : TRes w0.heap.size N n n X3 (m0 || anyB (fun i => [b0, b1, b2].getD i false) 3) (vs 77) (S 11) w := hp 11 (by decide)
      have hne : ∀ q, (Value.slice ao X3.length cap).ownBlock = some q → q ≠ D := fun q hq e => hkl 12 ⟨rfl, rfl⟩ 11 (by decide) (by decide) D hSD (e ▸ (hso q hq).1)
      refine wpOp_of _ rfl rfl (op_store24 rfl rfl hD hf hbl ?_)
      refine ⟨undef, fun q => q = D ∨ S 11 q, rfl, ⟨D, ao, cap, hD, .inl rfl, hBD, put_mat hbl, ((hs.set' (a := ⟨D, 0, none⟩) hne _).set' (a := ⟨D, 1, none⟩) hne _).set' (a := ⟨D, 2, none⟩) hne _, fun q hq => ⟨.inr (hso q hq).1, (hso q hq).2⟩⟩, fun q hq => hq.elim (fun h => .inl ⟨12, by decide, h ▸ hSD⟩) (fun h => .inl ⟨11, by decide, h⟩), fun h => by obtain ⟨s9, h9⟩ := h; exact absurd h9.2 (by decide), ?_⟩
      refine ⟨rfl, rfl, rfl, by simp [World.setCell], fun q hq hq' => ?_⟩
      have hqD : q ≠ D := fun e => hq' (.inr ⟨12, ⟨rfl, rfl⟩, e ▸ hSD⟩)
      rw [Below.heap_setCell _ _ _ _ hqD, Below.heap_setCell _ _ _ _ hqD, Below.heap_setCell _ _ _ _ hqD]
  · intro vs w S hb hT
    obtain ⟨D, ao, cap, h1, _, h3, h4, h5, h6⟩ : TSto w0.heap.size n n X3 (vs 19) (S 13) w := hT 13 (by decide) (fun s h => by omega)
    obtain ⟨_, _, h7⟩ : TRes w0.heap.size N n n X3 (m0 || anyB (fun i => [b0, b1, b2].getD i false) 3) (vs 77) (S 11) w := hT 11 (by decide) (fun s h => by omega)
    exact hQ vs D ao cap w hb h1 h3 h4 h5 (fun q hq => (h6 q hq).2) h7
theorem enters_goodc : ∀ (args : Array Value) (a : World), Sem.run Tryz.prog (callFunc 117 args) a = Result.ok (Next.enter 117 args) a := by
  intro args a
  simp [callFunc, Tryz.func117, go_sem]
  rfl
def kc8Ops : Array Oper := #[
 ⟨some 78, .load 29 (.tmp 14), 29, "kalman.go:124", #[], none⟩,
 ⟨some 79, .load 29 (.tmp 19), 29, "kalman.go:124", #[], none⟩,
 ⟨some 80, .call ⟨.value (.func 117), #[.tmp 79], #[29]⟩, 29, "kalman.go:124", #[eD 1], none⟩,
 ⟨some 81, .build 31 #[(0, .tmp 78), (1, .tmp 80)], 31, "kalman.go:124", #[eD 0, eD 2], none⟩,
 ⟨none, .store 31 (.tmp 12) (.tmp 81), 0, "kalman.go:124", #[eD 3, eC 2, eP 0, eP 1, eP 2, eP 3], none⟩]
def kc8Dst (i : Nat) : Nat := [78, 79, 80, 81, 1000].getD i 0
def kc8Fr (D12 : Nat) (D14 : Nat) (D19 : Nat) (u0 u1 u2 u3 u4 u5 u6 u7 u8 u9 u10 u11 u13 u15 u16 u17 u18 u20 u21 u22 u23 u24 u25 u26 u27 u28 u29 u30 u31 u32 u33 u34 u35 u36 u37 u38 u39 u40 u41 u42 u43 u44 u45 u46 u47 u48 u49 u50 u51 u52 u53 u54 u55 u56 u57 u58 u59 u60 u61 u62 u63 u64 u65 u66 u67 u68 u69 u70 u71 u72 u73 u74 u75 u76 u77 : Value) (vs : Nat → Value) : Act := ⟨#[u0, u1, u2, u3, u4, u5, u6, u7, u8, u9, u10, u11, .pointer (some ⟨D12, 0, none⟩), u13, .pointer (some ⟨D14, 0, none⟩), u15, u16, u17, u18, .pointer (some ⟨D19, 0, none⟩), u20, u21, u22, u23, u24, u25, u26, u27, u28, u29, u30, u31, u32, u33, u34, u35, u36, u37, u38, u39, u40, u41, u42, u43, u44, u45, u46, u47, u48, u49, u50, u51, u52, u53, u54, u55, u56, u57, u58, u59, u60, u61, u62, u63, u64, u65, u66, u67, u68, u69, u70, u71, u72, u73, u74, u75, u76, u77, vs 78, vs 79, vs 80, vs 81], []⟩
def kc8T (B Lo : Nat) (D12 : Nat) (n : Nat) (xo : Option Addr) (xcap : Nat) (po : Option Addr) (pcap : Nat) (xs : List Int) (qs : List Int) (zs : List Int) : Nat → Value → Value → (Nat → Prop) → World → Prop
  | 0, v, _, _, _ => v = .agg #[.int .i64 n, .int .i64 1, .slice xo xs.length xcap]
  | 1, v, _, _, _ => v = .agg #[.int .i64 n, .int .i64 n, .slice po qs.length pcap]
  | 2, v, _, S, w => TMat B n n zs v S w
  | 3, v, _, S, w => TTrk B D12 Lo n 1 n n xs zs v S w
  | 4, _, _, S, w => TStT B D12 Lo n 1 n n xs zs S w
  | _, _, _, _, _ => True
set_option maxRecDepth 40000 in
set_option maxHeartbeats 400000 in
theorem kc8_region {Q : Exit → Act → World → Prop} {w0 : World} {D12 : Nat} {D14 : Nat} {D19 : Nat} {n : Nat} {xo : Option Addr} {xcap : Nat} {po : Option Addr} {pcap : Nat} {xs : List Int} {qs : List Int} {zs : List Int} (Lo : Nat)  {u0 u1 u2 u3 u4 u5 u6 u7 u8 u9 u10 u11 u13 u15 u16 u17 u18 u20 u21 u22 u23 u24 u25 u26 u27 u28 u29 u30 u31 u32 u33 u34 u35 u36 u37 u38 u39 u40 u41 u42 u43 u44 u45 u46 u47 u48 u49 u50 u51 u52 u53 u54 u55 u56 u57 u58 u59 u60 u61 u62 u63 u64 u65 u66 u67 u68 u69 u70 u71 u72 u73 u74 u75 u76 u77 : Value} {x0 x1 x2 x3 x4 x5 : Value} (hN : w0.heap[D12]? = some (.cells #[x0, x1, x2, x3, x4, x5] 31 (0, 0)))
    (hLo : Lo ≤ w0.heap.size) (nX : New Lo (.slice xo xs.length xcap))
    (cX : ∀ w, Mod (fun b => b = D12) w0 w → w.cell? ⟨D14, 0, none⟩ = some (.int .i64 n) ∧ w.cell? ⟨D14, 1, none⟩ = some (.int .i64 1) ∧ w.cell? ⟨D14, 2, none⟩ = some (.slice xo xs.length xcap))
    (cP : ∀ w, Mod (fun b => b = D12) w0 w → w.cell? ⟨D19, 0, none⟩ = some (.int .i64 n) ∧ w.cell? ⟨D19, 1, none⟩ = some (.int .i64 n) ∧ w.cell? ⟨D19, 2, none⟩ = some (.slice po qs.length pcap))
    (sX : Sees w0 (.slice xo xs.length xcap) xs) (oX : Old w0.heap.size D12 (.slice xo xs.length xcap))
    (kG : ∀ w, Mod (fun b => b = D12) w0 w → Calls Tryz.prog 117 #[.agg #[.int .i64 n, .int .i64 n, .slice po qs.length pcap]] w fun e b => ∃ v, e = .returned (.agg #[.int .i64 n, .int .i64 n, v]) ∧ Sees b v zs ∧ New w.heap.size v ∧ Below w.heap.size w b) (z_zs : 0 < zs.length)
    (hQ : ∀ vs ao ac bo bc w, Mod (fun b => b = D12) w0 w → w.heap[D12]? = some (.cells #[.int .i64 n, .int .i64 1, .slice ao xs.length ac, .int .i64 n, .int .i64 n, .slice bo zs.length bc] 31 (0, 0)) → Sees w (.slice ao xs.length ac) xs → Sees w (.slice bo zs.length bc) zs → New Lo (.slice ao xs.length ac) → New Lo (.slice bo zs.length bc) → Q .normal (kc8Fr D12 D14 D19 u0 u1 u2 u3 u4 u5 u6 u7 u8 u9 u10 u11 u13 u15 u16 u17 u18 u20 u21 u22 u23 u24 u25 u26 u27 u28 u29 u30 u31 u32 u33 u34 u35 u36 u37 u38 u39 u40 u41 u42 u43 u44 u45 u46 u47 u48 u49 u50 u51 u52 u53 u54 u55 u56 u57 u58 u59 u60 u61 u62 u63 u64 u65 u66 u67 u68 u69 u70 u71 u72 u73 u74 u75 u76 u77 vs) w) :
    (Code.region 8 kc8Ops true).wp Tryz.prog Q (kc8Fr D12 D14 D19 u0 u1 u2 u3 u4 u5 u6 u7 u8 u9 u10 u11 u13 u15 u16 u17 u18 u20 u21 u22 u23 u24 u25 u26 u27 u28 u29 u30 u31 u32 u33 u34 u35 u36 u37 u38 u39 u40 u41 u42 u43 u44 u45 u46 u47 u48 u49 u50 u51 u52 u53 u54 u55 u56 u57 u58 u59 u60 u61 u62 u63 u64 u65 u66 u67 u68 u69 u70 u71 u72 u73 u74 u75 u76 u77 (fun _ => undef)) w0 := by
  refine wp_region_own (by kernel_rfl) (by decide) kc8Dst (by decide) (kc8Fr D12 D14 D19 u0 u1 u2 u3 u4 u5 u6 u7 u8 u9 u10 u11 u13 u15 u16 u17 u18 u20 u21 u22 u23 u24 u25 u26 u27 u28 u29 u30 u31 u32 u33 u34 u35 u36 u37 u38 u39 u40 u41 u42 u43 u44 u45 u46 u47 u48 u49 u50 u51 u52 u53 u54 u55 u56 u57 u58 u59 u60 u61 u62 u63 u64 u65 u66 u67 u68 u69 u70 u71 u72 u73 u74 u75 u76 u77) (fun _ => undef) (fun i => i) (by decide) (fun b => b = D12) (fun q hq => by subst hq; exact lt_of_block hN) (fun i q => i = 4 ∧ q = D12) (fun i q h => h.2) (fun i j q h h' => h.1.trans h'.1.symm)
    (fun _ _ => False) (fun s j h => h.elim) (fun s j h => h.elim) (kc8T w0.heap.size Lo D12 n xo xcap po pcap xs qs zs) ?_ ?_ ?_
  · intro i v u S w w' hi h hw hw' hz hS
    have ha : Agr w0.heap.size D12 S w w' := agr_of hw hw' hz hS
    have hi' : i < 5 := hi
    rcases (by omega : i = 0 ∨ i = 1 ∨ i = 2 ∨ i = 3 ∨ i = 4) with rfl | rfl | rfl | rfl | rfl
    · exact h
    · exact h
    · exact TMat.stab h ha
    · exact TTrk.stab h ha
    · exact TStT.stab h ha
  · intro i hi vs w S hb hp hbd hwr _ _
    have hi' : i < 5 := hi
    rcases (by omega : i = 0 ∨ i = 1 ∨ i = 2 ∨ i = 3 ∨ i = 4) with rfl | rfl | rfl | rfl | rfl
    · exact wpOp_of _ rfl rfl (op_loadM rfl rfl (cX w hb).1 (cX w hb).2.1 (cX w hb).2.2 ⟨_, fun _ => False, rfl, rfl, fun _ h => h.elim, fun _ _ h => h.elim, Mod.refl _ _⟩)
    · exact wpOp_of _ rfl rfl (op_loadM rfl rfl (cP w hb).1 (cP w hb).2.1 (cP w hb).2.2 ⟨_, fun _ => False, rfl, rfl, fun _ h => h.elim, fun _ _ h => h.elim, Mod.refl _ _⟩)
    · have h1 : vs 79 = .agg #[.int .i64 n, .int .i64 n, .slice po qs.length pcap] := hp 1 (by decide)
      exact wpOp_of _ rfl rfl (op_call1 enters_goodc rfl h1 (kG w hb) (by rintro e b ⟨v, rfl, s', n', b'⟩; have hl := s'.lt z_zs; obtain ⟨so, sc, rfl⟩ := s'.slice; exact ⟨_, rfl, _, fun q => (Value.slice so zs.length sc).ownBlock = some q, rfl, ⟨so, sc, rfl, s', fun q hq => ⟨hq, Nat.le_trans hb.size (n' q hq)⟩⟩, fun q hq => .inr (.inl ⟨n' q hq, hl q hq⟩), fun h => h.elim fun _ h9 => h9.elim, Mod.of b'⟩))
    · have h0 : vs 78 = .agg #[.int .i64 n, .int .i64 1, .slice xo xs.length xcap] := hp 0 (by decide)
      obtain ⟨so, sc, h2, s2, n2⟩ : TMat w0.heap.size n n zs (vs 80) (S 2) w := hp 2 (by decide)
      exact wpOp_of _ rfl rfl (op_buildT rfl h0 h2 ⟨_, S 2, rfl, ⟨_, _, so, sc, rfl, sX.mod oX hb, s2, oX.ok _, fun q hq => .inl (n2 q hq).1, nX, fun q hq => Nat.le_trans hLo (n2 q hq).2⟩, fun q hq => .inl ⟨2, by decide, hq⟩, fun h => h.elim fun _ h9 => h9.elim, Mod.refl _ _⟩)
    · obtain ⟨ao, ac, bo, bc, hf, s1, s2, k1, k2, k3, k4⟩ : TTrk w0.heap.size D12 Lo n 1 n n xs zs (vs 81) (S 3) w := hp 3 (by decide)
      have hbl := (hwr D12 rfl (fun j h => ⟨by rw [h.1]; decide, .inl h.1⟩)).trans hN
      have hne : ∀ v, OkS w0.heap.size D12 (S 3) v → ∀ q, v.ownBlock = some q → q ≠ D12 := fun v hv q hq e => (hv q hq).elim (fun h => (hbd 3 (by decide) q h).2 ⟨rfl, e⟩) (fun h => h.2 e)
      refine wpOp_of _ rfl rfl (op_storeT rfl rfl rfl hf hbl ?_)
      refine ⟨undef, fun q => q = D12 ∨ S 3 q, rfl, ⟨.inl rfl, ao, ac, bo, bc, put_six hbl, s1.six (hne _ k1) _ _ _ _ _ _, s2.six (hne _ k2) _ _ _ _ _ _, fun q hq => (k1 q hq).imp .inr id, fun q hq => (k2 q hq).imp .inr id, k3, k4⟩, fun q hq => hq.elim (fun h => .inr (.inr ⟨rfl, h⟩)) (fun h => .inl ⟨3, by decide, h⟩), fun h => h.elim fun _ h9 => h9.elim, ?_⟩
      exact (mod_six _ _ _ _ _ _).mono fun q _ hq => .inl ⟨rfl, hq⟩
  · intro vs w S hb hT
    obtain ⟨_, ao, ac, bo, bc, h1, h2, h3, _, _, h4, h5⟩ : TStT w0.heap.size D12 Lo n 1 n n xs zs (S 4) w := hT 4 (by decide) (fun _ h => h)
    exact hQ vs ao ac bo bc w hb  h1 h2 h3 h4 h5
end Go.Proofs.YtoefekkdjcflmaaGreatDoor

