/- Parts of the proof. -/
import Derived.Test.YtoefekkdjcflmaaGreatDoorM14
namespace Go.Proofs.YtoefekkdjcflmaaGreatDoor
open Go.RowKit Go.Sort Qm
def kc1Ops : Array Oper := #[
 ⟨some 20, .move (.tmp 0), 143, "kalman.go:116", #[], none⟩,
 ⟨some 21, .fieldAddr 31 (.tmp 7) 1, 0, "kalman.go:116", #[], none⟩,
 ⟨some 22, .load 29 (.tmp 21), 29, "kalman.go:116", #[eD 1], none⟩,
 ⟨some 23, .load 29 (.tmp 8), 29, "kalman.go:116", #[], none⟩,
 ⟨some 24, .call ⟨.value (.func 115), #[.tmp 23], #[29]⟩, 29, "kalman.go:116", #[eD 3], none⟩,
 ⟨some 25, .call ⟨.value (.func 114), #[.tmp 24], #[29]⟩, 145, "kalman.go:116", #[eD 4, eC 4], none⟩,
 ⟨some 26, .makeFunc (.func 188) #[] #[.tmp 10], 117, "kalman.go:116", #[], none⟩,
 ⟨some 27, .call ⟨.value (.func 185), #[.tmp 26], #[117]⟩, 145, "kalman.go:117", #[eD 6, eC 5], none⟩,
 ⟨some 28, .buildSlice 183 2 #[(0, .tmp 25), (1, .tmp 27)], 183, "kalman.go:116", #[eD 5, eD 7], none⟩,
 ⟨some 29, .call ⟨.value (.func 111), #[.tmp 20, .tmp 22, .tmp 28], #[143, 29, 183]⟩, 29, "kalman.go:116", #[eD 0, eD 2, eD 8, eC 7], none⟩,
 ⟨some 13, .alloc 29, 0, "kalman.go:116", #[], none⟩,
 ⟨none, .store 29 (.tmp 13) (.tmp 29), 0, "kalman.go:116", #[eD 10, eD 9, eC 9, eP 0, eP 1, eP 2, eP 3, eP 4, eP 5, eP 6, eP 7, eP 8, eP 9, eP 10], none⟩]
def kc1Dst (i : Nat) : Nat := [20, 21, 22, 23, 24, 25, 26, 27, 28, 29, 13, 1000].getD i 0
def kc1Fr (N : Nat) (D7 : Nat) (D8 : Nat) (D10 : Nat) (u1 u2 u3 u4 u5 u6 u9 u11 u12 u14 u15 u16 u17 u18 u19 u30 u31 u32 u33 u34 u35 u36 u37 u38 u39 u40 u41 u42 u43 u44 u45 u46 u47 u48 u49 u50 u51 u52 u53 u54 u55 u56 u57 u58 u59 u60 u61 u62 u63 u64 u65 u66 u67 u68 u69 u70 u71 u72 u73 u74 u75 u76 u77 u78 u79 u80 u81 : Value) (vs : Nat → Value) : Act := ⟨#[.func (.func 112) #[.pointer (some ⟨N, 0, none⟩)] #[], u1, u2, u3, u4, u5, u6, .pointer (some ⟨D7, 0, none⟩), .pointer (some ⟨D8, 0, none⟩), u9, .pointer (some ⟨D10, 0, none⟩), u11, u12, vs 13, u14, u15, u16, u17, u18, u19, vs 20, vs 21, vs 22, vs 23, vs 24, vs 25, vs 26, vs 27, vs 28, vs 29, u30, u31, u32, u33, u34, u35, u36, u37, u38, u39, u40, u41, u42, u43, u44, u45, u46, u47, u48, u49, u50, u51, u52, u53, u54, u55, u56, u57, u58, u59, u60, u61, u62, u63, u64, u65, u66, u67, u68, u69, u70, u71, u72, u73, u74, u75, u76, u77, u78, u79, u80, u81], []⟩
def kc1T (B : Nat) (m0 : Bool) (N : Nat) (D7 : Nat) (D10 : Nat) (n : Nat) (po : Option Addr) (pcap : Nat) (ho : Option Addr) (hcap : Nat) (hs : List Int) (ts : List Int) (X0 X1 X2 : List Int) (b0 b1 : Bool) : Nat → Value → Value → (Nat → Prop) → World → Prop
  | 0, v, _, _, _ => v = .func (.func 112) #[.pointer (some ⟨N, 0, none⟩)] #[]
  | 1, v, _, _, _ => v = .pointer (some ⟨D7, 3, none⟩)
  | 2, v, _, _, _ => v = .agg #[.int .i64 n, .int .i64 n, .slice po X0.length pcap]
  | 3, v, _, _, _ => v = .agg #[.int .i64 1, .int .i64 n, .slice ho hs.length hcap]
  | 4, v, _, S, w => TMat B n 1 ts v S w
  | 5, v, _, S, w => StepV B N n n X0 n 1 X1 b0 v S w
  | 6, v, _, _, _ => v = .func (.func 188) #[] #[.pointer (some ⟨D10, 0, none⟩)]
  | 7, v, _, S, w => StepV B N n 1 X1 n 1 X2 b1 v S w
  | 8, v, _, S, w => TSl B [StepV B N n n X0 n 1 X1 b0, StepV B N n 1 X1 n 1 X2 b1] v S w
  | 9, v, _, S, w => TRes B N n 1 X2 (m0 || anyB (fun i => [b0, b1].getD i false) 2) v S w
  | 10, v, _, S, w => TPtr B v S w
  | 11, _, u, S, w => TSto B n 1 X2 u S w
  | _, _, _, _, _ => True
set_option maxRecDepth 40000 in
set_option maxHeartbeats 400000 in
theorem kc1_region {Q : Exit → Act → World → Prop} {w0 : World} {m0 : Bool} {N : Nat} {D7 : Nat} {D8 : Nat} {D10 : Nat} {n : Nat} {po : Option Addr} {pcap : Nat} {ho : Option Addr} {hcap : Nat} {hs : List Int} {ts : List Int} {u1 u2 u3 u4 u5 u6 u9 u11 u12 u14 u15 u16 u17 u18 u19 u30 u31 u32 u33 u34 u35 u36 u37 u38 u39 u40 u41 u42 u43 u44 u45 u46 u47 u48 u49 u50 u51 u52 u53 u54 u55 u56 u57 u58 u59 u60 u61 u62 u63 u64 u65 u66 u67 u68 u69 u70 u71 u72 u73 u74 u75 u76 u77 u78 u79 u80 u81 : Value} (X0 X1 X2 : List Int) (b0 b1 : Bool) (hN : w0.heap[N]? = some (.cells #[.bool m0, .int .i64 0] 141 (0, 0))) (hpos : ∀ i, i ≤ 2 → 0 < ([X0, X1, X2].getD i []).length)
    (cP : ∀ w, Mod (fun b => b = N) w0 w → w.cell? ⟨D7, 3, none⟩ = some (.int .i64 n) ∧ w.cell? ⟨D7, 4, none⟩ = some (.int .i64 n) ∧ w.cell? ⟨D7, 5, none⟩ = some (.slice po X0.length pcap))
    (cH : ∀ w, Mod (fun b => b = N) w0 w → w.cell? ⟨D8, 0, none⟩ = some (.int .i64 1) ∧ w.cell? ⟨D8, 1, none⟩ = some (.int .i64 n) ∧ w.cell? ⟨D8, 2, none⟩ = some (.slice ho hs.length hcap))
    (sP : Sees w0 (.slice po X0.length pcap) X0) (oP : Old w0.heap.size N (.slice po X0.length pcap))
    (kT24 : ∀ w, Mod (fun b => b = N) w0 w → Calls Tryz.prog 115 #[.agg #[.int .i64 1, .int .i64 n, .slice ho hs.length hcap]] w fun e b => ∃ v, e = .returned (.agg #[.int .i64 n, .int .i64 1, v]) ∧ Sees b v ts ∧ New w.heap.size v ∧ Below w.heap.size w b) (z24 : 0 < ts.length)
    (st0 : ∀ w A va S, w.heap[A]? = some (.cells #[.int .i64 n, .int .i64 1, va] 29 (0, 0)) → S A → Sees w va ts → OkS w0.heap.size N S va → StepV w0.heap.size N n n X0 n 1 X1 b0 (.func (.func 158) #[] #[.pointer (some ⟨A, 0, none⟩)]) S w)
    (st1 : ∀ w A S, Mod (fun b => b = N) w0 w → w.heap[A]? = some (.cells #[.func (.func 188) #[] #[.pointer (some ⟨D10, 0, none⟩)]] 117 (0, 0)) → S A → StepV w0.heap.size N n 1 X1 n 1 X2 b1 (.func (.func 195) #[] #[.pointer (some ⟨A, 0, none⟩)]) S w)
    (hQ : ∀ vs D ao cap w, Mod (fun b => b = N) w0 w → vs 13 = .pointer (some ⟨D, 0, none⟩) → w0.heap.size ≤ D → w.heap[D]? = some (.cells #[.int .i64 n, .int .i64 1, .slice ao X2.length cap] 29 (0, 0)) → Sees w (.slice ao X2.length cap) X2 → (∀ q, (Value.slice ao X2.length cap).ownBlock = some q → w0.heap.size ≤ q) → w.heap[N]? = some (.cells #[.bool (m0 || anyB (fun i => [b0, b1].getD i false) 2), .int .i64 0] 141 (0, 0)) → Q .normal (kc1Fr N D7 D8 D10 u1 u2 u3 u4 u5 u6 u9 u11 u12 u14 u15 u16 u17 u18 u19 u30 u31 u32 u33 u34 u35 u36 u37 u38 u39 u40 u41 u42 u43 u44 u45 u46 u47 u48 u49 u50 u51 u52 u53 u54 u55 u56 u57 u58 u59 u60 u61 u62 u63 u64 u65 u66 u67 u68 u69 u70 u71 u72 u73 u74 u75 u76 u77 u78 u79 u80 u81 vs) w) :
    (Code.region 1 kc1Ops true).wp Tryz.prog Q (kc1Fr N D7 D8 D10 u1 u2 u3 u4 u5 u6 u9 u11 u12 u14 u15 u16 u17 u18 u19 u30 u31 u32 u33 u34 u35 u36 u37 u38 u39 u40 u41 u42 u43 u44 u45 u46 u47 u48 u49 u50 u51 u52 u53 u54 u55 u56 u57 u58 u59 u60 u61 u62 u63 u64 u65 u66 u67 u68 u69 u70 u71 u72 u73 u74 u75 u76 u77 u78 u79 u80 u81 (fun _ => undef)) w0 := by
  refine wp_region_own (by kernel_rfl) (by decide) kc1Dst (by decide) (kc1Fr N D7 D8 D10 u1 u2 u3 u4 u5 u6 u9 u11 u12 u14 u15 u16 u17 u18 u19 u30 u31 u32 u33 u34 u35 u36 u37 u38 u39 u40 u41 u42 u43 u44 u45 u46 u47 u48 u49 u50 u51 u52 u53 u54 u55 u56 u57 u58 u59 u60 u61 u62 u63 u64 u65 u66 u67 u68 u69 u70 u71 u72 u73 u74 u75 u76 u77 u78 u79 u80 u81) (fun _ => undef) (fun i => if i = 11 then 10 else i) (by decide) (fun b => b = N) (fun q hq => by subst hq; exact lt_of_block hN) (fun i q => i = 9 ∧ q = N) (fun i q h => h.2) (fun i j q h h' => h.1.trans h'.1.symm)
    (fun s j => s = 11 ∧ j = 10) (fun s j h => by obtain ⟨rfl, rfl⟩ := h; exact ⟨by decide, by decide⟩) (fun s j h => by obtain ⟨rfl, rfl⟩ := h; decide) (kc1T w0.heap.size m0 N D7 D10 n po pcap ho hcap hs ts X0 X1 X2 b0 b1) ?_ ?_ ?_
  · intro i v u S w w' hi h hw hw' hz hS
    have ha : Agr w0.heap.size N S w w' := agr_of hw hw' hz hS
    have hi' : i < 12 := hi
    rcases (by omega : i = 0 ∨ i = 1 ∨ i = 2 ∨ i = 3 ∨ i = 4 ∨ i = 5 ∨ i = 6 ∨ i = 7 ∨ i = 8 ∨ i = 9 ∨ i = 10 ∨ i = 11) with rfl | rfl | rfl | rfl | rfl | rfl | rfl | rfl | rfl | rfl | rfl | rfl
    · exact h
    · exact h
    · exact h
    · exact h
    · exact TMat.stab h ha
    · exact StepV.stab h ha
    · exact h
    · exact StepV.stab h ha
    · exact TSl.stab h (fun t ht u htu => (by simp only [List.mem_cons, List.not_mem_nil, or_false] at ht; rcases ht with rfl | rfl <;> exact StepV.stab htu ha)) ha
    · exact TRes.stab h ha
    · exact TPtr.stab h ha
    · exact TSto.stab h ha
  · intro i hi vs w S hb hp hbd hwr hkl _
    have hi' : i < 12 := hi
    rcases (by omega : i = 0 ∨ i = 1 ∨ i = 2 ∨ i = 3 ∨ i = 4 ∨ i = 5 ∨ i = 6 ∨ i = 7 ∨ i = 8 ∨ i = 9 ∨ i = 10 ∨ i = 11) with rfl | rfl | rfl | rfl | rfl | rfl | rfl | rfl | rfl | rfl | rfl | rfl
    · exact wpOp_of _ rfl rfl (op_move rfl rfl ⟨_, fun _ => False, rfl, rfl, fun _ h => h.elim, fun _ _ h => h.elim, Mod.refl _ _⟩)
    · exact wpOp_of _ rfl rfl (op_fieldT (i := 1) (by decide) rfl rfl ⟨_, fun _ => False, rfl, rfl, fun _ h => h.elim, fun _ _ h => h.elim, Mod.refl _ _⟩)
    · have h1 : vs 21 = .pointer (some ⟨D7, 3, none⟩) := hp 1 (by decide)
      exact wpOp_of _ rfl rfl (op_loadM rfl h1 (cP w hb).1 (cP w hb).2.1 (cP w hb).2.2 ⟨_, fun _ => False, rfl, rfl, fun _ h => h.elim, fun _ _ h => h.elim, Mod.refl _ _⟩)
    · exact wpOp_of _ rfl rfl (op_loadM rfl rfl (cH w hb).1 (cH w hb).2.1 (cH w hb).2.2 ⟨_, fun _ => False, rfl, rfl, fun _ h => h.elim, fun _ _ h => h.elim, Mod.refl _ _⟩)
    · have h3 : vs 23 = .agg #[.int .i64 1, .int .i64 n, .slice ho hs.length hcap] := hp 3 (by decide)
      exact wpOp_of _ rfl rfl (op_call1 enters_trans rfl h3 (kT24 w hb) (by rintro e b ⟨v, rfl, s', n', b'⟩; have hl := s'.lt z24; obtain ⟨so, sc, rfl⟩ := s'.slice; exact ⟨_, rfl, _, fun q => (Value.slice so ts.length sc).ownBlock = some q, rfl, ⟨so, sc, rfl, s', fun q hq => ⟨hq, Nat.le_trans hb.size (n' q hq)⟩⟩, fun q hq => .inr (.inl ⟨n' q hq, hl q hq⟩), fun h => by obtain ⟨s9, h9⟩ := h; exact absurd h9.2 (by decide), Mod.of b'⟩))
    · obtain ⟨so, sc, h4, s4, n4⟩ : TMat w0.heap.size n 1 ts (vs 24) (S 4) w := hp 4 (by decide)
      exact wpOp_of _ rfl rfl (op_call1 enters_mrght rfl h4 (rght_any _ _ _ _ _ w) (by rintro e b ⟨rfl, rfl⟩; exact ⟨_, rfl, _, fun q => q = w.heap.size ∨ S 4 q, rfl, st0 _ _ _ _ (heap_new _ _) (.inl rfl) (s4.alloc _) (fun q hq => .inl (.inr (n4 q hq).1)), fun q hq => hq.elim (fun h => .inr (.inl (by subst h; simp))) (fun h => .inl ⟨4, by decide, h⟩), fun h => by obtain ⟨s9, h9⟩ := h; exact absurd h9.2 (by decide), Mod.of (box_below w _)⟩))
    · exact wpOp_of _ rfl rfl (op_makeFunc2 rfl rfl ⟨_, fun _ => False, rfl, rfl, fun _ h => h.elim, fun _ _ h => h.elim, Mod.refl _ _⟩)
    · have h6 : vs 26 = .func (.func 188) #[] #[.pointer (some ⟨D10, 0, none⟩)] := hp 6 (by decide)
      exact wpOp_of _ rfl rfl (op_call1 enters_meach rfl h6 (each_any _ _ w) (by rintro e b ⟨rfl, rfl⟩; exact ⟨_, rfl, _, fun q => q = w.heap.size, rfl, st1 _ _ _ (hb.trans (Mod.of (box_below w _))) (heap_new _ _) rfl, fun q hq => .inr (.inl (by subst hq; simp)), fun h => by obtain ⟨s9, h9⟩ := h; exact absurd h9.2 (by decide), Mod.of (box_below w _)⟩))
    · have t0 : StepV w0.heap.size N n n X0 n 1 X1 b0 (vs 25) (S 5) w := hp 5 (by decide)
      obtain ⟨F0, c0, e0, _⟩ := id t0
      have t1 : StepV w0.heap.size N n 1 X1 n 1 X2 b1 (vs 27) (S 7) w := hp 7 (by decide)
      obtain ⟨F1, c1, e1, _⟩ := id t1
      have hX : ∀ j, j < 2 → ∀ q, ([S 5, S 7].getD j (fun _ => False)) q → q < w.heap.size := by
        intro j hj q hq
        rcases (by omega : j = 0 ∨ j = 1) with rfl | rfl
        · exact (hbd 5 (by decide) q hq).1
        · exact (hbd 7 (by decide) q hq).1
      have t0' : StepV w0.heap.size N n n X0 n 1 X1 b0 (.func (.func F0) #[] c0) (fun q => q = w.heap.size ∨ S 5 q ∨ S 7 q) (w.alloc (.cells #[.func (.func F0) #[] c0, .func (.func F1) #[] c1] 145)) := by
        have z := (t0.stab (w' := w.alloc (.cells #[.func (.func F0) #[] c0, .func (.func F1) #[] c1] 145)) ⟨(box_below w _).size, fun q hq => (box_below w _).block q (hq.elim (fun h => hX 0 (by decide) q h) (fun h => Nat.lt_of_lt_of_le h.1 hb.size))⟩).mono (S' := fun q => q = w.heap.size ∨ S 5 q ∨ S 7 q) (fun q h => .inr (.inl h))
        rw [e0] at z
        exact z
      have t1' : StepV w0.heap.size N n 1 X1 n 1 X2 b1 (.func (.func F1) #[] c1) (fun q => q = w.heap.size ∨ S 5 q ∨ S 7 q) (w.alloc (.cells #[.func (.func F0) #[] c0, .func (.func F1) #[] c1] 145)) := by
        have z := (t1.stab (w' := w.alloc (.cells #[.func (.func F0) #[] c0, .func (.func F1) #[] c1] 145)) ⟨(box_below w _).size, fun q hq => (box_below w _).block q (hq.elim (fun h => hX 1 (by decide) q h) (fun h => Nat.lt_of_lt_of_le h.1 hb.size))⟩).mono (S' := fun q => q = w.heap.size ∨ S 5 q ∨ S 7 q) (fun q h => .inr (.inr (h)))
        rw [e1] at z
        exact z
      have hTS : ∀ (i : Nat) (t : Value → (Nat → Prop) → World → Prop) (u : Value), [StepV w0.heap.size N n n X0 n 1 X1 b0, StepV w0.heap.size N n 1 X1 n 1 X2 b1][i]? = some t → [.func (.func F0) #[] c0, .func (.func F1) #[] c1][i]? = some u → t u (fun q => q = w.heap.size ∨ S 5 q ∨ S 7 q) (w.alloc (.cells #[.func (.func F0) #[] c0, .func (.func F1) #[] c1] 145)) := by
        intro i t u ht hu
        have hi : i < 2 := by have := (List.getElem?_eq_some_iff.1 ht).1; simpa using this
        rcases (by omega : i = 0 ∨ i = 1) with rfl | rfl
        · cases ht; cases hu; exact t0'
        · cases ht; cases hu; exact t1'
      exact wpOp_of _ rfl rfl (op_slice2 rfl e0 e1 ⟨_, fun q => q = w.heap.size ∨ S 5 q ∨ S 7 q, rfl, ⟨w.heap.size, [.func (.func F0) #[] c0, .func (.func F1) #[] c1], rfl, .inl rfl, hb.size, rfl, heap_new _ _, hTS⟩, fun q hq => hq.elim (fun h => .inr (.inl (by subst h; simp))) (fun h => h.elim (fun h => .inl ⟨5, by decide, h⟩) (fun h => .inl ⟨7, by decide, h⟩)), fun h => (by obtain ⟨s9, h9⟩ := h; exact absurd h9.2 (by decide)), Mod.of (box_below w _)⟩)
    · have h0 : vs 20 = .func (.func 112) #[.pointer (some ⟨N, 0, none⟩)] #[] := hp 0 (by decide)
      have h2 : vs 22 = .agg #[.int .i64 n, .int .i64 n, .slice po X0.length pcap] := hp 2 (by decide)
      have hT : TSl w0.heap.size [StepV w0.heap.size N n n X0 n 1 X1 b0, StepV w0.heap.size N n 1 X1 n 1 X2 b1] (vs 28) (S 8) w := hp 8 (by decide)
      have hn0 : w.heap[N]? = some (.cells #[.bool m0, .int .i64 0] 141 (0, 0)) := (hwr N rfl (fun j h => ⟨by rw [h.1]; decide, .inl h.1⟩)).trans hN
      exact wpOp_of _ rfl rfl (op_call3 enters_kreck rfl h0 h2 rfl (reck_call 2 (by decide) (by decide) (fun i => [n, n, n].getD i 0) (fun i => [n, 1, 1].getD i 0) (fun i => [X0, X1, X2].getD i []) (fun i => [b0, b1].getD i false) N m0 w0 w _ _ (S 8) hb hn0 (hT) (fun b hSb => ⟨(hbd 8 (by decide) b hSb).1, fun e => (hbd 8 (by decide) b hSb).2 ⟨rfl, e⟩⟩) hpos (sP.mod oP hb) (fun b hb' => (oP b hb').2)) (by rintro e b ⟨x, S', rfl, hR, hS', hM⟩; exact ⟨_, rfl, _, S', rfl, hR, fun q hq => (hS' q hq).elim (fun h => .inr (.inl h)) (fun h => .inr (.inr ⟨rfl, h⟩)), fun h => by obtain ⟨s9, h9⟩ := h; exact absurd h9.2 (by decide), hM.mono fun q _ hq => .inl ⟨rfl, hq⟩⟩))
    · exact wpOp_of _ rfl rfl (op_alloc24 rfl ⟨_, fun b => b = w.heap.size, rfl, ⟨_, rfl, rfl, hb.size, _, _, _, heap_new _ _⟩, fun b h => .inr (.inl (by subst h; simp)), fun _ b h => .inl (by omega), Mod.of (box_below w _)⟩)
    · obtain ⟨D, hD, hSD, hBD, x, y, z, hbl⟩ : TPtr w0.heap.size (vs 13) (S 10) w := hp 10 (by decide)
      obtain ⟨⟨ao, cap, hf, hs, hso⟩, _⟩ : TRes w0.heap.size N n 1 X2 (m0 || anyB (fun i => [b0, b1].getD i false) 2) (vs 29) (S 9) w := hp 9 (by decide)
      have hne : ∀ q, (Value.slice ao X2.length cap).ownBlock = some q → q ≠ D := fun q hq e => hkl 10 ⟨rfl, rfl⟩ 9 (by decide) (by decide) D hSD (e ▸ (hso q hq).1)
      refine wpOp_of _ rfl rfl (op_store24 rfl rfl hD hf hbl ?_)
      refine ⟨undef, fun q => q = D ∨ S 9 q, rfl, ⟨D, ao, cap, hD, .inl rfl, hBD, put_mat hbl, ((hs.set' (a := ⟨D, 0, none⟩) hne _).set' (a := ⟨D, 1, none⟩) hne _).set' (a := ⟨D, 2, none⟩) hne _, fun q hq => ⟨.inr (hso q hq).1, (hso q hq).2⟩⟩, fun q hq => hq.elim (fun h => .inl ⟨10, by decide, h ▸ hSD⟩) (fun h => .inl ⟨9, by decide, h⟩), fun h => by obtain ⟨s9, h9⟩ := h; exact absurd h9.2 (by decide), ?_⟩
      refine ⟨rfl, rfl, rfl, by simp [World.setCell], fun q hq hq' => ?_⟩
      have hqD : q ≠ D := fun e => hq' (.inr ⟨10, ⟨rfl, rfl⟩, e ▸ hSD⟩)
      rw [Below.heap_setCell _ _ _ _ hqD, Below.heap_setCell _ _ _ _ hqD, Below.heap_setCell _ _ _ _ hqD]
  · intro vs w S hb hT
    obtain ⟨D, ao, cap, h1, _, h3, h4, h5, h6⟩ : TSto w0.heap.size n 1 X2 (vs 13) (S 11) w := hT 11 (by decide) (fun s h => by omega)
    obtain ⟨_, _, h7⟩ : TRes w0.heap.size N n 1 X2 (m0 || anyB (fun i => [b0, b1].getD i false) 2) (vs 29) (S 9) w := hT 9 (by decide) (fun s h => by omega)
    exact hQ vs D ao cap w hb h1 h3 h4 h5 (fun q hq => (h6 q hq).2) h7
def kc2Ops : Array Oper := #[
 ⟨some 30, .move (.tmp 0), 143, "kalman.go:118", #[], none⟩,
 ⟨some 31, .load 29 (.tmp 13), 29, "kalman.go:118", #[], none⟩,
 ⟨some 32, .move (.tmp 3), 22, "kalman.go:118", #[], none⟩,
 ⟨some 33, .call ⟨.value (.func 189), #[.tmp 32], #[22]⟩, 145, "kalman.go:118", #[eD 2], none⟩,
 ⟨some 34, .fieldAddr 31 (.tmp 7) 0, 0, "kalman.go:118", #[], none⟩,
 ⟨some 35, .load 29 (.tmp 34), 29, "kalman.go:118", #[eD 4], none⟩,
 ⟨some 36, .call ⟨.value (.func 116), #[.tmp 35], #[29]⟩, 145, "kalman.go:118", #[eD 5, eC 3], none⟩,
 ⟨some 37, .buildSlice 183 2 #[(0, .tmp 33), (1, .tmp 36)], 183, "kalman.go:118", #[eD 3, eD 6], none⟩,
 ⟨some 38, .call ⟨.value (.func 111), #[.tmp 30, .tmp 31, .tmp 37], #[143, 29, 183]⟩, 29, "kalman.go:118", #[eD 0, eD 1, eD 7, eC 6], none⟩,
 ⟨some 14, .alloc 29, 0, "kalman.go:118", #[], none⟩,
 ⟨none, .store 29 (.tmp 14) (.tmp 38), 0, "kalman.go:118", #[eD 9, eD 8, eC 8, eP 0, eP 1, eP 2, eP 3, eP 4, eP 5, eP 6, eP 7, eP 8, eP 9], none⟩]
def kc2Dst (i : Nat) : Nat := [30, 31, 32, 33, 34, 35, 36, 37, 38, 14, 1000].getD i 0
def kc2Fr (N : Nat) (D7 : Nat) (D13 : Nat) (y : Int) (u1 u2 u4 u5 u6 u8 u9 u10 u11 u12 u15 u16 u17 u18 u19 u20 u21 u22 u23 u24 u25 u26 u27 u28 u29 u39 u40 u41 u42 u43 u44 u45 u46 u47 u48 u49 u50 u51 u52 u53 u54 u55 u56 u57 u58 u59 u60 u61 u62 u63 u64 u65 u66 u67 u68 u69 u70 u71 u72 u73 u74 u75 u76 u77 u78 u79 u80 u81 : Value) (vs : Nat → Value) : Act := ⟨#[.func (.func 112) #[.pointer (some ⟨N, 0, none⟩)] #[], u1, u2, .int .i64 y, u4, u5, u6, .pointer (some ⟨D7, 0, none⟩), u8, u9, u10, u11, u12, .pointer (some ⟨D13, 0, none⟩), vs 14, u15, u16, u17, u18, u19, u20, u21, u22, u23, u24, u25, u26, u27, u28, u29, vs 30, vs 31, vs 32, vs 33, vs 34, vs 35, vs 36, vs 37, vs 38, u39, u40, u41, u42, u43, u44, u45, u46, u47, u48, u49, u50, u51, u52, u53, u54, u55, u56, u57, u58, u59, u60, u61, u62, u63, u64, u65, u66, u67, u68, u69, u70, u71, u72, u73, u74, u75, u76, u77, u78, u79, u80, u81], []⟩
def kc2T (B : Nat) (m0 : Bool) (N : Nat) (D7 : Nat) (n : Nat) (y : Int) (xo : Option Addr) (xcap : Nat) (ko : Option Addr) (kcap : Nat) (xs : List Int) (X0 X1 X2 : List Int) (b0 b1 : Bool) : Nat → Value → Value → (Nat → Prop) → World → Prop
  | 0, v, _, _, _ => v = .func (.func 112) #[.pointer (some ⟨N, 0, none⟩)] #[]
  | 1, v, _, _, _ => v = .agg #[.int .i64 n, .int .i64 1, .slice ko X0.length kcap]
  | 2, v, _, _, _ => v = .int .i64 y
  | 3, v, _, S, w => StepV B N n 1 X0 n 1 X1 b0 v S w
  | 4, v, _, _, _ => v = .pointer (some ⟨D7, 0, none⟩)
  | 5, v, _, _, _ => v = .agg #[.int .i64 n, .int .i64 1, .slice xo xs.length xcap]
  | 6, v, _, S, w => StepV B N n 1 X1 n 1 X2 b1 v S w
  | 7, v, _, S, w => TSl B [StepV B N n 1 X0 n 1 X1 b0, StepV B N n 1 X1 n 1 X2 b1] v S w
  | 8, v, _, S, w => TRes B N n 1 X2 (m0 || anyB (fun i => [b0, b1].getD i false) 2) v S w
  | 9, v, _, S, w => TPtr B v S w
  | 10, _, u, S, w => TSto B n 1 X2 u S w
  | _, _, _, _, _ => True
set_option maxRecDepth 40000 in
set_option maxHeartbeats 400000 in
theorem kc2_region {Q : Exit → Act → World → Prop} {w0 : World} {m0 : Bool} {N : Nat} {D7 : Nat} {D13 : Nat} {n : Nat} {y : Int} {xo : Option Addr} {xcap : Nat} {ko : Option Addr} {kcap : Nat} {xs : List Int} {u1 u2 u4 u5 u6 u8 u9 u10 u11 u12 u15 u16 u17 u18 u19 u20 u21 u22 u23 u24 u25 u26 u27 u28 u29 u39 u40 u41 u42 u43 u44 u45 u46 u47 u48 u49 u50 u51 u52 u53 u54 u55 u56 u57 u58 u59 u60 u61 u62 u63 u64 u65 u66 u67 u68 u69 u70 u71 u72 u73 u74 u75 u76 u77 u78 u79 u80 u81 : Value} (X0 X1 X2 : List Int) (b0 b1 : Bool) (hN : w0.heap[N]? = some (.cells #[.bool m0, .int .i64 0] 141 (0, 0))) (hpos : ∀ i, i ≤ 2 → 0 < ([X0, X1, X2].getD i []).length)
    (cX : ∀ w, Mod (fun b => b = N) w0 w → w.cell? ⟨D7, 0, none⟩ = some (.int .i64 n) ∧ w.cell? ⟨D7, 1, none⟩ = some (.int .i64 1) ∧ w.cell? ⟨D7, 2, none⟩ = some (.slice xo xs.length xcap))
    (cK : ∀ w, Mod (fun b => b = N) w0 w → w.cell? ⟨D13, 0, none⟩ = some (.int .i64 n) ∧ w.cell? ⟨D13, 1, none⟩ = some (.int .i64 1) ∧ w.cell? ⟨D13, 2, none⟩ = some (.slice ko X0.length kcap))
    (sX : Sees w0 (.slice xo xs.length xcap) xs) (oX : Old w0.heap.size N (.slice xo xs.length xcap))
    (sK : Sees w0 (.slice ko X0.length kcap) X0) (oK : Old w0.heap.size N (.slice ko X0.length kcap))
    (st0 : ∀ w A S, w.heap[A]? = some (.cells #[.int .i64 y] 22 (0, 0)) → S A → StepV w0.heap.size N n 1 X0 n 1 X1 b0 (.func (.func 196) #[] #[.pointer (some ⟨A, 0, none⟩)]) S w)
    (st1 : ∀ w A va S, w.heap[A]? = some (.cells #[.int .i64 n, .int .i64 1, va] 29 (0, 0)) → S A → Sees w va xs → OkS w0.heap.size N S va → StepV w0.heap.size N n 1 X1 n 1 X2 b1 (.func (.func 164) #[] #[.pointer (some ⟨A, 0, none⟩)]) S w)
    (hQ : ∀ vs D ao cap w, Mod (fun b => b = N) w0 w → vs 14 = .pointer (some ⟨D, 0, none⟩) → w0.heap.size ≤ D → w.heap[D]? = some (.cells #[.int .i64 n, .int .i64 1, .slice ao X2.length cap] 29 (0, 0)) → Sees w (.slice ao X2.length cap) X2 → (∀ q, (Value.slice ao X2.length cap).ownBlock = some q → w0.heap.size ≤ q) → w.heap[N]? = some (.cells #[.bool (m0 || anyB (fun i => [b0, b1].getD i false) 2), .int .i64 0] 141 (0, 0)) → Q .normal (kc2Fr N D7 D13 y u1 u2 u4 u5 u6 u8 u9 u10 u11 u12 u15 u16 u17 u18 u19 u20 u21 u22 u23 u24 u25 u26 u27 u28 u29 u39 u40 u41 u42 u43 u44 u45 u46 u47 u48 u49 u50 u51 u52 u53 u54 u55 u56 u57 u58 u59 u60 u61 u62 u63 u64 u65 u66 u67 u68 u69 u70 u71 u72 u73 u74 u75 u76 u77 u78 u79 u80 u81 vs) w) :
    (Code.region 2 kc2Ops true).wp Tryz.prog Q (kc2Fr N D7 D13 y u1 u2 u4 u5 u6 u8 u9 u10 u11 u12 u15 u16 u17 u18 u19 u20 u21 u22 u23 u24 u25 u26 u27 u28 u29 u39 u40 u41 u42 u43 u44 u45 u46 u47 u48 u49 u50 u51 u52 u53 u54 u55 u56 u57 u58 u59 u60 u61 u62 u63 u64 u65 u66 u67 u68 u69 u70 u71 u72 u73 u74 u75 u76 u77 u78 u79 u80 u81 (fun _ => undef)) w0 := by
  refine wp_region_own (by kernel_rfl) (by decide) kc2Dst (by decide) (kc2Fr N D7 D13 y u1 u2 u4 u5 u6 u8 u9 u10 u11 u12 u15 u16 u17 u18 u19 u20 u21 u22 u23 u24 u25 u26 u27 u28 u29 u39 u40 u41 u42 u43 u44 u45 u46 u47 u48 u49 u50 u51 u52 u53 u54 u55 u56 u57 u58 u59 u60 u61 u62 u63 u64 u65 u66 u67 u68 u69 u70 u71 u72 u73 u74 u75 u76 u77 u78 u79 u80 u81) (fun _ => undef) (fun i => if i = 10 then 9 else i) (by decide) (fun b => b = N) (fun q hq => by subst hq; exact lt_of_block hN) (fun i q => i = 8 ∧ q = N) (fun i q h => h.2) (fun i j q h h' => h.1.trans h'.1.symm)
    (fun s j => s = 10 ∧ j = 9) (fun s j h => by obtain ⟨rfl, rfl⟩ := h; exact ⟨by decide, by decide⟩) (fun s j h => by obtain ⟨rfl, rfl⟩ := h; decide) (kc2T w0.heap.size m0 N D7 n y xo xcap ko kcap xs X0 X1 X2 b0 b1) ?_ ?_ ?_
  · intro i v u S w w' hi h hw hw' hz hS
    have ha : Agr w0.heap.size N S w w' := agr_of hw hw' hz hS
    have hi' : i < 11 := hi
    rcases (by omega : i = 0 ∨ i = 1 ∨ i = 2 ∨ i = 3 ∨ i = 4 ∨ i = 5 ∨ i = 6 ∨ i = 7 ∨ i = 8 ∨ i = 9 ∨ i = 10) with rfl | rfl | rfl | rfl | rfl | rfl | rfl | rfl | rfl | rfl | rfl
    · exact h
    · exact h
    · exact h
    · exact StepV.stab h ha
    · exact h
    · exact h
    · exact StepV.stab h ha
    · exact TSl.stab h (fun t ht u htu => (by simp only [List.mem_cons, List.not_mem_nil, or_false] at ht; rcases ht with rfl | rfl <;> exact StepV.stab htu ha)) ha
    · exact TRes.stab h ha
    · exact TPtr.stab h ha
    · exact TSto.stab h ha
  · intro i hi vs w S hb hp hbd hwr hkl _
    have hi' : i < 11 := hi
    rcases (by omega : i = 0 ∨ i = 1 ∨ i = 2 ∨ i = 3 ∨ i = 4 ∨ i = 5 ∨ i = 6 ∨ i = 7 ∨ i = 8 ∨ i = 9 ∨ i = 10) with rfl | rfl | rfl | rfl | rfl | rfl | rfl | rfl | rfl | rfl | rfl
    · exact wpOp_of _ rfl rfl (op_move rfl rfl ⟨_, fun _ => False, rfl, rfl, fun _ h => h.elim, fun _ _ h => h.elim, Mod.refl _ _⟩)
    · exact wpOp_of _ rfl rfl (op_loadM rfl rfl (cK w hb).1 (cK w hb).2.1 (cK w hb).2.2 ⟨_, fun _ => False, rfl, rfl, fun _ h => h.elim, fun _ _ h => h.elim, Mod.refl _ _⟩)
    · exact wpOp_of _ rfl rfl (op_move rfl rfl ⟨_, fun _ => False, rfl, rfl, fun _ h => h.elim, fun _ _ h => h.elim, Mod.refl _ _⟩)
    · have h2 : vs 32 = .int .i64 y := hp 2 (by decide)
      exact wpOp_of _ rfl rfl (op_call1 enters_mscaled rfl h2 (scaled_any _ w) (by rintro e b ⟨rfl, rfl⟩; exact ⟨_, rfl, _, fun q => q = w.heap.size, rfl, st0 _ _ _ (heap_new _ _) rfl, fun q hq => .inr (.inl (by subst hq; simp)), fun h => by obtain ⟨s9, h9⟩ := h; exact absurd h9.2 (by decide), Mod.of (box_below w _)⟩))
    · exact wpOp_of _ rfl rfl (op_fieldT (i := 0) (by decide) rfl rfl ⟨_, fun _ => False, rfl, rfl, fun _ h => h.elim, fun _ _ h => h.elim, Mod.refl _ _⟩)
    · have h4 : vs 34 = .pointer (some ⟨D7, 0, none⟩) := hp 4 (by decide)
      exact wpOp_of _ rfl rfl (op_loadM rfl h4 (cX w hb).1 (cX w hb).2.1 (cX w hb).2.2 ⟨_, fun _ => False, rfl, rfl, fun _ h => h.elim, fun _ _ h => h.elim, Mod.refl _ _⟩)
    · have h5 : vs 35 = .agg #[.int .i64 n, .int .i64 1, .slice xo xs.length xcap] := hp 5 (by decide)
      exact wpOp_of _ rfl rfl (op_call1 enters_mplus rfl h5 (plus_any _ _ _ _ _ w) (by rintro e b ⟨rfl, rfl⟩; exact ⟨_, rfl, _, fun q => q = w.heap.size, rfl, st1 _ _ _ _ (heap_new _ _) rfl ((sX.mod oX hb).alloc _) (oX.ok _), fun q hq => .inr (.inl (by subst hq; simp)), fun h => by obtain ⟨s9, h9⟩ := h; exact absurd h9.2 (by decide), Mod.of (box_below w _)⟩))
    · have t0 : StepV w0.heap.size N n 1 X0 n 1 X1 b0 (vs 33) (S 3) w := hp 3 (by decide)
      obtain ⟨F0, c0, e0, _⟩ := id t0
      have t1 : StepV w0.heap.size N n 1 X1 n 1 X2 b1 (vs 36) (S 6) w := hp 6 (by decide)
      obtain ⟨F1, c1, e1, _⟩ := id t1
      have hX : ∀ j, j < 2 → ∀ q, ([S 3, S 6].getD j (fun _ => False)) q → q < w.heap.size := by
        intro j hj q hq
        rcases (by omega : j = 0 ∨ j = 1) with rfl | rfl
        · exact (hbd 3 (by decide) q hq).1
        · exact (hbd 6 (by decide) q hq).1
      have t0' : StepV w0.heap.size N n 1 X0 n 1 X1 b0 (.func (.func F0) #[] c0) (fun q => q = w.heap.size ∨ S 3 q ∨ S 6 q) (w.alloc (.cells #[.func (.func F0) #[] c0, .func (.func F1) #[] c1] 145)) := by
        have z := (t0.stab (w' := w.alloc (.cells #[.func (.func F0) #[] c0, .func (.func F1) #[] c1] 145)) ⟨(box_below w _).size, fun q hq => (box_below w _).block q (hq.elim (fun h => hX 0 (by decide) q h) (fun h => Nat.lt_of_lt_of_le h.1 hb.size))⟩).mono (S' := fun q => q = w.heap.size ∨ S 3 q ∨ S 6 q) (fun q h => .inr (.inl h))
        rw [e0] at z
        exact z
      have t1' : StepV w0.heap.size N n 1 X1 n 1 X2 b1 (.func (.func F1) #[] c1) (fun q => q = w.heap.size ∨ S 3 q ∨ S 6 q) (w.alloc (.cells #[.func (.func F0) #[] c0, .func (.func F1) #[] c1] 145)) := by
        have z := (t1.stab (w' := w.alloc (.cells #[.func (.func F0) #[] c0, .func (.func F1) #[] c1] 145)) ⟨(box_below w _).size, fun q hq => (box_below w _).block q (hq.elim (fun h => hX 1 (by decide) q h) (fun h => Nat.lt_of_lt_of_le h.1 hb.size))⟩).mono (S' := fun q => q = w.heap.size ∨ S 3 q ∨ S 6 q) (fun q h => .inr (.inr (h)))
        rw [e1] at z
        exact z
      have hTS : ∀ (i : Nat) (t : Value → (Nat → Prop) → World → Prop) (u : Value), [StepV w0.heap.size N n 1 X0 n 1 X1 b0, StepV w0.heap.size N n 1 X1 n 1 X2 b1][i]? = some t → [.func (.func F0) #[] c0, .func (.func F1) #[] c1][i]? = some u → t u (fun q => q = w.heap.size ∨ S 3 q ∨ S 6 q) (w.alloc (.cells #[.func (.func F0) #[] c0, .func (.func F1) #[] c1] 145)) := by
        intro i t u ht hu
        have hi : i < 2 := by have := (List.getElem?_eq_some_iff.1 ht).1; simpa using this
        rcases (by omega : i = 0 ∨ i = 1) with rfl | rfl
        · cases ht; cases hu; exact t0'
        · cases ht; cases hu; exact t1'
      exact wpOp_of _ rfl rfl (op_slice2 rfl e0 e1 ⟨_, fun q => q = w.heap.size ∨ S 3 q ∨ S 6 q, rfl, ⟨w.heap.size, [.func (.func F0) #[] c0, .func (.func F1) #[] c1], rfl, .inl rfl, hb.size, rfl, heap_new _ _, hTS⟩, fun q hq => hq.elim (fun h => .inr (.inl (by subst h; simp))) (fun h => h.elim (fun h => .inl ⟨3, by decide, h⟩) (fun h => .inl ⟨6, by decide, h⟩)), fun h => (by obtain ⟨s9, h9⟩ := h; exact absurd h9.2 (by decide)), Mod.of (box_below w _)⟩)
    · have h0 : vs 30 = .func (.func 112) #[.pointer (some ⟨N, 0, none⟩)] #[] := hp 0 (by decide)
      have h1 : vs 31 = .agg #[.int .i64 n, .int .i64 1, .slice ko X0.length kcap] := hp 1 (by decide)
      have hT : TSl w0.heap.size [StepV w0.heap.size N n 1 X0 n 1 X1 b0, StepV w0.heap.size N n 1 X1 n 1 X2 b1] (vs 37) (S 7) w := hp 7 (by decide)
      have hn0 : w.heap[N]? = some (.cells #[.bool m0, .int .i64 0] 141 (0, 0)) := (hwr N rfl (fun j h => ⟨by rw [h.1]; decide, .inl h.1⟩)).trans hN
      exact wpOp_of _ rfl rfl (op_call3 enters_kreck rfl h0 h1 rfl (reck_call 2 (by decide) (by decide) (fun i => [n, n, n].getD i 0) (fun i => [1, 1, 1].getD i 0) (fun i => [X0, X1, X2].getD i []) (fun i => [b0, b1].getD i false) N m0 w0 w _ _ (S 7) hb hn0 (hT) (fun b hSb => ⟨(hbd 7 (by decide) b hSb).1, fun e => (hbd 7 (by decide) b hSb).2 ⟨rfl, e⟩⟩) hpos (sK.mod oK hb) (fun b hb' => (oK b hb').2)) (by rintro e b ⟨x, S', rfl, hR, hS', hM⟩; exact ⟨_, rfl, _, S', rfl, hR, fun q hq => (hS' q hq).elim (fun h => .inr (.inl h)) (fun h => .inr (.inr ⟨rfl, h⟩)), fun h => by obtain ⟨s9, h9⟩ := h; exact absurd h9.2 (by decide), hM.mono fun q _ hq => .inl ⟨rfl, hq⟩⟩))
    · exact wpOp_of _ rfl rfl (op_alloc24 rfl ⟨_, fun b => b = w.heap.size, rfl, ⟨_, rfl, rfl, hb.size, _, _, _, heap_new _ _⟩, fun b h => .inr (.inl (by subst h; simp)), fun _ b h => .inl (by omega), Mod.of (box_below w _)⟩)
    · obtain ⟨D, hD, hSD, hBD, x, y, z, hbl⟩ : TPtr w0.heap.size (vs 14) (S 9) w := hp 9 (by decide)
      obtain ⟨⟨ao, cap, hf, hs, hso⟩, _⟩ : TRes w0.heap.size N n 1 X2 (m0 || anyB (fun i => [b0, b1].getD i false) 2) (vs 38) (S 8) w := hp 8 (by decide)
      have hne : ∀ q, (Value.slice ao X2.length cap).ownBlock = some q → q ≠ D := fun q hq e => hkl 9 ⟨rfl, rfl⟩ 8 (by decide) (by decide) D hSD (e ▸ (hso q hq).1)
      refine wpOp_of _ rfl rfl (op_store24 rfl rfl hD hf hbl ?_)
      refine ⟨undef, fun q => q = D ∨ S 8 q, rfl, ⟨D, ao, cap, hD, .inl rfl, hBD, put_mat hbl, ((hs.set' (a := ⟨D, 0, none⟩) hne _).set' (a := ⟨D, 1, none⟩) hne _).set' (a := ⟨D, 2, none⟩) hne _, fun q hq => ⟨.inr (hso q hq).1, (hso q hq).2⟩⟩, fun q hq => hq.elim (fun h => .inl ⟨9, by decide, h ▸ hSD⟩) (fun h => .inl ⟨8, by decide, h⟩), fun h => by obtain ⟨s9, h9⟩ := h; exact absurd h9.2 (by decide), ?_⟩
      refine ⟨rfl, rfl, rfl, by simp [World.setCell], fun q hq hq' => ?_⟩
      have hqD : q ≠ D := fun e => hq' (.inr ⟨9, ⟨rfl, rfl⟩, e ▸ hSD⟩)
      rw [Below.heap_setCell _ _ _ _ hqD, Below.heap_setCell _ _ _ _ hqD, Below.heap_setCell _ _ _ _ hqD]
  · intro vs w S hb hT
    obtain ⟨D, ao, cap, h1, _, h3, h4, h5, h6⟩ : TSto w0.heap.size n 1 X2 (vs 14) (S 10) w := hT 10 (by decide) (fun s h => by omega)
    obtain ⟨_, _, h7⟩ : TRes w0.heap.size N n 1 X2 (m0 || anyB (fun i => [b0, b1].getD i false) 2) (vs 38) (S 8) w := hT 8 (by decide) (fun s h => by omega)
    exact hQ vs D ao cap w hb h1 h3 h4 h5 (fun q hq => (h6 q hq).2) h7
end Go.Proofs.YtoefekkdjcflmaaGreatDoor

