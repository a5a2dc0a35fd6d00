/- Parts of the proof. -/
import Derived.Test.YtoefekkdjcflmaaGreatDoorM14
namespace Go.Proofs.YtoefekkdjcflmaaGreatDoor
open Go.RowKit Go.Sort Qm
def kc5Ops : Array Oper := #[
 ⟨some 49, .move (.tmp 0), 143, "kalman.go:121", #[], none⟩,
 ⟨some 50, .load 29 (.tmp 13), 29, "kalman.go:121", #[], none⟩,
 ⟨some 51, .load 29 (.tmp 8), 29, "kalman.go:121", #[], none⟩,
 ⟨some 52, .call ⟨.value (.func 114), #[.tmp 51], #[29]⟩, 145, "kalman.go:121", #[eD 2], none⟩,
 ⟨some 53, .load 29 (.tmp 15), 29, "kalman.go:121", #[], none⟩,
 ⟨some 54, .call ⟨.value (.func 191), #[.tmp 53], #[29]⟩, 145, "kalman.go:121", #[eD 4, eC 3], none⟩,
 ⟨some 55, .buildSlice 183 2 #[(0, .tmp 52), (1, .tmp 54)], 183, "kalman.go:121", #[eD 3, eD 5], none⟩,
 ⟨some 56, .call ⟨.value (.func 111), #[.tmp 49, .tmp 50, .tmp 55], #[143, 29, 183]⟩, 29, "kalman.go:121", #[eD 0, eD 1, eD 6, eC 5], none⟩,
 ⟨some 17, .alloc 29, 0, "kalman.go:121", #[], none⟩,
 ⟨none, .store 29 (.tmp 17) (.tmp 56), 0, "kalman.go:121", #[eD 8, eD 7, eC 7, eP 0, eP 1, eP 2, eP 3, eP 4, eP 5, eP 6, eP 7, eP 8], none⟩]
def kc5Dst (i : Nat) : Nat := [49, 50, 51, 52, 53, 54, 55, 56, 17, 1000].getD i 0
def kc5Fr (N : Nat) (D8 : Nat) (D13 : Nat) (D15 : Nat) (u1 u2 u3 u4 u5 u6 u7 u9 u10 u11 u12 u14 u16 u18 u19 u20 u21 u22 u23 u24 u25 u26 u27 u28 u29 u30 u31 u32 u33 u34 u35 u36 u37 u38 u39 u40 u41 u42 u43 u44 u45 u46 u47 u48 u57 u58 u59 u60 u61 u62 u63 u64 u65 u66 u67 u68 u69 u70 u71 u72 u73 u74 u75 u76 u77 u78 u79 u80 u81 : Value) (vs : Nat → Value) : Act := ⟨#[.func (.func 112) #[.pointer (some ⟨N, 0, none⟩)] #[], u1, u2, u3, u4, u5, u6, u7, .pointer (some ⟨D8, 0, none⟩), u9, u10, u11, u12, .pointer (some ⟨D13, 0, none⟩), u14, .pointer (some ⟨D15, 0, none⟩), u16, vs 17, u18, u19, u20, u21, u22, u23, u24, u25, u26, u27, u28, u29, u30, u31, u32, u33, u34, u35, u36, u37, u38, u39, u40, u41, u42, u43, u44, u45, u46, u47, u48, vs 49, vs 50, vs 51, vs 52, vs 53, vs 54, vs 55, vs 56, u57, u58, u59, u60, u61, u62, u63, u64, u65, u66, u67, u68, u69, u70, u71, u72, u73, u74, u75, u76, u77, u78, u79, u80, u81], []⟩
def kc5T (B : Nat) (m0 : Bool) (N : Nat) (n : Nat) (ho : Option Addr) (hcap : Nat) (ko : Option Addr) (kcap : Nat) (eo : Option Addr) (ecap : Nat) (hs : List Int) (es : List Int) (X0 X1 X2 : List Int) (b0 b1 : Bool) : Nat → Value → Value → (Nat → Prop) → World → Prop
  | 0, v, _, _, _ => v = .func (.func 112) #[.pointer (some ⟨N, 0, none⟩)] #[]
  | 1, v, _, _, _ => v = .agg #[.int .i64 n, .int .i64 1, .slice ko X0.length kcap]
  | 2, v, _, _, _ => v = .agg #[.int .i64 1, .int .i64 n, .slice ho hs.length hcap]
  | 3, v, _, S, w => StepV B N n 1 X0 n n X1 b0 v S w
  | 4, v, _, _, _ => v = .agg #[.int .i64 n, .int .i64 n, .slice eo es.length ecap]
  | 5, v, _, S, w => StepV B N n n X1 n n X2 b1 v S w
  | 6, v, _, S, w => TSl B [StepV B N n 1 X0 n n X1 b0, StepV B N n n X1 n n X2 b1] v S w
  | 7, v, _, S, w => TRes B N n n X2 (m0 || anyB (fun i => [b0, b1].getD i false) 2) v S w
  | 8, v, _, S, w => TPtr B v S w
  | 9, _, u, S, w => TSto B n n X2 u S w
  | _, _, _, _, _ => True
set_option maxRecDepth 40000 in
set_option maxHeartbeats 400000 in
theorem kc5_region {Q : Exit → Act → World → Prop} {w0 : World} {m0 : Bool} {N : Nat} {D8 : Nat} {D13 : Nat} {D15 : Nat} {n : Nat} {ho : Option Addr} {hcap : Nat} {ko : Option Addr} {kcap : Nat} {eo : Option Addr} {ecap : Nat} {hs : List Int} {es : List Int} {u1 u2 u3 u4 u5 u6 u7 u9 u10 u11 u12 u14 u16 u18 u19 u20 u21 u22 u23 u24 u25 u26 u27 u28 u29 u30 u31 u32 u33 u34 u35 u36 u37 u38 u39 u40 u41 u42 u43 u44 u45 u46 u47 u48 u57 u58 u59 u60 u61 u62 u63 u64 u65 u66 u67 u68 u69 u70 u71 u72 u73 u74 u75 u76 u77 u78 u79 u80 u81 : Value} (X0 X1 X2 : List Int) (b0 b1 : Bool) (hN : w0.heap[N]? = some (.cells #[.bool m0, .int .i64 0] 141 (0, 0))) (hpos : ∀ i, i ≤ 2 → 0 < ([X0, X1, X2].getD i []).length)
    (cH : ∀ w, Mod (fun b => b = N) w0 w → w.cell? ⟨D8, 0, none⟩ = some (.int .i64 1) ∧ w.cell? ⟨D8, 1, none⟩ = some (.int .i64 n) ∧ w.cell? ⟨D8, 2, none⟩ = some (.slice ho hs.length hcap))
    (cK : ∀ w, Mod (fun b => b = N) w0 w → w.cell? ⟨D13, 0, none⟩ = some (.int .i64 n) ∧ w.cell? ⟨D13, 1, none⟩ = some (.int .i64 1) ∧ w.cell? ⟨D13, 2, none⟩ = some (.slice ko X0.length kcap))
    (cE : ∀ w, Mod (fun b => b = N) w0 w → w.cell? ⟨D15, 0, none⟩ = some (.int .i64 n) ∧ w.cell? ⟨D15, 1, none⟩ = some (.int .i64 n) ∧ w.cell? ⟨D15, 2, none⟩ = some (.slice eo es.length ecap))
    (sH : Sees w0 (.slice ho hs.length hcap) hs) (oH : Old w0.heap.size N (.slice ho hs.length hcap))
    (sK : Sees w0 (.slice ko X0.length kcap) X0) (oK : Old w0.heap.size N (.slice ko X0.length kcap))
    (sE : Sees w0 (.slice eo es.length ecap) es) (oE : Old w0.heap.size N (.slice eo es.length ecap))
    (st0 : ∀ w A va S, w.heap[A]? = some (.cells #[.int .i64 1, .int .i64 n, va] 29 (0, 0)) → S A → Sees w va hs → OkS w0.heap.size N S va → StepV w0.heap.size N n 1 X0 n n X1 b0 (.func (.func 158) #[] #[.pointer (some ⟨A, 0, none⟩)]) S w)
    (st1 : ∀ w A va S, w.heap[A]? = some (.cells #[.int .i64 n, .int .i64 n, va] 29 (0, 0)) → S A → Sees w va es → OkS w0.heap.size N S va → StepV w0.heap.size N n n X1 n n X2 b1 (.func (.func 199) #[] #[.pointer (some ⟨A, 0, none⟩)]) S w)
    (hQ : ∀ vs D ao cap w, Mod (fun b => b = N) w0 w → vs 17 = .pointer (some ⟨D, 0, none⟩) → w0.heap.size ≤ D → w.heap[D]? = some (.cells #[.int .i64 n, .int .i64 n, .slice ao X2.length cap] 29 (0, 0)) → Sees w (.slice ao X2.length cap) X2 → (∀ q, (Value.slice ao X2.length cap).ownBlock = some q → w0.heap.size ≤ q) → w.heap[N]? = some (.cells #[.bool (m0 || anyB (fun i => [b0, b1].getD i false) 2), .int .i64 0] 141 (0, 0)) → Q .normal (kc5Fr N D8 D13 D15 u1 u2 u3 u4 u5 u6 u7 u9 u10 u11 u12 u14 u16 u18 u19 u20 u21 u22 u23 u24 u25 u26 u27 u28 u29 u30 u31 u32 u33 u34 u35 u36 u37 u38 u39 u40 u41 u42 u43 u44 u45 u46 u47 u48 u57 u58 u59 u60 u61 u62 u63 u64 u65 u66 u67 u68 u69 u70 u71 u72 u73 u74 u75 u76 u77 u78 u79 u80 u81 vs) w) :
    (Code.region 5 kc5Ops true).wp Tryz.prog Q (kc5Fr N D8 D13 D15 u1 u2 u3 u4 u5 u6 u7 u9 u10 u11 u12 u14 u16 u18 u19 u20 u21 u22 u23 u24 u25 u26 u27 u28 u29 u30 u31 u32 u33 u34 u35 u36 u37 u38 u39 u40 u41 u42 u43 u44 u45 u46 u47 u48 u57 u58 u59 u60 u61 u62 u63 u64 u65 u66 u67 u68 u69 u70 u71 u72 u73 u74 u75 u76 u77 u78 u79 u80 u81 (fun _ => undef)) w0 := by
  refine wp_region_own (by kernel_rfl) (by decide) kc5Dst (by decide) (kc5Fr N D8 D13 D15 u1 u2 u3 u4 u5 u6 u7 u9 u10 u11 u12 u14 u16 u18 u19 u20 u21 u22 u23 u24 u25 u26 u27 u28 u29 u30 u31 u32 u33 u34 u35 u36 u37 u38 u39 u40 u41 u42 u43 u44 u45 u46 u47 u48 u57 u58 u59 u60 u61 u62 u63 u64 u65 u66 u67 u68 u69 u70 u71 u72 u73 u74 u75 u76 u77 u78 u79 u80 u81) (fun _ => undef) (fun i => if i = 9 then 8 else i) (by decide) (fun b => b = N) (fun q hq => by subst hq; exact lt_of_block hN) (fun i q => i = 7 ∧ q = N) (fun i q h => h.2) (fun i j q h h' => h.1.trans h'.1.symm)
    (fun s j => s = 9 ∧ j = 8) (fun s j h => by obtain ⟨rfl, rfl⟩ := h; exact ⟨by decide, by decide⟩) (fun s j h => by obtain ⟨rfl, rfl⟩ := h; decide) (kc5T w0.heap.size m0 N n ho hcap ko kcap eo ecap hs es X0 X1 X2 b0 b1) ?_ ?_ ?_
  · intro i v u S w w' hi h hw hw' hz hS
    have ha : Agr w0.heap.size N S w w' := agr_of hw hw' hz hS
    have hi' : i < 10 := hi
    rcases (by omega : i = 0 ∨ i = 1 ∨ i = 2 ∨ i = 3 ∨ i = 4 ∨ i = 5 ∨ i = 6 ∨ i = 7 ∨ i = 8 ∨ i = 9) with rfl | rfl | rfl | rfl | rfl | rfl | rfl | rfl | rfl | rfl
    · exact h
    · exact h
    · exact h
    · exact StepV.stab h ha
    · exact h
    · exact StepV.stab h ha
    · exact TSl.stab h (fun t ht u htu => (by simp only [List.mem_cons, List.not_mem_nil, or_false] at ht; rcases ht with rfl | rfl <;> exact StepV.stab htu ha)) ha
    · exact TRes.stab h ha
    · exact TPtr.stab h ha
    · exact TSto.stab h ha
  · intro i hi vs w S hb hp hbd hwr hkl _
    have hi' : i < 10 := hi
    rcases (by omega : i = 0 ∨ i = 1 ∨ i = 2 ∨ i = 3 ∨ i = 4 ∨ i = 5 ∨ i = 6 ∨ i = 7 ∨ i = 8 ∨ i = 9) with rfl | rfl | rfl | rfl | rfl | rfl | rfl | rfl | rfl | rfl
    · exact wpOp_of _ rfl rfl (op_move rfl rfl ⟨_, fun _ => False, rfl, rfl, fun _ h => h.elim, fun _ _ h => h.elim, Mod.refl _ _⟩)
    · exact wpOp_of _ rfl rfl (op_loadM rfl rfl (cK w hb).1 (cK w hb).2.1 (cK w hb).2.2 ⟨_, fun _ => False, rfl, rfl, fun _ h => h.elim, fun _ _ h => h.elim, Mod.refl _ _⟩)
    · exact wpOp_of _ rfl rfl (op_loadM rfl rfl (cH w hb).1 (cH w hb).2.1 (cH w hb).2.2 ⟨_, fun _ => False, rfl, rfl, fun _ h => h.elim, fun _ _ h => h.elim, Mod.refl _ _⟩)
    · have h2 : vs 51 = .agg #[.int .i64 1, .int .i64 n, .slice ho hs.length hcap] := hp 2 (by decide)
      exact wpOp_of _ rfl rfl (op_call1 enters_mrght rfl h2 (rght_any _ _ _ _ _ w) (by rintro e b ⟨rfl, rfl⟩; exact ⟨_, rfl, _, fun q => q = w.heap.size, rfl, st0 _ _ _ _ (heap_new _ _) rfl ((sH.mod oH hb).alloc _) (oH.ok _), fun q hq => .inr (.inl (by subst hq; simp)), fun h => by obtain ⟨s9, h9⟩ := h; exact absurd h9.2 (by decide), Mod.of (box_below w _)⟩))
    · exact wpOp_of _ rfl rfl (op_loadM rfl rfl (cE w hb).1 (cE w hb).2.1 (cE w hb).2.2 ⟨_, fun _ => False, rfl, rfl, fun _ h => h.elim, fun _ _ h => h.elim, Mod.refl _ _⟩)
    · have h4 : vs 53 = .agg #[.int .i64 n, .int .i64 n, .slice eo es.length ecap] := hp 4 (by decide)
      exact wpOp_of _ rfl rfl (op_call1 enters_mless rfl h4 (less_any _ _ _ _ _ w) (by rintro e b ⟨rfl, rfl⟩; exact ⟨_, rfl, _, fun q => q = w.heap.size, rfl, st1 _ _ _ _ (heap_new _ _) rfl ((sE.mod oE hb).alloc _) (oE.ok _), fun q hq => .inr (.inl (by subst hq; simp)), fun h => by obtain ⟨s9, h9⟩ := h; exact absurd h9.2 (by decide), Mod.of (box_below w _)⟩))
    · have t0 : StepV w0.heap.size N n 1 X0 n n X1 b0 (vs 52) (S 3) w := hp 3 (by decide)
      obtain ⟨F0, c0, e0, _⟩ := id t0
      have t1 : StepV w0.heap.size N n n X1 n n X2 b1 (vs 54) (S 5) w := hp 5 (by decide)
      obtain ⟨F1, c1, e1, _⟩ := id t1
      have hX : ∀ j, j < 2 → ∀ q, ([S 3, S 5].getD j (fun _ => False)) q → q < w.heap.size := by
        intro j hj q hq
        rcases (by omega : j = 0 ∨ j = 1) with rfl | rfl
        · exact (hbd 3 (by decide) q hq).1
        · exact (hbd 5 (by decide) q hq).1
      have t0' : StepV w0.heap.size N n 1 X0 n n X1 b0 (.func (.func F0) #[] c0) (fun q => q = w.heap.size ∨ S 3 q ∨ S 5 q) (w.alloc (.cells #[.func (.func F0) #[] c0, .func (.func F1) #[] c1] 145)) := by
        have z := (t0.stab (w' := w.alloc (.cells #[.func (.func F0) #[] c0, .func (.func F1) #[] c1] 145)) ⟨(box_below w _).size, fun q hq => (box_below w _).block q (hq.elim (fun h => hX 0 (by decide) q h) (fun h => Nat.lt_of_lt_of_le h.1 hb.size))⟩).mono (S' := fun q => q = w.heap.size ∨ S 3 q ∨ S 5 q) (fun q h => .inr (.inl h))
        rw [e0] at z
        exact z
      have t1' : StepV w0.heap.size N n n X1 n n X2 b1 (.func (.func F1) #[] c1) (fun q => q = w.heap.size ∨ S 3 q ∨ S 5 q) (w.alloc (.cells #[.func (.func F0) #[] c0, .func (.func F1) #[] c1] 145)) := by
        have z := (t1.stab (w' := w.alloc (.cells #[.func (.func F0) #[] c0, .func (.func F1) #[] c1] 145)) ⟨(box_below w _).size, fun q hq => (box_below w _).block q (hq.elim (fun h => hX 1 (by decide) q h) (fun h => Nat.lt_of_lt_of_le h.1 hb.size))⟩).mono (S' := fun q => q = w.heap.size ∨ S 3 q ∨ S 5 q) (fun q h => .inr (.inr (h)))
        rw [e1] at z
        exact z
      have hTS : ∀ (i : Nat) (t : Value → (Nat → Prop) → World → Prop) (u : Value), [StepV w0.heap.size N n 1 X0 n n X1 b0, StepV w0.heap.size N n n X1 n n X2 b1][i]? = some t → [.func (.func F0) #[] c0, .func (.func F1) #[] c1][i]? = some u → t u (fun q => q = w.heap.size ∨ S 3 q ∨ S 5 q) (w.alloc (.cells #[.func (.func F0) #[] c0, .func (.func F1) #[] c1] 145)) := by
        intro i t u ht hu
        have hi : i < 2 := by have := (List.getElem?_eq_some_iff.1 ht).1; simpa using this
        rcases (by omega : i = 0 ∨ i = 1) with rfl | rfl
        · cases ht; cases hu; exact t0'
        · cases ht; cases hu; exact t1'
      exact wpOp_of _ rfl rfl (op_slice2 rfl e0 e1 ⟨_, fun q => q = w.heap.size ∨ S 3 q ∨ S 5 q, rfl, ⟨w.heap.size, [.func (.func F0) #[] c0, .func (.func F1) #[] c1], rfl, .inl rfl, hb.size, rfl, heap_new _ _, hTS⟩, fun q hq => hq.elim (fun h => .inr (.inl (by subst h; simp))) (fun h => h.elim (fun h => .inl ⟨3, by decide, h⟩) (fun h => .inl ⟨5, by decide, h⟩)), fun h => (by obtain ⟨s9, h9⟩ := h; exact absurd h9.2 (by decide)), Mod.of (box_below w _)⟩)
    · have h0 : vs 49 = .func (.func 112) #[.pointer (some ⟨N, 0, none⟩)] #[] := hp 0 (by decide)
      have h1 : vs 50 = .agg #[.int .i64 n, .int .i64 1, .slice ko X0.length kcap] := hp 1 (by decide)
      have hT : TSl w0.heap.size [StepV w0.heap.size N n 1 X0 n n X1 b0, StepV w0.heap.size N n n X1 n n X2 b1] (vs 55) (S 6) w := hp 6 (by decide)
      have hn0 : w.heap[N]? = some (.cells #[.bool m0, .int .i64 0] 141 (0, 0)) := (hwr N rfl (fun j h => ⟨by rw [h.1]; decide, .inl h.1⟩)).trans hN
      exact wpOp_of _ rfl rfl (op_call3 enters_kreck rfl h0 h1 rfl (reck_call 2 (by decide) (by decide) (fun i => [n, n, n].getD i 0) (fun i => [1, n, n].getD i 0) (fun i => [X0, X1, X2].getD i []) (fun i => [b0, b1].getD i false) N m0 w0 w _ _ (S 6) hb hn0 (hT) (fun b hSb => ⟨(hbd 6 (by decide) b hSb).1, fun e => (hbd 6 (by decide) b hSb).2 ⟨rfl, e⟩⟩) hpos (sK.mod oK hb) (fun b hb' => (oK b hb').2)) (by rintro e b ⟨x, S', rfl, hR, hS', hM⟩; exact ⟨_, rfl, _, S', rfl, hR, fun q hq => (hS' q hq).elim (fun h => .inr (.inl h)) (fun h => .inr (.inr ⟨rfl, h⟩)), fun h => by obtain ⟨s9, h9⟩ := h; exact absurd h9.2 (by decide), hM.mono fun q _ hq => .inl ⟨rfl, hq⟩⟩))
    · exact wpOp_of _ rfl rfl (op_alloc24 rfl ⟨_, fun b => b = w.heap.size, rfl, ⟨_, rfl, rfl, hb.size, _, _, _, heap_new _ _⟩, fun b h => .inr (.inl (by subst h; simp)), fun _ b h => .inl (by omega), Mod.of (box_below w _)⟩)
    · obtain ⟨D, hD, hSD, hBD, x, y, z, hbl⟩ : TPtr w0.heap.size (vs 17) (S 8) w := hp 8 (by decide)
      obtain ⟨⟨ao, cap, hf, hs, hso⟩, _⟩ : TRes w0.heap.size N n n X2 (m0 || anyB (fun i => [b0, b1].getD i false) 2) (vs 56) (S 7) w := hp 7 (by decide)
      have hne : ∀ q, (Value.slice ao X2.length cap).ownBlock = some q → q ≠ D := fun q hq e => hkl 8 ⟨rfl, rfl⟩ 7 (by decide) (by decide) D hSD (e ▸ (hso q hq).1)
      refine wpOp_of _ rfl rfl (op_store24 rfl rfl hD hf hbl ?_)
      refine ⟨undef, fun q => q = D ∨ S 7 q, rfl, ⟨D, ao, cap, hD, .inl rfl, hBD, put_mat hbl, ((hs.set' (a := ⟨D, 0, none⟩) hne _).set' (a := ⟨D, 1, none⟩) hne _).set' (a := ⟨D, 2, none⟩) hne _, fun q hq => ⟨.inr (hso q hq).1, (hso q hq).2⟩⟩, fun q hq => hq.elim (fun h => .inl ⟨8, by decide, h ▸ hSD⟩) (fun h => .inl ⟨7, by decide, h⟩), fun h => by obtain ⟨s9, h9⟩ := h; exact absurd h9.2 (by decide), ?_⟩
      refine ⟨rfl, rfl, rfl, by simp [World.setCell], fun q hq hq' => ?_⟩
      have hqD : q ≠ D := fun e => hq' (.inr ⟨8, ⟨rfl, rfl⟩, e ▸ hSD⟩)
      rw [Below.heap_setCell _ _ _ _ hqD, Below.heap_setCell _ _ _ _ hqD, Below.heap_setCell _ _ _ _ hqD]
  · intro vs w S hb hT
    obtain ⟨D, ao, cap, h1, _, h3, h4, h5, h6⟩ : TSto w0.heap.size n n X2 (vs 17) (S 9) w := hT 9 (by decide) (fun s h => by omega)
    obtain ⟨_, _, h7⟩ : TRes w0.heap.size N n n X2 (m0 || anyB (fun i => [b0, b1].getD i false) 2) (vs 56) (S 7) w := hT 7 (by decide) (fun s h => by omega)
    exact hQ vs D ao cap w hb h1 h3 h4 h5 (fun q hq => (h6 q hq).2) h7
def kc6Ops : Array Oper := #[
 ⟨some 57, .move (.tmp 0), 143, "kalman.go:122", #[], none⟩,
 ⟨some 58, .load 29 (.tmp 13), 29, "kalman.go:122", #[], none⟩,
 ⟨some 59, .move (.tmp 5), 22, "kalman.go:122", #[], none⟩,
 ⟨some 60, .call ⟨.value (.func 189), #[.tmp 59], #[22]⟩, 145, "kalman.go:122", #[eD 2], none⟩,
 ⟨some 61, .load 29 (.tmp 13), 29, "kalman.go:122", #[], none⟩,
 ⟨some 62, .call ⟨.value (.func 115), #[.tmp 61], #[29]⟩, 29, "kalman.go:122", #[eD 4, eC 3], none⟩,
 ⟨some 63, .call ⟨.value (.func 114), #[.tmp 62], #[29]⟩, 145, "kalman.go:122", #[eD 5, eC 5], none⟩,
 ⟨some 64, .buildSlice 183 2 #[(0, .tmp 60), (1, .tmp 63)], 183, "kalman.go:122", #[eD 3, eD 6], none⟩,
 ⟨some 65, .call ⟨.value (.func 111), #[.tmp 57, .tmp 58, .tmp 64], #[143, 29, 183]⟩, 29, "kalman.go:122", #[eD 0, eD 1, eD 7, eC 6], none⟩,
 ⟨some 18, .alloc 29, 0, "kalman.go:122", #[], none⟩,
 ⟨none, .store 29 (.tmp 18) (.tmp 65), 0, "kalman.go:122", #[eD 9, eD 8, eC 8, eP 0, eP 1, eP 2, eP 3, eP 4, eP 5, eP 6, eP 7, eP 8, eP 9], none⟩]
def kc6Dst (i : Nat) : Nat := [57, 58, 59, 60, 61, 62, 63, 64, 65, 18, 1000].getD i 0
def kc6Fr (N : Nat) (D13 : Nat) (r : Int) (u1 u2 u3 u4 u6 u7 u8 u9 u10 u11 u12 u14 u15 u16 u17 u19 u20 u21 u22 u23 u24 u25 u26 u27 u28 u29 u30 u31 u32 u33 u34 u35 u36 u37 u38 u39 u40 u41 u42 u43 u44 u45 u46 u47 u48 u49 u50 u51 u52 u53 u54 u55 u56 u66 u67 u68 u69 u70 u71 u72 u73 u74 u75 u76 u77 u78 u79 u80 u81 : Value) (vs : Nat → Value) : Act := ⟨#[.func (.func 112) #[.pointer (some ⟨N, 0, none⟩)] #[], u1, u2, u3, u4, .int .i64 r, u6, u7, u8, u9, u10, u11, u12, .pointer (some ⟨D13, 0, none⟩), u14, u15, u16, u17, vs 18, u19, u20, u21, u22, u23, u24, u25, u26, u27, u28, u29, u30, u31, u32, u33, u34, u35, u36, u37, u38, u39, u40, u41, u42, u43, u44, u45, u46, u47, u48, u49, u50, u51, u52, u53, u54, u55, u56, vs 57, vs 58, vs 59, vs 60, vs 61, vs 62, vs 63, vs 64, vs 65, u66, u67, u68, u69, u70, u71, u72, u73, u74, u75, u76, u77, u78, u79, u80, u81], []⟩
def kc6T (B : Nat) (m0 : Bool) (N : Nat) (n : Nat) (r : Int) (ko : Option Addr) (kcap : Nat) (ts : List Int) (X0 X1 X2 : List Int) (b0 b1 : Bool) : Nat → Value → Value → (Nat → Prop) → World → Prop
  | 0, v, _, _, _ => v = .func (.func 112) #[.pointer (some ⟨N, 0, none⟩)] #[]
  | 1, v, _, _, _ => v = .agg #[.int .i64 n, .int .i64 1, .slice ko X0.length kcap]
  | 2, v, _, _, _ => v = .int .i64 r
  | 3, v, _, S, w => StepV B N n 1 X0 n 1 X1 b0 v S w
  | 4, v, _, _, _ => v = .agg #[.int .i64 n, .int .i64 1, .slice ko X0.length kcap]
  | 5, v, _, S, w => TMat B 1 n ts v S w
  | 6, v, _, S, w => StepV B N n 1 X1 n n X2 b1 v S w
  | 7, v, _, S, w => TSl B [StepV B N n 1 X0 n 1 X1 b0, StepV B N n 1 X1 n n X2 b1] v S w
  | 8, v, _, S, w => TRes B N n n X2 (m0 || anyB (fun i => [b0, b1].getD i false) 2) v S w
  | 9, v, _, S, w => TPtr B v S w
  | 10, _, u, S, w => TSto B n n X2 u S w
  | _, _, _, _, _ => True
set_option maxRecDepth 40000 in
set_option maxHeartbeats 400000 in
theorem kc6_region {Q : Exit → Act → World → Prop} {w0 : World} {m0 : Bool} {N : Nat} {D13 : Nat} {n : Nat} {r : Int} {ko : Option Addr} {kcap : Nat} {ts : List Int} {u1 u2 u3 u4 u6 u7 u8 u9 u10 u11 u12 u14 u15 u16 u17 u19 u20 u21 u22 u23 u24 u25 u26 u27 u28 u29 u30 u31 u32 u33 u34 u35 u36 u37 u38 u39 u40 u41 u42 u43 u44 u45 u46 u47 u48 u49 u50 u51 u52 u53 u54 u55 u56 u66 u67 u68 u69 u70 u71 u72 u73 u74 u75 u76 u77 u78 u79 u80 u81 : Value} (X0 X1 X2 : List Int) (b0 b1 : Bool) (hN : w0.heap[N]? = some (.cells #[.bool m0, .int .i64 0] 141 (0, 0))) (hpos : ∀ i, i ≤ 2 → 0 < ([X0, X1, X2].getD i []).length)
    (cK : ∀ w, Mod (fun b => b = N) w0 w → w.cell? ⟨D13, 0, none⟩ = some (.int .i64 n) ∧ w.cell? ⟨D13, 1, none⟩ = some (.int .i64 1) ∧ w.cell? ⟨D13, 2, none⟩ = some (.slice ko X0.length kcap))
    (sK : Sees w0 (.slice ko X0.length kcap) X0) (oK : Old w0.heap.size N (.slice ko X0.length kcap))
    (kT62 : ∀ w, Mod (fun b => b = N) w0 w → Calls Tryz.prog 115 #[.agg #[.int .i64 n, .int .i64 1, .slice ko X0.length kcap]] w fun e b => ∃ v, e = .returned (.agg #[.int .i64 1, .int .i64 n, v]) ∧ Sees b v ts ∧ New w.heap.size v ∧ Below w.heap.size w b) (z62 : 0 < ts.length)
    (st0 : ∀ w A S, w.heap[A]? = some (.cells #[.int .i64 r] 22 (0, 0)) → S A → StepV w0.heap.size N n 1 X0 n 1 X1 b0 (.func (.func 196) #[] #[.pointer (some ⟨A, 0, none⟩)]) S w)
    (st1 : ∀ w A va S, w.heap[A]? = some (.cells #[.int .i64 1, .int .i64 n, va] 29 (0, 0)) → S A → Sees w va ts → OkS w0.heap.size N S va → StepV w0.heap.size N n 1 X1 n n X2 b1 (.func (.func 158) #[] #[.pointer (some ⟨A, 0, none⟩)]) S w)
    (hQ : ∀ vs D ao cap w, Mod (fun b => b = N) w0 w → vs 18 = .pointer (some ⟨D, 0, none⟩) → w0.heap.size ≤ D → w.heap[D]? = some (.cells #[.int .i64 n, .int .i64 n, .slice ao X2.length cap] 29 (0, 0)) → Sees w (.slice ao X2.length cap) X2 → (∀ q, (Value.slice ao X2.length cap).ownBlock = some q → w0.heap.size ≤ q) → w.heap[N]? = some (.cells #[.bool (m0 || anyB (fun i => [b0, b1].getD i false) 2), .int .i64 0] 141 (0, 0)) → Q .normal (kc6Fr N D13 r u1 u2 u3 u4 u6 u7 u8 u9 u10 u11 u12 u14 u15 u16 u17 u19 u20 u21 u22 u23 u24 u25 u26 u27 u28 u29 u30 u31 u32 u33 u34 u35 u36 u37 u38 u39 u40 u41 u42 u43 u44 u45 u46 u47 u48 u49 u50 u51 u52 u53 u54 u55 u56 u66 u67 u68 u69 u70 u71 u72 u73 u74 u75 u76 u77 u78 u79 u80 u81 vs) w) :
    (Code.region 6 kc6Ops true).wp Tryz.prog Q (kc6Fr N D13 r u1 u2 u3 u4 u6 u7 u8 u9 u10 u11 u12 u14 u15 u16 u17 u19 u20 u21 u22 u23 u24 u25 u26 u27 u28 u29 u30 u31 u32 u33 u34 u35 u36 u37 u38 u39 u40 u41 u42 u43 u44 u45 u46 u47 u48 u49 u50 u51 u52 u53 u54 u55 u56 u66 u67 u68 u69 u70 u71 u72 u73 u74 u75 u76 u77 u78 u79 u80 u81 (fun _ => undef)) w0 := by
  refine wp_region_own (by kernel_rfl) (by decide) kc6Dst (by decide) (kc6Fr N D13 r u1 u2 u3 u4 u6 u7 u8 u9 u10 u11 u12 u14 u15 u16 u17 u19 u20 u21 u22 u23 u24 u25 u26 u27 u28 u29 u30 u31 u32 u33 u34 u35 u36 u37 u38 u39 u40 u41 u42 u43 u44 u45 u46 u47 u48 u49 u50 u51 u52 u53 u54 u55 u56 u66 u67 u68 u69 u70 u71 u72 u73 u74 u75 u76 u77 u78 u79 u80 u81) (fun _ => undef) (fun i => if i = 10 then 9 else i) (by decide) (fun b => b = N) (fun q hq => by subst hq; exact lt_of_block hN) (fun i q => i = 8 ∧ q = N) (fun i q h => h.2) (fun i j q h h' => h.1.trans h'.1.symm)
    (fun s j => s = 10 ∧ j = 9) (fun s j h => by obtain ⟨rfl, rfl⟩ := h; exact ⟨by decide, by decide⟩) (fun s j h => by obtain ⟨rfl, rfl⟩ := h; decide) (kc6T w0.heap.size m0 N n r ko kcap ts X0 X1 X2 b0 b1) ?_ ?_ ?_
  · intro i v u S w w' hi h hw hw' hz hS
    have ha : Agr w0.heap.size N S w w' := agr_of hw hw' hz hS
    have hi' : i < 11 := hi
    rcases (by omega : i = 0 ∨ i = 1 ∨ i = 2 ∨ i = 3 ∨ i = 4 ∨ i = 5 ∨ i = 6 ∨ i = 7 ∨ i = 8 ∨ i = 9 ∨ i = 10) with rfl | rfl | rfl | rfl | rfl | rfl | rfl | rfl | rfl | rfl | rfl
    · exact h
    · exact h
    · exact h
    · exact StepV.stab h ha
    · exact h
    · exact TMat.stab h ha
    · exact StepV.stab h ha
    · exact TSl.stab h (fun t ht u htu => (by simp only [List.mem_cons, List.not_mem_nil, or_false] at ht; rcases ht with rfl | rfl <;> exact StepV.stab htu ha)) ha
    · exact TRes.stab h ha
    · exact TPtr.stab h ha
    · exact TSto.stab h ha
  · intro i hi vs w S hb hp hbd hwr hkl _
    have hi' : i < 11 := hi
    rcases (by omega : i = 0 ∨ i = 1 ∨ i = 2 ∨ i = 3 ∨ i = 4 ∨ i = 5 ∨ i = 6 ∨ i = 7 ∨ i = 8 ∨ i = 9 ∨ i = 10) with rfl | rfl | rfl | rfl | rfl | rfl | rfl | rfl | rfl | rfl | rfl
    · exact wpOp_of _ rfl rfl (op_move rfl rfl ⟨_, fun _ => False, rfl, rfl, fun _ h => h.elim, fun _ _ h => h.elim, Mod.refl _ _⟩)
    · exact wpOp_of _ rfl rfl (op_loadM rfl rfl (cK w hb).1 (cK w hb).2.1 (cK w hb).2.2 ⟨_, fun _ => False, rfl, rfl, fun _ h => h.elim, fun _ _ h => h.elim, Mod.refl _ _⟩)
    · exact wpOp_of _ rfl rfl (op_move rfl rfl ⟨_, fun _ => False, rfl, rfl, fun _ h => h.elim, fun _ _ h => h.elim, Mod.refl _ _⟩)
    · have h2 : vs 59 = .int .i64 r := hp 2 (by decide)
      exact wpOp_of _ rfl rfl (op_call1 enters_mscaled rfl h2 (scaled_any _ w) (by rintro e b ⟨rfl, rfl⟩; exact ⟨_, rfl, _, fun q => q = w.heap.size, rfl, st0 _ _ _ (heap_new _ _) rfl, fun q hq => .inr (.inl (by subst hq; simp)), fun h => by obtain ⟨s9, h9⟩ := h; exact absurd h9.2 (by decide), Mod.of (box_below w _)⟩))
    · exact wpOp_of _ rfl rfl (op_loadM rfl rfl (cK w hb).1 (cK w hb).2.1 (cK w hb).2.2 ⟨_, fun _ => False, rfl, rfl, fun _ h => h.elim, fun _ _ h => h.elim, Mod.refl _ _⟩)
    · have h4 : vs 61 = .agg #[.int .i64 n, .int .i64 1, .slice ko X0.length kcap] := hp 4 (by decide)
      exact wpOp_of _ rfl rfl (op_call1 enters_trans rfl h4 (kT62 w hb) (by rintro e b ⟨v, rfl, s', n', b'⟩; have hl := s'.lt z62; obtain ⟨so, sc, rfl⟩ := s'.slice; exact ⟨_, rfl, _, fun q => (Value.slice so ts.length sc).ownBlock = some q, rfl, ⟨so, sc, rfl, s', fun q hq => ⟨hq, Nat.le_trans hb.size (n' q hq)⟩⟩, fun q hq => .inr (.inl ⟨n' q hq, hl q hq⟩), fun h => by obtain ⟨s9, h9⟩ := h; exact absurd h9.2 (by decide), Mod.of b'⟩))
    · obtain ⟨so, sc, h5, s5, n5⟩ : TMat w0.heap.size 1 n ts (vs 62) (S 5) w := hp 5 (by decide)
      exact wpOp_of _ rfl rfl (op_call1 enters_mrght rfl h5 (rght_any _ _ _ _ _ w) (by rintro e b ⟨rfl, rfl⟩; exact ⟨_, rfl, _, fun q => q = w.heap.size ∨ S 5 q, rfl, st1 _ _ _ _ (heap_new _ _) (.inl rfl) (s5.alloc _) (fun q hq => .inl (.inr (n5 q hq).1)), fun q hq => hq.elim (fun h => .inr (.inl (by subst h; simp))) (fun h => .inl ⟨5, by decide, h⟩), fun h => by obtain ⟨s9, h9⟩ := h; exact absurd h9.2 (by decide), Mod.of (box_below w _)⟩))
    · have t0 : StepV w0.heap.size N n 1 X0 n 1 X1 b0 (vs 60) (S 3) w := hp 3 (by decide)
      obtain ⟨F0, c0, e0, _⟩ := id t0
      have t1 : StepV w0.heap.size N n 1 X1 n n X2 b1 (vs 63) (S 6) w := hp 6 (by decide)
      obtain ⟨F1, c1, e1, _⟩ := id t1
      have hX : ∀ j, j < 2 → ∀ q, ([S 3, S 6].getD j (fun _ => False)) q → q < w.heap.size := by
        intro j hj q hq
        rcases (by omega : j = 0 ∨ j = 1) with rfl | rfl
        · exact (hbd 3 (by decide) q hq).1
        · exact (hbd 6 (by decide) q hq).1
      have t0' : StepV w0.heap.size N n 1 X0 n 1 X1 b0 (.func (.func F0) #[] c0) (fun q => q = w.heap.size ∨ S 3 q ∨ S 6 q) (w.alloc (.cells #[.func (.func F0) #[] c0, .func (.func F1) #[] c1] 145)) := by
        have z := (t0.stab (w' := w.alloc (.cells #[.func (.func F0) #[] c0, .func (.func F1) #[] c1] 145)) ⟨(box_below w _).size, fun q hq => (box_below w _).block q (hq.elim (fun h => hX 0 (by decide) q h) (fun h => Nat.lt_of_lt_of_le h.1 hb.size))⟩).mono (S' := fun q => q = w.heap.size ∨ S 3 q ∨ S 6 q) (fun q h => .inr (.inl h))
        rw [e0] at z
        exact z
      have t1' : StepV w0.heap.size N n 1 X1 n n X2 b1 (.func (.func F1) #[] c1) (fun q => q = w.heap.size ∨ S 3 q ∨ S 6 q) (w.alloc (.cells #[.func (.func F0) #[] c0, .func (.func F1) #[] c1] 145)) := by
        have z := (t1.stab (w' := w.alloc (.cells #[.func (.func F0) #[] c0, .func (.func F1) #[] c1] 145)) ⟨(box_below w _).size, fun q hq => (box_below w _).block q (hq.elim (fun h => hX 1 (by decide) q h) (fun h => Nat.lt_of_lt_of_le h.1 hb.size))⟩).mono (S' := fun q => q = w.heap.size ∨ S 3 q ∨ S 6 q) (fun q h => .inr (.inr (h)))
        rw [e1] at z
        exact z
      have hTS : ∀ (i : Nat) (t : Value → (Nat → Prop) → World → Prop) (u : Value), [StepV w0.heap.size N n 1 X0 n 1 X1 b0, StepV w0.heap.size N n 1 X1 n n X2 b1][i]? = some t → [.func (.func F0) #[] c0, .func (.func F1) #[] c1][i]? = some u → t u (fun q => q = w.heap.size ∨ S 3 q ∨ S 6 q) (w.alloc (.cells #[.func (.func F0) #[] c0, .func (.func F1) #[] c1] 145)) := by
        intro i t u ht hu
        have hi : i < 2 := by have := (List.getElem?_eq_some_iff.1 ht).1; simpa using this
        rcases (by omega : i = 0 ∨ i = 1) with rfl | rfl
        · cases ht; cases hu; exact t0'
        · cases ht; cases hu; exact t1'
      exact wpOp_of _ rfl rfl (op_slice2 rfl e0 e1 ⟨_, fun q => q = w.heap.size ∨ S 3 q ∨ S 6 q, rfl, ⟨w.heap.size, [.func (.func F0) #[] c0, .func (.func F1) #[] c1], rfl, .inl rfl, hb.size, rfl, heap_new _ _, hTS⟩, fun q hq => hq.elim (fun h => .inr (.inl (by subst h; simp))) (fun h => h.elim (fun h => .inl ⟨3, by decide, h⟩) (fun h => .inl ⟨6, by decide, h⟩)), fun h => (by obtain ⟨s9, h9⟩ := h; exact absurd h9.2 (by decide)), Mod.of (box_below w _)⟩)
    · have h0 : vs 57 = .func (.func 112) #[.pointer (some ⟨N, 0, none⟩)] #[] := hp 0 (by decide)
      have h1 : vs 58 = .agg #[.int .i64 n, .int .i64 1, .slice ko X0.length kcap] := hp 1 (by decide)
      have hT : TSl w0.heap.size [StepV w0.heap.size N n 1 X0 n 1 X1 b0, StepV w0.heap.size N n 1 X1 n n X2 b1] (vs 64) (S 7) w := hp 7 (by decide)
      have hn0 : w.heap[N]? = some (.cells #[.bool m0, .int .i64 0] 141 (0, 0)) := (hwr N rfl (fun j h => ⟨by rw [h.1]; decide, .inl h.1⟩)).trans hN
      exact wpOp_of _ rfl rfl (op_call3 enters_kreck rfl h0 h1 rfl (reck_call 2 (by decide) (by decide) (fun i => [n, n, n].getD i 0) (fun i => [1, 1, n].getD i 0) (fun i => [X0, X1, X2].getD i []) (fun i => [b0, b1].getD i false) N m0 w0 w _ _ (S 7) hb hn0 (hT) (fun b hSb => ⟨(hbd 7 (by decide) b hSb).1, fun e => (hbd 7 (by decide) b hSb).2 ⟨rfl, e⟩⟩) hpos (sK.mod oK hb) (fun b hb' => (oK b hb').2)) (by rintro e b ⟨x, S', rfl, hR, hS', hM⟩; exact ⟨_, rfl, _, S', rfl, hR, fun q hq => (hS' q hq).elim (fun h => .inr (.inl h)) (fun h => .inr (.inr ⟨rfl, h⟩)), fun h => by obtain ⟨s9, h9⟩ := h; exact absurd h9.2 (by decide), hM.mono fun q _ hq => .inl ⟨rfl, hq⟩⟩))
    · exact wpOp_of _ rfl rfl (op_alloc24 rfl ⟨_, fun b => b = w.heap.size, rfl, ⟨_, rfl, rfl, hb.size, _, _, _, heap_new _ _⟩, fun b h => .inr (.inl (by subst h; simp)), fun _ b h => .inl (by omega), Mod.of (box_below w _)⟩)
    · obtain ⟨D, hD, hSD, hBD, x, y, z, hbl⟩ : TPtr w0.heap.size (vs 18) (S 9) w := hp 9 (by decide)
      obtain ⟨⟨ao, cap, hf, hs, hso⟩, _⟩ : TRes w0.heap.size N n n X2 (m0 || anyB (fun i => [b0, b1].getD i false) 2) (vs 65) (S 8) w := hp 8 (by decide)
      have hne : ∀ q, (Value.slice ao X2.length cap).ownBlock = some q → q ≠ D := fun q hq e => hkl 9 ⟨rfl, rfl⟩ 8 (by decide) (by decide) D hSD (e ▸ (hso q hq).1)
      refine wpOp_of _ rfl rfl (op_store24 rfl rfl hD hf hbl ?_)
      refine ⟨undef, fun q => q = D ∨ S 8 q, rfl, ⟨D, ao, cap, hD, .inl rfl, hBD, put_mat hbl, ((hs.set' (a := ⟨D, 0, none⟩) hne _).set' (a := ⟨D, 1, none⟩) hne _).set' (a := ⟨D, 2, none⟩) hne _, fun q hq => ⟨.inr (hso q hq).1, (hso q hq).2⟩⟩, fun q hq => hq.elim (fun h => .inl ⟨9, by decide, h ▸ hSD⟩) (fun h => .inl ⟨8, by decide, h⟩), fun h => by obtain ⟨s9, h9⟩ := h; exact absurd h9.2 (by decide), ?_⟩
      refine ⟨rfl, rfl, rfl, by simp [World.setCell], fun q hq hq' => ?_⟩
      have hqD : q ≠ D := fun e => hq' (.inr ⟨9, ⟨rfl, rfl⟩, e ▸ hSD⟩)
      rw [Below.heap_setCell _ _ _ _ hqD, Below.heap_setCell _ _ _ _ hqD, Below.heap_setCell _ _ _ _ hqD]
  · intro vs w S hb hT
    obtain ⟨D, ao, cap, h1, _, h3, h4, h5, h6⟩ : TSto w0.heap.size n n X2 (vs 18) (S 10) w := hT 10 (by decide) (fun s h => by omega)
    obtain ⟨_, _, h7⟩ : TRes w0.heap.size N n n X2 (m0 || anyB (fun i => [b0, b1].getD i false) 2) (vs 65) (S 8) w := hT 8 (by decide) (fun s h => by omega)
    exact hQ vs D ao cap w hb h1 h3 h4 h5 (fun q hq => (h6 q hq).2) h7
end Go.Proofs.YtoefekkdjcflmaaGreatDoor

