/- Parts of the proof. -/
import Derived.Test.YtoefekkdjcflmaaGreatDoorM22
namespace Go.Proofs.YtoefekkdjcflmaaGreatDoor
open Go.RowKit Go.Sort Qm
set_option maxRecDepth 20000 in
set_option maxHeartbeats 800000 in
theorem kdiag_any (n : Nat) (n1 : 1 ≤ n) (hn : n ≤ 8) (v : Value) (ps : List Int) (hp : ps.length = n * n) (w : World) (hs : Sees w v ps) :
    Calls Tryz.prog 142 #[.agg #[.int .i64 n, .int .i64 n, v]] w fun e b => ∃ v', e = .returned v' ∧ Sees b v' (tab (fun i => ge ps (i * n + i)) n) ∧ New w.heap.size v' ∧ Below w.heap.size w b := by
  obtain ⟨i0, hi0, hz0, hz1, hz2⟩ := info_parts Tryz.info33
  have h64 : n * n ≤ 64 := mul_le_64 hn hn
  have hpos : 0 < n * n := Nat.mul_pos n1 n1
  obtain ⟨ao, cap, rfl⟩ := hs.slice
  obtain ⟨ad, hao, _⟩ := hs.at 0 (by omega)
  subst hao
  obtain ⟨m, hm⟩ : ∃ m, ps.length = m := ⟨_, rfl⟩
  have HM : Hid (ps.length = m) := hm
  have HM2 : Hid (m = n * n) := by rw [← hm]; exact hp
  rw [hm] at hs ⊢
  clear hp
  obtain ⟨W, hW⟩ : ∃ W, w.alloc (.cells #[.int .i64 n, .int .i64 n, .slice (some ad) m cap] 29) = W := ⟨_, rfl⟩
  have x1 := heap_new w (.cells #[.int .i64 n, .int .i64 n, .slice (some ad) m cap] 29)
  have bW := box_below w (.cells #[.int .i64 n, .int .i64 n, .slice (some ad) m cap] 29)
  rw [hW] at x1 bW
  have hsW := hs.below bW
  obtain ⟨c0, c1, c2, _⟩ := mat_cells x1
  clear hm
  have hll := hsW.lt (by rw [HM.out, HM2.out]; exact hpos)
  go_enter Tryz.func142, Tryz.ntmps142
  go_wp2_with (at_make; go_must (refine wpList_make_own _ rfl _ _ 27 rfl W.heap.size 22 i0 (.int .i64 0) 1 Tryz.under22 hi0 hz0 hz1 .i64 .i64 _ n rfl rfl rfl (by rw [hz2]; omega) (by unfold maxLen; omega) (by simp) ?_); intro w1 hown1 hg1; have hb1 := gb_none hg1; clear hg1; obtain ⟨q0, q1, q2, _⟩ := mat_cells (keep hb1 x1))
  go_loopw [3, 10] (fun l i wr => ∃ a : Nat, a ≤ n ∧ i = .int .i64 a ∧ wr.ownsRow W.heap.size 22 1 l a ((tab (fun i => ge ps (i * n + i)) a).map (Value.int .i64)) ∧ Below W.heap.size W wr) (fun _ i _ => n - (intOf i).toNat)
  case atStart => exact ⟨0, Nat.zero_le _, rfl, by simpa [tab_zero] using hown1, hb1⟩
  case round =>
    clear hown1 hb1 q0 q1 q2
    obtain ⟨a, ha, rfl, hown, hb⟩ := hrel
    obtain ⟨q0, q1, q2, _⟩ := mat_cells (keep hb x1)
    by_cases hlt : a < n
    · have pA : a * n + a < m := by rw [HM2.out]; exact at_lt hlt hlt
      have hl2 : (tab (fun i => ge ps (i * n + i)) (a + 1)).map (Value.int .i64) = (tab (fun i => ge ps (i * n + i)) a).map (Value.int .i64) ++ [.int .i64 (ge ps (a * n + a))] := by rw [tab_succ, List.map_append]; rfl
      have HL : Hid ((tab (fun i => ge ps (i * n + i)) (a + 1)).map (Value.int .i64) = (tab (fun i => ge ps (i * n + i)) a).map (Value.int .i64) ++ [.int .i64 (ge ps (a * n + a))]) := hl2
      clear hl2
      have hown' := fun k e => hown.lt k e
      go_wp2
      refine kdg_region (P := w.heap.size) (i := a) (r := n) (c := n) (ad := ad) (m := m) (cap := cap) (q := a * n + a) (B0 := W.heap.size) (a := a) (x := ge ps (a * n + a)) hi0 hz0 hz1 hz2 hown (by omega) hb.size pA (fun v hv => ?_) (fun v => onDiag_any n n a (by omega) hn (some ad) m cap v) ?_
      · have hx : v.heap[w.heap.size]? = _ := (hv.block w.heap.size (lt_of_block (keep hb x1)) (fun e => by have := (hown' _ e).1; have := lt_of_block x1; omega)).trans (keep hb x1)
        obtain ⟨r0, r1, r2, _⟩ := mat_cells hx
        have hsv : Sees v (.slice (some ad) m cap) ps := (hsW.below hb).agree hv.size fun k hk => hv.block k (by have := hll k hk; have := hb.size; omega) (fun e => by have := (hown' _ e).1; have := hll k hk; omega)
        obtain ⟨ad', e1, hc⟩ := hsv.at (a * n + a) (by rw [HM.out]; exact pA)
        injection e1 with e1
        subst e1
        exact ⟨r0, r1, r2, hc⟩
      intro vs wa ma ho
      unfold kdgFr
      have hbE : Below W.heap.size W wa := hb.trans (ma.below hb.size (fun k hk => (hown' k hk).1))
      clear hown ma q0 q1 q2
      go_wp2
      go_roundw
      case rel => exact ⟨a + 1, by omega, by go_num, by rw [HL.out]; exact ho, hbE⟩
      case measure => simp [intOf]; omega
    · have e : a = n := by omega
      subst e
      have hsees := Sees.own hown
      have hnew := New.own hown
      clear hown
      go_wp2
      go_ret
      exact ⟨_, rfl, hsees, hnew.mono bW.size, bt bW hb⟩
def kp4Ops : Array Oper := #[
 ⟨some 33, .makeFunc (.func 112) #[.tmp 9] #[], 143, "kalman.go:45", #[], none⟩,
 ⟨some 34, .fieldAddr 31 (.tmp 3) 0, 0, "kalman.go:45", #[], none⟩,
 ⟨some 35, .load 29 (.tmp 34), 29, "kalman.go:45", #[eD 1], none⟩,
 ⟨some 36, .load 29 (.tmp 4), 29, "kalman.go:45", #[], none⟩,
 ⟨some 37, .call ⟨.value (.func 113), #[.tmp 36], #[29]⟩, 145, "kalman.go:45", #[eD 3], none⟩,
 ⟨some 38, .buildSlice 183 1 #[(0, .tmp 37)], 183, "kalman.go:45", #[eD 4], none⟩,
 ⟨some 39, .call ⟨.value (.func 111), #[.tmp 33, .tmp 35, .tmp 38], #[143, 29, 183]⟩, 29, "kalman.go:45", #[eD 0, eD 2, eD 5, eC 4], none⟩,
 ⟨some 10, .alloc 29, 0, "kalman.go:45", #[], none⟩,
 ⟨none, .store 29 (.tmp 10) (.tmp 39), 0, "kalman.go:45", #[eD 7, eD 6, eC 6, eP 0, eP 1, eP 2, eP 3, eP 4, eP 5, eP 6, eP 7], none⟩]
def kp4Dst (i : Nat) : Nat := [33, 34, 35, 36, 37, 38, 39, 10, 1000].getD i 0
def kp4Fr (N : Nat) (D3 : Nat) (D4 : Nat) (u0 u1 u2 u5 u6 u7 u8 u11 u12 u13 u14 u15 u16 u17 u18 u19 u20 u21 u22 u23 u24 u25 u26 u27 u28 u29 u30 u31 u32 u40 u41 u42 u43 u44 u45 u46 u47 u48 u49 u50 u51 u52 u53 u54 u55 u56 u57 u58 u59 u60 u61 u62 u63 : Value) (vs : Nat → Value) : Act := ⟨#[u0, u1, u2, .pointer (some ⟨D3, 0, none⟩), .pointer (some ⟨D4, 0, none⟩), u5, u6, u7, u8, .pointer (some ⟨N, 0, none⟩), vs 10, u11, u12, u13, u14, u15, u16, u17, u18, u19, u20, u21, u22, u23, u24, u25, u26, u27, u28, u29, u30, u31, u32, vs 33, vs 34, vs 35, vs 36, vs 37, vs 38, vs 39, u40, u41, u42, u43, u44, u45, u46, u47, u48, u49, u50, u51, u52, u53, u54, u55, u56, u57, u58, u59, u60, u61, u62, u63], []⟩
def kp4T (B : Nat) (m0 : Bool) (N : Nat) (D3 : Nat) (n : Nat) (xo : Option Addr) (xcap : Nat) (fo : Option Addr) (fcap : Nat) (fs : List Int) (X0 X1 : List Int) (b0 : Bool) : Nat → Value → Value → (Nat → Prop) → World → Prop
  | 0, v, _, _, _ => v = .func (.func 112) #[.pointer (some ⟨N, 0, none⟩)] #[]
  | 1, v, _, _, _ => v = .pointer (some ⟨D3, 0, none⟩)
  | 2, v, _, _, _ => v = .agg #[.int .i64 n, .int .i64 1, .slice xo X0.length xcap]
  | 3, v, _, _, _ => v = .agg #[.int .i64 n, .int .i64 n, .slice fo fs.length fcap]
  | 4, v, _, S, w => StepV B N n 1 X0 n 1 X1 b0 v S w
  | 5, v, _, S, w => TSl B [StepV B N n 1 X0 n 1 X1 b0] v S w
  | 6, v, _, S, w => TRes B N n 1 X1 (m0 || anyB (fun i => [b0].getD i false) 1) v S w
  | 7, v, _, S, w => TPtr B v S w
  | 8, _, u, S, w => TSto B n 1 X1 u S w
  | _, _, _, _, _ => True
set_option maxRecDepth 40000 in
set_option maxHeartbeats 400000 in
theorem kp4_region {Q : Exit → Act → World → Prop} {w0 : World} {m0 : Bool} {N : Nat} {D3 : Nat} {D4 : Nat} {n : Nat} {xo : Option Addr} {xcap : Nat} {fo : Option Addr} {fcap : Nat} {fs : List Int} {u0 u1 u2 u5 u6 u7 u8 u11 u12 u13 u14 u15 u16 u17 u18 u19 u20 u21 u22 u23 u24 u25 u26 u27 u28 u29 u30 u31 u32 u40 u41 u42 u43 u44 u45 u46 u47 u48 u49 u50 u51 u52 u53 u54 u55 u56 u57 u58 u59 u60 u61 u62 u63 : Value} (X0 X1 : List Int) (b0 : Bool) (hN : w0.heap[N]? = some (.cells #[.bool m0, .int .i64 0] 141 (0, 0))) (hpos : ∀ i, i ≤ 1 → 0 < ([X0, X1].getD i []).length)
    (cX : ∀ w, Mod (fun b => b = N) w0 w → w.cell? ⟨D3, 0, none⟩ = some (.int .i64 n) ∧ w.cell? ⟨D3, 1, none⟩ = some (.int .i64 1) ∧ w.cell? ⟨D3, 2, none⟩ = some (.slice xo X0.length xcap))
    (cF : ∀ w, Mod (fun b => b = N) w0 w → w.cell? ⟨D4, 0, none⟩ = some (.int .i64 n) ∧ w.cell? ⟨D4, 1, none⟩ = some (.int .i64 n) ∧ w.cell? ⟨D4, 2, none⟩ = some (.slice fo fs.length fcap))
    (sX : Sees w0 (.slice xo X0.length xcap) X0) (oX : Old w0.heap.size N (.slice xo X0.length xcap))
    (sF : Sees w0 (.slice fo fs.length fcap) fs) (oF : Old w0.heap.size N (.slice fo fs.length fcap))
    (st0 : ∀ w A va S, w.heap[A]? = some (.cells #[.int .i64 n, .int .i64 n, va] 29 (0, 0)) → S A → Sees w va fs → OkS w0.heap.size N S va → StepV w0.heap.size N n 1 X0 n 1 X1 b0 (.func (.func 156) #[] #[.pointer (some ⟨A, 0, none⟩)]) S w)
    (hQ : ∀ vs D ao cap w, Mod (fun b => b = N) w0 w → vs 10 = .pointer (some ⟨D, 0, none⟩) → w0.heap.size ≤ D → w.heap[D]? = some (.cells #[.int .i64 n, .int .i64 1, .slice ao X1.length cap] 29 (0, 0)) → Sees w (.slice ao X1.length cap) X1 → (∀ q, (Value.slice ao X1.length cap).ownBlock = some q → w0.heap.size ≤ q) → w.heap[N]? = some (.cells #[.bool (m0 || anyB (fun i => [b0].getD i false) 1), .int .i64 0] 141 (0, 0)) → Q .normal (kp4Fr N D3 D4 u0 u1 u2 u5 u6 u7 u8 u11 u12 u13 u14 u15 u16 u17 u18 u19 u20 u21 u22 u23 u24 u25 u26 u27 u28 u29 u30 u31 u32 u40 u41 u42 u43 u44 u45 u46 u47 u48 u49 u50 u51 u52 u53 u54 u55 u56 u57 u58 u59 u60 u61 u62 u63 vs) w) :
    (Code.region 4 kp4Ops true).wp Tryz.prog Q (kp4Fr N D3 D4 u0 u1 u2 u5 u6 u7 u8 u11 u12 u13 u14 u15 u16 u17 u18 u19 u20 u21 u22 u23 u24 u25 u26 u27 u28 u29 u30 u31 u32 u40 u41 u42 u43 u44 u45 u46 u47 u48 u49 u50 u51 u52 u53 u54 u55 u56 u57 u58 u59 u60 u61 u62 u63 (fun _ => undef)) w0 := by
  refine wp_region_own (by kernel_rfl) (by decide) kp4Dst (by decide) (kp4Fr N D3 D4 u0 u1 u2 u5 u6 u7 u8 u11 u12 u13 u14 u15 u16 u17 u18 u19 u20 u21 u22 u23 u24 u25 u26 u27 u28 u29 u30 u31 u32 u40 u41 u42 u43 u44 u45 u46 u47 u48 u49 u50 u51 u52 u53 u54 u55 u56 u57 u58 u59 u60 u61 u62 u63) (fun _ => undef) (fun i => if i = 8 then 7 else i) (by decide) (fun b => b = N) (fun q hq => by subst hq; exact lt_of_block hN) (fun i q => i = 6 ∧ q = N) (fun i q h => h.2) (fun i j q h h' => h.1.trans h'.1.symm)
    (fun s j => s = 8 ∧ j = 7) (fun s j h => by obtain ⟨rfl, rfl⟩ := h; exact ⟨by decide, by decide⟩) (fun s j h => by obtain ⟨rfl, rfl⟩ := h; decide) (kp4T w0.heap.size m0 N D3 n xo xcap fo fcap fs X0 X1 b0) ?_ ?_ ?_
  · intro i v u S w w' hi h hw hw' hz hS
    have ha : Agr w0.heap.size N S w w' := agr_of hw hw' hz hS
    have hi' : i < 9 := hi
    rcases (by omega : i = 0 ∨ i = 1 ∨ i = 2 ∨ i = 3 ∨ i = 4 ∨ i = 5 ∨ i = 6 ∨ i = 7 ∨ i = 8) with rfl | rfl | rfl | rfl | rfl | rfl | rfl | rfl | rfl
    · exact h
    · exact h
    · exact h
    · exact h
    · exact StepV.stab h ha
    · exact TSl.stab h (fun t ht u htu => (by simp only [List.mem_cons, List.not_mem_nil, or_false] at ht; rcases ht with rfl <;> exact StepV.stab htu ha)) ha
    · exact TRes.stab h ha
    · exact TPtr.stab h ha
    · exact TSto.stab h ha
  · intro i hi vs w S hb hp hbd hwr hkl _
    have hi' : i < 9 := hi
    rcases (by omega : i = 0 ∨ i = 1 ∨ i = 2 ∨ i = 3 ∨ i = 4 ∨ i = 5 ∨ i = 6 ∨ i = 7 ∨ i = 8) with rfl | rfl | rfl | rfl | rfl | rfl | rfl | rfl | rfl
    · exact wpOp_of _ rfl rfl (op_makeFunc1 rfl rfl ⟨_, fun _ => False, rfl, rfl, fun _ h => h.elim, fun _ _ h => h.elim, Mod.refl _ _⟩)
    · exact wpOp_of _ rfl rfl (op_fieldT (i := 0) (by decide) rfl rfl ⟨_, fun _ => False, rfl, rfl, fun _ h => h.elim, fun _ _ h => h.elim, Mod.refl _ _⟩)
    · have h1 : vs 34 = .pointer (some ⟨D3, 0, none⟩) := hp 1 (by decide)
      exact wpOp_of _ rfl rfl (op_loadM rfl h1 (cX w hb).1 (cX w hb).2.1 (cX w hb).2.2 ⟨_, fun _ => False, rfl, rfl, fun _ h => h.elim, fun _ _ h => h.elim, Mod.refl _ _⟩)
    · exact wpOp_of _ rfl rfl (op_loadM rfl rfl (cF w hb).1 (cF w hb).2.1 (cF w hb).2.2 ⟨_, fun _ => False, rfl, rfl, fun _ h => h.elim, fun _ _ h => h.elim, Mod.refl _ _⟩)
    · have h3 : vs 36 = .agg #[.int .i64 n, .int .i64 n, .slice fo fs.length fcap] := hp 3 (by decide)
      exact wpOp_of _ rfl rfl (op_call1 enters_mleft rfl h3 (left_any _ _ _ _ _ w) (by rintro e b ⟨rfl, rfl⟩; exact ⟨_, rfl, _, fun q => q = w.heap.size, rfl, st0 _ _ _ _ (heap_new _ _) rfl ((sF.mod oF hb).alloc _) (oF.ok _), fun q hq => .inr (.inl (by subst hq; simp)), fun h => by obtain ⟨s9, h9⟩ := h; exact absurd h9.2 (by decide), Mod.of (box_below w _)⟩))
    · have t0 : StepV w0.heap.size N n 1 X0 n 1 X1 b0 (vs 37) (S 4) w := hp 4 (by decide)
      obtain ⟨F0, c0, e0, _⟩ := id t0
      have hX : ∀ j, j < 1 → ∀ q, ([S 4].getD j (fun _ => False)) q → q < w.heap.size := by
        intro j hj q hq
        rcases (by omega : j = 0) with rfl
        · exact (hbd 4 (by decide) q hq).1
      have t0' : StepV w0.heap.size N n 1 X0 n 1 X1 b0 (.func (.func F0) #[] c0) (fun q => q = w.heap.size ∨ S 4 q) (w.alloc (.cells #[.func (.func F0) #[] c0] 145)) := by
        have z := (t0.stab (w' := w.alloc (.cells #[.func (.func F0) #[] c0] 145)) ⟨(box_below w _).size, fun q hq => (box_below w _).block q (hq.elim (fun h => hX 0 (by decide) q h) (fun h => Nat.lt_of_lt_of_le h.1 hb.size))⟩).mono (S' := fun q => q = w.heap.size ∨ S 4 q) (fun q h => .inr (h))
        rw [e0] at z
        exact z
      have hTS : ∀ (i : Nat) (t : Value → (Nat → Prop) → World → Prop) (u : Value), [StepV w0.heap.size N n 1 X0 n 1 X1 b0][i]? = some t → [.func (.func F0) #[] c0][i]? = some u → t u (fun q => q = w.heap.size ∨ S 4 q) (w.alloc (.cells #[.func (.func F0) #[] c0] 145)) := by
        intro i t u ht hu
        have hi : i < 1 := by have := (List.getElem?_eq_some_iff.1 ht).1; simpa using this
        rcases (by omega : i = 0) with rfl
        · cases ht; cases hu; exact t0'
      exact wpOp_of _ rfl rfl (op_slice1 rfl e0 ⟨_, fun q => q = w.heap.size ∨ S 4 q, rfl, ⟨w.heap.size, [.func (.func F0) #[] c0], rfl, .inl rfl, hb.size, rfl, heap_new _ _, hTS⟩, fun q hq => hq.elim (fun h => .inr (.inl (by subst h; simp))) (fun h => .inl ⟨4, by decide, h⟩), fun h => (by obtain ⟨s9, h9⟩ := h; exact absurd h9.2 (by decide)), Mod.of (box_below w _)⟩)
    · have h0 : vs 33 = .func (.func 112) #[.pointer (some ⟨N, 0, none⟩)] #[] := hp 0 (by decide)
      have h2 : vs 35 = .agg #[.int .i64 n, .int .i64 1, .slice xo X0.length xcap] := hp 2 (by decide)
      have hT : TSl w0.heap.size [StepV w0.heap.size N n 1 X0 n 1 X1 b0] (vs 38) (S 5) w := hp 5 (by decide)
      have hn0 : w.heap[N]? = some (.cells #[.bool m0, .int .i64 0] 141 (0, 0)) := (hwr N rfl (fun j h => ⟨by rw [h.1]; decide, .inl h.1⟩)).trans hN
      exact wpOp_of _ rfl rfl (op_call3 enters_kreck rfl h0 h2 rfl (reck_call 1 (by decide) (by decide) (fun i => [n, n].getD i 0) (fun i => [1, 1].getD i 0) (fun i => [X0, X1].getD i []) (fun i => [b0].getD i false) N m0 w0 w _ _ (S 5) hb hn0 (hT) (fun b hSb => ⟨(hbd 5 (by decide) b hSb).1, fun e => (hbd 5 (by decide) b hSb).2 ⟨rfl, e⟩⟩) hpos (sX.mod oX hb) (fun b hb' => (oX b hb').2)) (by rintro e b ⟨x, S', rfl, hR, hS', hM⟩; exact ⟨_, rfl, _, S', rfl, hR, fun q hq => (hS' q hq).elim (fun h => .inr (.inl h)) (fun h => .inr (.inr ⟨rfl, h⟩)), fun h => by obtain ⟨s9, h9⟩ := h; exact absurd h9.2 (by decide), hM.mono fun q _ hq => .inl ⟨rfl, hq⟩⟩))
    · exact wpOp_of _ rfl rfl (op_alloc24 rfl ⟨_, fun b => b = w.heap.size, rfl, ⟨_, rfl, rfl, hb.size, _, _, _, heap_new _ _⟩, fun b h => .inr (.inl (by subst h; simp)), fun _ b h => .inl (by omega), Mod.of (box_below w _)⟩)
    · obtain ⟨D, hD, hSD, hBD, x, y, z, hbl⟩ : TPtr w0.heap.size (vs 10) (S 7) w := hp 7 (by decide)
      obtain ⟨⟨ao, cap, hf, hs, hso⟩, _⟩ : TRes w0.heap.size N n 1 X1 (m0 || anyB (fun i => [b0].getD i false) 1) (vs 39) (S 6) w := hp 6 (by decide)
      have hne : ∀ q, (Value.slice ao X1.length cap).ownBlock = some q → q ≠ D := fun q hq e => hkl 7 ⟨rfl, rfl⟩ 6 (by decide) (by decide) D hSD (e ▸ (hso q hq).1)
      refine wpOp_of _ rfl rfl (op_store24 rfl rfl hD hf hbl ?_)
      refine ⟨undef, fun q => q = D ∨ S 6 q, rfl, ⟨D, ao, cap, hD, .inl rfl, hBD, put_mat hbl, ((hs.set' (a := ⟨D, 0, none⟩) hne _).set' (a := ⟨D, 1, none⟩) hne _).set' (a := ⟨D, 2, none⟩) hne _, fun q hq => ⟨.inr (hso q hq).1, (hso q hq).2⟩⟩, fun q hq => hq.elim (fun h => .inl ⟨7, by decide, h ▸ hSD⟩) (fun h => .inl ⟨6, by decide, h⟩), fun h => by obtain ⟨s9, h9⟩ := h; exact absurd h9.2 (by decide), ?_⟩
      refine ⟨rfl, rfl, rfl, by simp [World.setCell], fun q hq hq' => ?_⟩
      have hqD : q ≠ D := fun e => hq' (.inr ⟨7, ⟨rfl, rfl⟩, e ▸ hSD⟩)
      rw [Below.heap_setCell _ _ _ _ hqD, Below.heap_setCell _ _ _ _ hqD, Below.heap_setCell _ _ _ _ hqD]
  · intro vs w S hb hT
    obtain ⟨D, ao, cap, h1, _, h3, h4, h5, h6⟩ : TSto w0.heap.size n 1 X1 (vs 10) (S 8) w := hT 8 (by decide) (fun s h => by omega)
    obtain ⟨_, _, h7⟩ : TRes w0.heap.size N n 1 X1 (m0 || anyB (fun i => [b0].getD i false) 1) (vs 39) (S 6) w := hT 6 (by decide) (fun s h => by omega)
    exact hQ vs D ao cap w hb h1 h3 h4 h5 (fun q hq => (h6 q hq).2) h7
end Go.Proofs.YtoefekkdjcflmaaGreatDoor

