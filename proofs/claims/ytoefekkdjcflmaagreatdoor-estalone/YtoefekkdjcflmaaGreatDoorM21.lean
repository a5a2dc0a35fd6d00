/- Parts of the proof. -/
import Derived.Test.YtoefekkdjcflmaaGreatDoorM20
namespace Go.Proofs.YtoefekkdjcflmaaGreatDoor
open Go.RowKit Go.Sort Qm
def kdgOps : Array Oper := #[
 ⟨some 13, .move (.tmp 3), 27, "kalman.go:198", #[], none⟩,
 ⟨some 14, .fieldAddr 29 (.tmp 1) 2, 0, "kalman.go:198", #[], none⟩,
 ⟨some 15, .load 27 (.tmp 14), 27, "kalman.go:198", #[eD 1], none⟩,
 ⟨some 16, .load 29 (.tmp 1), 29, "kalman.go:198", #[], none⟩,
 ⟨some 17, .move (.tmp 4), 3, "kalman.go:198", #[], none⟩,
 ⟨some 18, .call ⟨.value (.func 167), #[.tmp 16, .tmp 17], #[29, 3]⟩, 3, "kalman.go:198", #[eD 3, eD 4], none⟩,
 ⟨some 19, .indexAddr 27 (.tmp 15) (.tmp 18), 0, "kalman.go:198", #[eD 2, eD 5], none⟩,
 ⟨some 20, .load 22 (.tmp 19), 22, "kalman.go:198", #[eD 6], none⟩,
 ⟨some 21, .buildSlice 27 1 #[(0, .tmp 20)], 27, "kalman.go:198", #[eD 7], none⟩,
 ⟨some 22, .call ⟨.builtin .append, #[.tmp 13, .tmp 21], #[27, 27]⟩, 27, "kalman.go:198", #[eD 0, eD 8, eC 5], none⟩,
 ⟨some 3, .assign (.tmp 22), 27, "kalman.go:198", #[eD 9, eC 9, eP 0, eP 1, eP 2, eP 3, eP 4, eP 5, eP 6, eP 7, eP 8, eP 9], none⟩]
def kdgDst (i : Nat) : Nat := [13, 14, 15, 16, 17, 18, 19, 20, 21, 22, 3].getD i 0
def kdgFr (P : Nat) (i : Int) (u0 u2 u5 u6 u7 u8 u9 u10 u11 u12 u23 u24 : Value) (vs : Nat → Value) : Act := ⟨#[u0, .pointer (some ⟨P, 0, none⟩), u2, vs 3, .int .i64 i, u5, u6, u7, u8, u9, u10, u11, u12, vs 13, vs 14, vs 15, vs 16, vs 17, vs 18, vs 19, vs 20, vs 21, vs 22, u23, u24], []⟩
def kdgT (P : Nat) (i r c : Int) (l : Value) (ad : Addr) (m cap q B0 a : Nat) (x : Int) (vals : List Value) : Nat → Value → Value → (Nat → Prop) → World → Prop
  | 0, v, _, _, _ => v = l
  | 1, v, _, _, _ => v = .pointer (some ⟨P, 2, none⟩)
  | 2, v, _, _, _ => v = .slice (some ad) m cap
  | 3, v, _, _, _ => v = .agg #[.int .i64 r, .int .i64 c, .slice (some ad) m cap]
  | 4, v, _, _, _ => v = .int .i64 i
  | 5, v, _, _, _ => v = .int .i64 (q : Nat)
  | 6, v, _, _, _ => v = .pointer (some (ad.add q))
  | 7, v, _, _, _ => v = .int .i64 x
  | 8, v, _, S, w => ∃ X, v = .slice (some ⟨X, 0, none⟩) 1 1 ∧ S X ∧ w.heap[X]? = some (.cells #[.int .i64 x] 22 (0, 0))
  | 9, v, _, S, w => w.ownsRow B0 22 1 v (a + 1) (vals ++ [.int .i64 x]) ∧ ∀ k, v.ownBlock = some k → S k
  | 10, v, _, S, w => w.ownsRow B0 22 1 v (a + 1) (vals ++ [.int .i64 x]) ∧ ∀ k, v.ownBlock = some k → S k
  | _, _, _, _, _ => True
theorem enters_onD : ∀ (args : Array Value) (a : World), Sem.run Tryz.prog (callFunc 167 args) a = Result.ok (Next.enter 167 args) a := by
  intro args a
  simp [callFunc, Tryz.func167, go_sem]
  rfl
set_option maxRecDepth 40000 in
set_option maxHeartbeats 800000 in
theorem kdg_region {Q : Exit → Act → World → Prop} {w0 : World} {P : Nat} {i r c : Int} {l : Value} {ad : Addr} {m cap q B0 a : Nat} {x : Int} {vals : List Value} {u0 u2 u5 u6 u7 u8 u9 u10 u11 u12 u23 u24 u13 u14 u15 u16 u17 u18 u19 u20 u21 u22 : Value} {i0 : TypeInfo} (hi0 : Tryz.prog.info? 22 = some i0) (hz0 : i0.zero = some (.int .i64 0)) (hz1 : i0.size = 1) (hz2 : i0.bytes = 8)
    (hown : w0.ownsRow B0 22 1 l a vals) (ha : a ≤ 100) (hB0 : B0 ≤ w0.heap.size) (hqm : q < m)
    (hrd : ∀ w, Mod (fun k => l.ownBlock = some k) w0 w → w.cell? ⟨P, 0, none⟩ = some (.int .i64 r) ∧ w.cell? ⟨P, 1, none⟩ = some (.int .i64 c) ∧ w.cell? ⟨P, 2, none⟩ = some (.slice (some ad) m cap) ∧ w.cell? (ad.add q) = some (.int .i64 x))
    (kD : ∀ w, Calls Tryz.prog 167 #[.agg #[.int .i64 r, .int .i64 c, .slice (some ad) m cap], .int .i64 i] w fun e b => e = .returned (.int .i64 (q : Nat)) ∧ Below w.heap.size w b)
    (hQ : ∀ vs w, Mod (fun k => l.ownBlock = some k) w0 w → w.ownsRow B0 22 1 (vs 3) (a + 1) (vals ++ [.int .i64 x]) → Q .normal (kdgFr P i u0 u2 u5 u6 u7 u8 u9 u10 u11 u12 u23 u24 vs) w) :
    (Code.region 5 kdgOps true).wp Tryz.prog Q (kdgFr P i u0 u2 u5 u6 u7 u8 u9 u10 u11 u12 u23 u24 (fun k => if k = 3 then l else if k = 13 then u13 else if k = 14 then u14 else if k = 15 then u15 else if k = 16 then u16 else if k = 17 then u17 else if k = 18 then u18 else if k = 19 then u19 else if k = 20 then u20 else if k = 21 then u21 else if k = 22 then u22 else undef)) w0 := by
  refine wp_region_own (by kernel_rfl) (by decide) kdgDst (by decide) (kdgFr P i u0 u2 u5 u6 u7 u8 u9 u10 u11 u12 u23 u24) (fun k => if k = 3 then l else if k = 13 then u13 else if k = 14 then u14 else if k = 15 then u15 else if k = 16 then u16 else if k = 17 then u17 else if k = 18 then u18 else if k = 19 then u19 else if k = 20 then u20 else if k = 21 then u21 else if k = 22 then u22 else undef) (fun i => i) (by decide) (fun k => l.ownBlock = some k) (fun k hk => (hown.lt k hk).2) (fun j k => j = 9 ∧ l.ownBlock = some k) (fun j k h => h.2) (fun j j' k h h' => h.1.trans h'.1.symm)
    (fun _ _ => False) (fun s j h => h.elim) (fun s j h => h.elim) (kdgT P i r c l ad m cap q B0 a x vals) ?_ ?_ ?_
  · intro i9 v u S w w' hi h hw hw' hz hS
    have hi' : i9 < 11 := hi
    rcases (by omega : i9 = 0 ∨ i9 = 1 ∨ i9 = 2 ∨ i9 = 3 ∨ i9 = 4 ∨ i9 = 5 ∨ i9 = 6 ∨ i9 = 7 ∨ i9 = 8 ∨ i9 = 9 ∨ i9 = 10) with rfl | rfl | rfl | rfl | rfl | rfl | rfl | rfl | rfl | rfl | rfl
    · exact h
    · exact h
    · exact h
    · exact h
    · exact h
    · exact h
    · exact h
    · exact h
    · obtain ⟨X, h1, h2, h3⟩ := h; exact ⟨X, h1, h2, (hS X h2).trans h3⟩
    · exact ⟨own_agree h.1 (fun k hk => hS k (h.2 k hk)), h.2⟩
    · exact ⟨own_agree h.1 (fun k hk => hS k (h.2 k hk)), h.2⟩
  · intro i9 hi vs w S hb hp hbd hwr _ hv0
    have hi' : i9 < 11 := hi
    rcases (by omega : i9 = 0 ∨ i9 = 1 ∨ i9 = 2 ∨ i9 = 3 ∨ i9 = 4 ∨ i9 = 5 ∨ i9 = 6 ∨ i9 = 7 ∨ i9 = 8 ∨ i9 = 9 ∨ i9 = 10) with rfl | rfl | rfl | rfl | rfl | rfl | rfl | rfl | rfl | rfl | rfl
    · have h3 : vs 3 = l := hv0 3 (by decide)
      exact wpOp_of _ rfl rfl (op_move rfl h3 ⟨_, fun _ => False, rfl, rfl, fun _ h => h.elim, fun h => h.elim fun _ h9 => h9.elim, Mod.refl _ _⟩)
    · exact wpOp_of _ rfl rfl (op_fieldL rfl rfl ⟨_, fun _ => False, rfl, rfl, fun _ h => h.elim, fun h => h.elim fun _ h9 => h9.elim, Mod.refl _ _⟩)
    · have h : vs 14 = .pointer (some ⟨P, 2, none⟩) := hp 1 (by decide)
      exact wpOp_of _ rfl rfl (op_loadL rfl h (hrd w hb).2.2.1 ⟨_, fun _ => False, rfl, rfl, fun _ h => h.elim, fun h => h.elim fun _ h9 => h9.elim, Mod.refl _ _⟩)
    · exact wpOp_of _ rfl rfl (op_loadM rfl rfl (hrd w hb).1 (hrd w hb).2.1 (hrd w hb).2.2.1 ⟨_, fun _ => False, rfl, rfl, fun _ h => h.elim, fun h => h.elim fun _ h9 => h9.elim, Mod.refl _ _⟩)
    · exact wpOp_of _ rfl rfl (op_move rfl rfl ⟨_, fun _ => False, rfl, rfl, fun _ h => h.elim, fun h => h.elim fun _ h9 => h9.elim, Mod.refl _ _⟩)
    · have h1 : vs 16 = .agg #[.int .i64 r, .int .i64 c, .slice (some ad) m cap] := hp 3 (by decide)
      have h2 : vs 17 = .int .i64 i := hp 4 (by decide)
      exact wpOp_of _ rfl rfl (op_call2 enters_onD rfl h1 h2 (kD w) (by rintro e b ⟨rfl, b'⟩; exact ⟨_, rfl, _, fun _ => False, rfl, rfl, fun _ h => h.elim, fun h => h.elim fun _ h9 => h9.elim, Mod.of b'⟩))
    · have h1 : vs 15 = .slice (some ad) m cap := hp 2 (by decide)
      have h2 : vs 18 = .int .i64 (q : Nat) := hp 5 (by decide)
      exact wpOp_of _ rfl rfl (op_indexQ rfl h1 h2 hqm ⟨_, fun _ => False, rfl, rfl, fun _ h => h.elim, fun h => h.elim fun _ h9 => h9.elim, Mod.refl _ _⟩)
    · have h1 : vs 19 = .pointer (some (ad.add q)) := hp 6 (by decide)
      exact wpOp_of _ rfl rfl (op_loadQ rfl h1 (hrd w hb).2.2.2 ⟨_, fun _ => False, rfl, rfl, fun _ h => h.elim, fun h => h.elim fun _ h9 => h9.elim, Mod.refl _ _⟩)
    · have h1 : vs 20 = .int .i64 x := hp 7 (by decide)
      exact wpOp_of _ rfl rfl (op_buildQ rfl h1 ⟨_, fun k => k = w.heap.size, rfl, ⟨_, rfl, rfl, heap_new _ _⟩, fun k hk => .inr (.inl (by subst hk; simp)), fun h => h.elim fun _ h9 => h9.elim, Mod.of (box_below w _)⟩)
    · have h1 : vs 13 = l := hp 0 (by decide)
      obtain ⟨X, h2, h3, h4⟩ : ∃ X, vs 21 = .slice (some ⟨X, 0, none⟩) 1 1 ∧ S 8 X ∧ w.heap[X]? = some (.cells #[.int .i64 x] 22 (0, 0)) := hp 8 (by decide)
      have hol := own_agree hown (w' := w) (fun k hk => hwr k hk (fun j h => ⟨by rw [h.1]; decide, .inl h.1⟩))
      refine wpOp_of _ rfl rfl (op_appendQ hi0 hz0 hz1 hz2 rfl h1 h2 hol h4 ha (Nat.le_trans hB0 hb.size) ?_)
      intro v' w' ho hg hbk
      refine ⟨v', fun k => v'.ownBlock = some k, rfl, ⟨ho, fun k hk => hk⟩, fun k hk => ?_, fun h => h.elim fun _ h9 => h9.elim, ⟨hg.os, hg.tape, hg.output, hg.size, fun k hk hk' => hg.block k hk (fun e => hk' (.inl ⟨rfl, e.symm⟩))⟩⟩
      rcases hbk with h | h
      · exact .inr (.inr ⟨rfl, by rw [← h]; exact hk⟩)
      · rw [h] at hk; injection hk with hk; subst hk; exact .inr (.inl ⟨Nat.le_refl _, (ho.lt _ h).2⟩)
    · have h1 : w.ownsRow B0 22 1 (vs 22) (a + 1) (vals ++ [.int .i64 x]) ∧ ∀ k, (vs 22).ownBlock = some k → S 9 k := hp 9 (by decide)
      exact wpOp_of _ rfl rfl (op_assign rfl rfl ⟨_, S 9, rfl, h1, fun k hk => .inl ⟨9, by decide, hk⟩, fun h => h.elim fun _ h9 => h9.elim, Mod.refl _ _⟩)
  · intro vs w S hb hT
    have h : w.ownsRow B0 22 1 (vs 3) (a + 1) (vals ++ [.int .i64 x]) ∧ ∀ k, (vs 3).ownBlock = some k → S 10 k := hT 10 (by decide) (fun _ h => h)
    exact hQ vs w hb h.1
theorem kbelow_any (x : Int) (w : World) : Calls Tryz.prog 143 #[.int .i64 x] w fun e w' => e = .returned (.bool (decide (x < 0))) ∧ w' = w := by
  go_enter Tryz.func143, Tryz.ntmps143
  go_wp2
  go_ret
  exact ⟨rfl, rfl⟩
namespace Qm
def lowB (xs : List Int) (n : Nat) : Bool := anyB (fun k => decide (ge xs k < 0)) n
end Qm
set_option maxHeartbeats 400000 in
theorem lowIndex_any (v : Value) (xs : List Int) (w : World) (hn : xs.length ≤ 100) (hs : Sees w v xs) :
    Calls Tryz.prog 87 #[v, .func (.func 143) #[] #[]] w fun e w' => ∃ r, e = .returned (.int .i64 r) ∧ decide (0 ≤ r) = lowB xs xs.length ∧ w' = w := by
  obtain ⟨ao, cap, rfl, hcell⟩ := hs
  obtain ⟨n, hn'⟩ : ∃ n, xs.length = n := ⟨_, rfl⟩
  rw [hn'] at hn hcell ⊢
  have HN : Hid (xs.length = n) := hn'
  clear hn'
  go_enter Tryz.func87, Tryz.ntmps87
  go_wp2
  go_loop [8] (fun i => ∃ k : Nat, k ≤ n ∧ i = .int .i64 k ∧ Hid (lowB xs k = false)) (fun i => n - (intOf i).toNat)
  case atStart => exact ⟨0, Nat.zero_le _, rfl, rfl⟩
  case round =>
    obtain ⟨k, hk, rfl, hno⟩ := hrel
    by_cases hlt : k < n
    · obtain ⟨ad, rfl, _, hc⟩ := hcell k hlt
      cases ho : decide (ge xs k < 0) with
      | true =>
        go_wp2_with (go_at_call 143; refine (kbelow_any _ _).mono ?_; rintro e w' ⟨rfl, rfl⟩)
        go_ret
        exact ⟨_, rfl, by rw [show lowB xs n = true from anyB_hit hlt ho]; simp, rfl⟩
      | false =>
        go_wp2_with (go_at_call 143; refine (kbelow_any _ _).mono ?_; rintro e w' ⟨rfl, rfl⟩)
        go_round
        case rel => exact ⟨k + 1, by omega, by go_num, by show lowB xs (k + 1) = false; unfold lowB; rw [anyB, ho]; have := hno.out; unfold lowB at this; rw [this]; rfl⟩
        case measure => simp [intOf]; omega
    · have e : k = n := by omega
      subst e
      go_wp2
      go_ret
      exact ⟨-1, rfl, by rw [hno.out]; rfl, rfl⟩
theorem lowContains_any (v : Value) (xs : List Int) (w : World) (hn : xs.length ≤ 100) (hs : Sees w v xs) :
    Calls Tryz.prog 41 #[v, .func (.func 143) #[] #[]] w fun e w' => e = .returned (.bool (lowB xs xs.length)) ∧ w' = w := by
  obtain ⟨A, hA⟩ : ∃ A, lowB xs xs.length = A := ⟨_, rfl⟩
  have hi := lowIndex_any v xs w hn hs
  rw [hA] at hi ⊢
  go_enter Tryz.func41, Tryz.ntmps41
  go_wp2_with (go_at_call 87; refine hi.mono ?_; rintro e w' ⟨r, rfl, hr, rfl⟩)
  go_ret
  exact ⟨rfl, rfl⟩
end Go.Proofs.YtoefekkdjcflmaaGreatDoor
namespace Go.Proofs.YtoefekkdjcflmaaGreatDoor
open Go.RowKit Go.Sort Qm
def ki6Ops : Array Oper := #[
 ⟨some 23, .makeFunc (.func 112) #[.tmp 12] #[], 143, "kalman.go:62", #[], none⟩,
 ⟨some 24, .fieldAddr 31 (.tmp 4) 0, 0, "kalman.go:62", #[], none⟩,
 ⟨some 25, .load 29 (.tmp 24), 29, "kalman.go:62", #[eD 1], none⟩,
 ⟨some 26, .load 29 (.tmp 5), 29, "kalman.go:62", #[], none⟩,
 ⟨some 27, .call ⟨.value (.func 113), #[.tmp 26], #[29]⟩, 145, "kalman.go:62", #[eD 3], none⟩,
 ⟨some 28, .makeFunc (.func 186) #[] #[.tmp 6], 117, "kalman.go:62", #[], none⟩,
 ⟨some 29, .call ⟨.value (.func 185), #[.tmp 28], #[117]⟩, 145, "kalman.go:63", #[eD 5, eC 4], none⟩,
 ⟨some 30, .buildSlice 183 2 #[(0, .tmp 27), (1, .tmp 29)], 183, "kalman.go:62", #[eD 4, eD 6], none⟩,
 ⟨some 31, .call ⟨.value (.func 111), #[.tmp 23, .tmp 25, .tmp 30], #[143, 29, 183]⟩, 29, "kalman.go:62", #[eD 0, eD 2, eD 7, eC 6], none⟩,
 ⟨some 13, .alloc 29, 0, "kalman.go:62", #[], none⟩,
 ⟨none, .store 29 (.tmp 13) (.tmp 31), 0, "kalman.go:62", #[eD 9, eD 8, eC 8, eP 0, eP 1, eP 2, eP 3, eP 4, eP 5, eP 6, eP 7, eP 8, eP 9], none⟩]
def ki6Dst (i : Nat) : Nat := [23, 24, 25, 26, 27, 28, 29, 30, 31, 13, 1000].getD i 0
def ki6Fr (N : Nat) (D4 : Nat) (D5 : Nat) (D6 : Nat) (u0 u1 u2 u3 u7 u8 u9 u10 u11 u14 u15 u16 u17 u18 u19 u20 u21 u22 u32 u33 u34 u35 u36 u37 u38 u39 u40 u41 u42 u43 u44 u45 u46 u47 u48 u49 u50 u51 u52 u53 u54 u55 u56 u57 u58 : Value) (vs : Nat → Value) : Act := ⟨#[u0, u1, u2, u3, .pointer (some ⟨D4, 0, none⟩), .pointer (some ⟨D5, 0, none⟩), .pointer (some ⟨D6, 0, none⟩), u7, u8, u9, u10, u11, .pointer (some ⟨N, 0, none⟩), vs 13, u14, u15, u16, u17, u18, u19, u20, u21, u22, vs 23, vs 24, vs 25, vs 26, vs 27, vs 28, vs 29, vs 30, vs 31, u32, u33, u34, u35, u36, u37, u38, u39, u40, u41, u42, u43, u44, u45, u46, u47, u48, u49, u50, u51, u52, u53, u54, u55, u56, u57, u58], []⟩
def ki6T (B : Nat) (m0 : Bool) (N : Nat) (D4 : Nat) (D6 : Nat) (n : Nat) (xo : Option Addr) (xcap : Nat) (ho : Option Addr) (hcap : Nat) (hs : List Int) (X0 X1 X2 : List Int) (b0 b1 : Bool) : Nat → Value → Value → (Nat → Prop) → World → Prop
  | 0, v, _, _, _ => v = .func (.func 112) #[.pointer (some ⟨N, 0, none⟩)] #[]
  | 1, v, _, _, _ => v = .pointer (some ⟨D4, 0, none⟩)
  | 2, v, _, _, _ => v = .agg #[.int .i64 n, .int .i64 1, .slice xo X0.length xcap]
  | 3, v, _, _, _ => v = .agg #[.int .i64 1, .int .i64 n, .slice ho hs.length hcap]
  | 4, v, _, S, w => StepV B N n 1 X0 1 1 X1 b0 v S w
  | 5, v, _, _, _ => v = .func (.func 186) #[] #[.pointer (some ⟨D6, 0, none⟩)]
  | 6, v, _, S, w => StepV B N 1 1 X1 1 1 X2 b1 v S w
  | 7, v, _, S, w => TSl B [StepV B N n 1 X0 1 1 X1 b0, StepV B N 1 1 X1 1 1 X2 b1] v S w
  | 8, v, _, S, w => TRes B N 1 1 X2 (m0 || anyB (fun i => [b0, b1].getD i false) 2) v S w
  | 9, v, _, S, w => TPtr B v S w
  | 10, _, u, S, w => TSto B 1 1 X2 u S w
  | _, _, _, _, _ => True
set_option maxRecDepth 40000 in
set_option maxHeartbeats 400000 in
theorem ki6_region {Q : Exit → Act → World → Prop} {w0 : World} {m0 : Bool} {N : Nat} {D4 : Nat} {D5 : Nat} {D6 : Nat} {n : Nat} {xo : Option Addr} {xcap : Nat} {ho : Option Addr} {hcap : Nat} {hs : List Int} {u0 u1 u2 u3 u7 u8 u9 u10 u11 u14 u15 u16 u17 u18 u19 u20 u21 u22 u32 u33 u34 u35 u36 u37 u38 u39 u40 u41 u42 u43 u44 u45 u46 u47 u48 u49 u50 u51 u52 u53 u54 u55 u56 u57 u58 : Value} (X0 X1 X2 : List Int) (b0 b1 : Bool) (hN : w0.heap[N]? = some (.cells #[.bool m0, .int .i64 0] 141 (0, 0))) (hpos : ∀ i, i ≤ 2 → 0 < ([X0, X1, X2].getD i []).length)
    (cX : ∀ w, Mod (fun b => b = N) w0 w → w.cell? ⟨D4, 0, none⟩ = some (.int .i64 n) ∧ w.cell? ⟨D4, 1, none⟩ = some (.int .i64 1) ∧ w.cell? ⟨D4, 2, none⟩ = some (.slice xo X0.length xcap))
    (cH : ∀ w, Mod (fun b => b = N) w0 w → w.cell? ⟨D5, 0, none⟩ = some (.int .i64 1) ∧ w.cell? ⟨D5, 1, none⟩ = some (.int .i64 n) ∧ w.cell? ⟨D5, 2, none⟩ = some (.slice ho hs.length hcap))
    (sX : Sees w0 (.slice xo X0.length xcap) X0) (oX : Old w0.heap.size N (.slice xo X0.length xcap))
    (sH : Sees w0 (.slice ho hs.length hcap) hs) (oH : Old w0.heap.size N (.slice ho hs.length hcap))
    (st0 : ∀ w A va S, w.heap[A]? = some (.cells #[.int .i64 1, .int .i64 n, va] 29 (0, 0)) → S A → Sees w va hs → OkS w0.heap.size N S va → StepV w0.heap.size N n 1 X0 1 1 X1 b0 (.func (.func 156) #[] #[.pointer (some ⟨A, 0, none⟩)]) S w)
    (st1 : ∀ w A S, Mod (fun b => b = N) w0 w → w.heap[A]? = some (.cells #[.func (.func 186) #[] #[.pointer (some ⟨D6, 0, none⟩)]] 117 (0, 0)) → S A → StepV w0.heap.size N 1 1 X1 1 1 X2 b1 (.func (.func 195) #[] #[.pointer (some ⟨A, 0, none⟩)]) S w)
    (hQ : ∀ vs D ao cap w, Mod (fun b => b = N) w0 w → vs 13 = .pointer (some ⟨D, 0, none⟩) → w0.heap.size ≤ D → w.heap[D]? = some (.cells #[.int .i64 1, .int .i64 1, .slice ao X2.length cap] 29 (0, 0)) → Sees w (.slice ao X2.length cap) X2 → (∀ q, (Value.slice ao X2.length cap).ownBlock = some q → w0.heap.size ≤ q) → w.heap[N]? = some (.cells #[.bool (m0 || anyB (fun i => [b0, b1].getD i false) 2), .int .i64 0] 141 (0, 0)) → Q .normal (ki6Fr N D4 D5 D6 u0 u1 u2 u3 u7 u8 u9 u10 u11 u14 u15 u16 u17 u18 u19 u20 u21 u22 u32 u33 u34 u35 u36 u37 u38 u39 u40 u41 u42 u43 u44 u45 u46 u47 u48 u49 u50 u51 u52 u53 u54 u55 u56 u57 u58 vs) w) :
    (Code.region 6 ki6Ops true).wp Tryz.prog Q (ki6Fr N D4 D5 D6 u0 u1 u2 u3 u7 u8 u9 u10 u11 u14 u15 u16 u17 u18 u19 u20 u21 u22 u32 u33 u34 u35 u36 u37 u38 u39 u40 u41 u42 u43 u44 u45 u46 u47 u48 u49 u50 u51 u52 u53 u54 u55 u56 u57 u58 (fun _ => undef)) w0 := by
  refine wp_region_own (by kernel_rfl) (by decide) ki6Dst (by decide) (ki6Fr N D4 D5 D6 u0 u1 u2 u3 u7 u8 u9 u10 u11 u14 u15 u16 u17 u18 u19 u20 u21 u22 u32 u33 u34 u35 u36 u37 u38 u39 u40 u41 u42 u43 u44 u45 u46 u47 u48 u49 u50 u51 u52 u53 u54 u55 u56 u57 u58) (fun _ => undef) (fun i => if i = 10 then 9 else i) (by decide) (fun b => b = N) (fun q hq => by subst hq; exact lt_of_block hN) (fun i q => i = 8 ∧ q = N) (fun i q h => h.2) (fun i j q h h' => h.1.trans h'.1.symm)
    (fun s j => s = 10 ∧ j = 9) (fun s j h => by obtain ⟨rfl, rfl⟩ := h; exact ⟨by decide, by decide⟩) (fun s j h => by obtain ⟨rfl, rfl⟩ := h; decide) (ki6T w0.heap.size m0 N D4 D6 n xo xcap ho hcap hs X0 X1 X2 b0 b1) ?_ ?_ ?_
  · intro i v u S w w' hi h hw hw' hz hS
    have ha : Agr w0.heap.size N S w w' := agr_of hw hw' hz hS
    have hi' : i < 11 := hi
    rcases (by omega : i = 0 ∨ i = 1 ∨ i = 2 ∨ i = 3 ∨ i = 4 ∨ i = 5 ∨ i = 6 ∨ i = 7 ∨ i = 8 ∨ i = 9 ∨ i = 10) with rfl | rfl | rfl | rfl | rfl | rfl | rfl | rfl | rfl | rfl | rfl
    · exact h
    · exact h
    · exact h
    · exact h
    · exact StepV.stab h ha
    · exact h
    · exact StepV.stab h ha
    · exact TSl.stab h (fun t ht u htu => (by simp only [List.mem_cons, List.not_mem_nil, or_false] at ht; rcases ht with rfl | rfl <;> exact StepV.stab htu ha)) ha
    · exact TRes.stab h ha
    · exact TPtr.stab h ha
    · exact TSto.stab h ha
  · intro i hi vs w S hb hp hbd hwr hkl _
    have hi' : i < 11 := hi
    rcases (by omega : i = 0 ∨ i = 1 ∨ i = 2 ∨ i = 3 ∨ i = 4 ∨ i = 5 ∨ i = 6 ∨ i = 7 ∨ i = 8 ∨ i = 9 ∨ i = 10) with rfl | rfl | rfl | rfl | rfl | rfl | rfl | rfl | rfl | rfl | rfl
    · exact wpOp_of _ rfl rfl (op_makeFunc1 rfl rfl ⟨_, fun _ => False, rfl, rfl, fun _ h => h.elim, fun _ _ h => h.elim, Mod.refl _ _⟩)
    · exact wpOp_of _ rfl rfl (op_fieldT (i := 0) (by decide) rfl rfl ⟨_, fun _ => False, rfl, rfl, fun _ h => h.elim, fun _ _ h => h.elim, Mod.refl _ _⟩)
    · have h1 : vs 24 = .pointer (some ⟨D4, 0, none⟩) := hp 1 (by decide)
      exact wpOp_of _ rfl rfl (op_loadM rfl h1 (cX w hb).1 (cX w hb).2.1 (cX w hb).2.2 ⟨_, fun _ => False, rfl, rfl, fun _ h => h.elim, fun _ _ h => h.elim, Mod.refl _ _⟩)
    · exact wpOp_of _ rfl rfl (op_loadM rfl rfl (cH w hb).1 (cH w hb).2.1 (cH w hb).2.2 ⟨_, fun _ => False, rfl, rfl, fun _ h => h.elim, fun _ _ h => h.elim, Mod.refl _ _⟩)
    · have h3 : vs 26 = .agg #[.int .i64 1, .int .i64 n, .slice ho hs.length hcap] := hp 3 (by decide)
      exact wpOp_of _ rfl rfl (op_call1 enters_mleft rfl h3 (left_any _ _ _ _ _ w) (by rintro e b ⟨rfl, rfl⟩; exact ⟨_, rfl, _, fun q => q = w.heap.size, rfl, st0 _ _ _ _ (heap_new _ _) rfl ((sH.mod oH hb).alloc _) (oH.ok _), fun q hq => .inr (.inl (by subst hq; simp)), fun h => by obtain ⟨s9, h9⟩ := h; exact absurd h9.2 (by decide), Mod.of (box_below w _)⟩))
    · exact wpOp_of _ rfl rfl (op_makeFunc2 rfl rfl ⟨_, fun _ => False, rfl, rfl, fun _ h => h.elim, fun _ _ h => h.elim, Mod.refl _ _⟩)
    · have h5 : vs 28 = .func (.func 186) #[] #[.pointer (some ⟨D6, 0, none⟩)] := hp 5 (by decide)
      exact wpOp_of _ rfl rfl (op_call1 enters_meach rfl h5 (each_any _ _ w) (by rintro e b ⟨rfl, rfl⟩; exact ⟨_, rfl, _, fun q => q = w.heap.size, rfl, st1 _ _ _ (hb.trans (Mod.of (box_below w _))) (heap_new _ _) rfl, fun q hq => .inr (.inl (by subst hq; simp)), fun h => by obtain ⟨s9, h9⟩ := h; exact absurd h9.2 (by decide), Mod.of (box_below w _)⟩))
    · have t0 : StepV w0.heap.size N n 1 X0 1 1 X1 b0 (vs 27) (S 4) w := hp 4 (by decide)
      obtain ⟨F0, c0, e0, _⟩ := id t0
      have t1 : StepV w0.heap.size N 1 1 X1 1 1 X2 b1 (vs 29) (S 6) w := hp 6 (by decide)
      obtain ⟨F1, c1, e1, _⟩ := id t1
      have hX : ∀ j, j < 2 → ∀ q, ([S 4, S 6].getD j (fun _ => False)) q → q < w.heap.size := by
        intro j hj q hq
        rcases (by omega : j = 0 ∨ j = 1) with rfl | rfl
        · exact (hbd 4 (by decide) q hq).1
        · exact (hbd 6 (by decide) q hq).1
      have t0' : StepV w0.heap.size N n 1 X0 1 1 X1 b0 (.func (.func F0) #[] c0) (fun q => q = w.heap.size ∨ S 4 q ∨ S 6 q) (w.alloc (.cells #[.func (.func F0) #[] c0, .func (.func F1) #[] c1] 145)) := by
        have z := (t0.stab (w' := w.alloc (.cells #[.func (.func F0) #[] c0, .func (.func F1) #[] c1] 145)) ⟨(box_below w _).size, fun q hq => (box_below w _).block q (hq.elim (fun h => hX 0 (by decide) q h) (fun h => Nat.lt_of_lt_of_le h.1 hb.size))⟩).mono (S' := fun q => q = w.heap.size ∨ S 4 q ∨ S 6 q) (fun q h => .inr (.inl h))
        rw [e0] at z
        exact z
      have t1' : StepV w0.heap.size N 1 1 X1 1 1 X2 b1 (.func (.func F1) #[] c1) (fun q => q = w.heap.size ∨ S 4 q ∨ S 6 q) (w.alloc (.cells #[.func (.func F0) #[] c0, .func (.func F1) #[] c1] 145)) := by
        have z := (t1.stab (w' := w.alloc (.cells #[.func (.func F0) #[] c0, .func (.func F1) #[] c1] 145)) ⟨(box_below w _).size, fun q hq => (box_below w _).block q (hq.elim (fun h => hX 1 (by decide) q h) (fun h => Nat.lt_of_lt_of_le h.1 hb.size))⟩).mono (S' := fun q => q = w.heap.size ∨ S 4 q ∨ S 6 q) (fun q h => .inr (.inr (h)))
        rw [e1] at z
        exact z
      have hTS : ∀ (i : Nat) (t : Value → (Nat → Prop) → World → Prop) (u : Value), [StepV w0.heap.size N n 1 X0 1 1 X1 b0, StepV w0.heap.size N 1 1 X1 1 1 X2 b1][i]? = some t → [.func (.func F0) #[] c0, .func (.func F1) #[] c1][i]? = some u → t u (fun q => q = w.heap.size ∨ S 4 q ∨ S 6 q) (w.alloc (.cells #[.func (.func F0) #[] c0, .func (.func F1) #[] c1] 145)) := by
        intro i t u ht hu
        have hi : i < 2 := by have := (List.getElem?_eq_some_iff.1 ht).1; simpa using this
        rcases (by omega : i = 0 ∨ i = 1) with rfl | rfl
        · cases ht; cases hu; exact t0'
        · cases ht; cases hu; exact t1'
      exact wpOp_of _ rfl rfl (op_slice2 rfl e0 e1 ⟨_, fun q => q = w.heap.size ∨ S 4 q ∨ S 6 q, rfl, ⟨w.heap.size, [.func (.func F0) #[] c0, .func (.func F1) #[] c1], rfl, .inl rfl, hb.size, rfl, heap_new _ _, hTS⟩, fun q hq => hq.elim (fun h => .inr (.inl (by subst h; simp))) (fun h => h.elim (fun h => .inl ⟨4, by decide, h⟩) (fun h => .inl ⟨6, by decide, h⟩)), fun h => (by obtain ⟨s9, h9⟩ := h; exact absurd h9.2 (by decide)), Mod.of (box_below w _)⟩)
    · have h0 : vs 23 = .func (.func 112) #[.pointer (some ⟨N, 0, none⟩)] #[] := hp 0 (by decide)
      have h2 : vs 25 = .agg #[.int .i64 n, .int .i64 1, .slice xo X0.length xcap] := hp 2 (by decide)
      have hT : TSl w0.heap.size [StepV w0.heap.size N n 1 X0 1 1 X1 b0, StepV w0.heap.size N 1 1 X1 1 1 X2 b1] (vs 30) (S 7) w := hp 7 (by decide)
      have hn0 : w.heap[N]? = some (.cells #[.bool m0, .int .i64 0] 141 (0, 0)) := (hwr N rfl (fun j h => ⟨by rw [h.1]; decide, .inl h.1⟩)).trans hN
      exact wpOp_of _ rfl rfl (op_call3 enters_kreck rfl h0 h2 rfl (reck_call 2 (by decide) (by decide) (fun i => [n, 1, 1].getD i 0) (fun i => [1, 1, 1].getD i 0) (fun i => [X0, X1, X2].getD i []) (fun i => [b0, b1].getD i false) N m0 w0 w _ _ (S 7) hb hn0 (hT) (fun b hSb => ⟨(hbd 7 (by decide) b hSb).1, fun e => (hbd 7 (by decide) b hSb).2 ⟨rfl, e⟩⟩) hpos (sX.mod oX hb) (fun b hb' => (oX b hb').2)) (by rintro e b ⟨x, S', rfl, hR, hS', hM⟩; exact ⟨_, rfl, _, S', rfl, hR, fun q hq => (hS' q hq).elim (fun h => .inr (.inl h)) (fun h => .inr (.inr ⟨rfl, h⟩)), fun h => by obtain ⟨s9, h9⟩ := h; exact absurd h9.2 (by decide), hM.mono fun q _ hq => .inl ⟨rfl, hq⟩⟩))
    · exact wpOp_of _ rfl rfl (op_alloc24 rfl ⟨_, fun b => b = w.heap.size, rfl, ⟨_, rfl, rfl, hb.size, _, _, _, heap_new _ _⟩, fun b h => .inr (.inl (by subst h; simp)), fun _ b h => .inl (by omega), Mod.of (box_below w _)⟩)
    · obtain ⟨D, hD, hSD, hBD, x, y, z, hbl⟩ : TPtr w0.heap.size (vs 13) (S 9) w := hp 9 (by decide)
      obtain ⟨⟨ao, cap, hf, hs, hso⟩, _⟩ : TRes w0.heap.size N 1 1 X2 (m0 || anyB (fun i => [b0, b1].getD i false) 2) (vs 31) (S 8) w := hp 8 (by decide)
      have hne : ∀ q, (Value.slice ao X2.length cap).ownBlock = some q → q ≠ D := fun q hq e => hkl 9 ⟨rfl, rfl⟩ 8 (by decide) (by decide) D hSD (e ▸ (hso q hq).1)
      refine wpOp_of _ rfl rfl (op_store24 rfl rfl hD hf hbl ?_)
      refine ⟨undef, fun q => q = D ∨ S 8 q, rfl, ⟨D, ao, cap, hD, .inl rfl, hBD, put_mat hbl, ((hs.set' (a := ⟨D, 0, none⟩) hne _).set' (a := ⟨D, 1, none⟩) hne _).set' (a := ⟨D, 2, none⟩) hne _, fun q hq => ⟨.inr (hso q hq).1, (hso q hq).2⟩⟩, fun q hq => hq.elim (fun h => .inl ⟨9, by decide, h ▸ hSD⟩) (fun h => .inl ⟨8, by decide, h⟩), fun h => by obtain ⟨s9, h9⟩ := h; exact absurd h9.2 (by decide), ?_⟩
      refine ⟨rfl, rfl, rfl, by simp [World.setCell], fun q hq hq' => ?_⟩
      have hqD : q ≠ D := fun e => hq' (.inr ⟨9, ⟨rfl, rfl⟩, e ▸ hSD⟩)
      rw [Below.heap_setCell _ _ _ _ hqD, Below.heap_setCell _ _ _ _ hqD, Below.heap_setCell _ _ _ _ hqD]
  · intro vs w S hb hT
    obtain ⟨D, ao, cap, h1, _, h3, h4, h5, h6⟩ : TSto w0.heap.size 1 1 X2 (vs 13) (S 10) w := hT 10 (by decide) (fun s h => by omega)
    obtain ⟨_, _, h7⟩ : TRes w0.heap.size N 1 1 X2 (m0 || anyB (fun i => [b0, b1].getD i false) 2) (vs 31) (S 8) w := hT 8 (by decide) (fun s h => by omega)
    exact hQ vs D ao cap w hb h1 h3 h4 h5 (fun q hq => (h6 q hq).2) h7
end Go.Proofs.YtoefekkdjcflmaaGreatDoor

