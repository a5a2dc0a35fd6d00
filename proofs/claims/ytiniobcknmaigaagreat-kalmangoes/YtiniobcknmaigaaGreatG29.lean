/-
  Texts joined, in the order in which they stand on one another: KRP8 RDiv FactO.
-/
import Derived.Test.YtiniobcknmaigaaGreatG09
import Derived.Test.YtiniobcknmaigaaGreatG17
import Derived.Test.YtiniobcknmaigaaGreatG19
import Derived.Test.YtiniobcknmaigaaGreatG21
/-
  The code's Predict: the track is put together.
-/
namespace Go.Proofs.YtiniobcknmaigaaGreat
open Go.RowKit Go.Sort Qm

theorem enters_good : ∀ (args : Array Value) (a : World), Sem.run Tryz.prog (callFunc 23 args) a = Result.ok (Next.enter 23 args) a := by
  intro args a
  simp [callFunc, Tryz.func23, go_sem]
  rfl
def kp8Ops : Array Oper := #[
    { dst := some 58, op := Op.load 24 (Operand.tmp 10), type := 24, pos := "kalman.go:50", after := #[], guard := none },
    { dst := some 59, op := Op.load 24 (Operand.tmp 11), type := 24, pos := "kalman.go:50", after := #[], guard := none },
    { dst := some 60, op := Op.call { callee := Callee.value (Operand.func 23), args := #[Operand.tmp 59], argTypes := #[24] }, type := 24, pos := "kalman.go:50", after := #[{ on := 1, ground := Ground.data }], guard := none },
    { dst := some 61, op := Op.build 26 #[(0, Operand.tmp 58), (1, Operand.tmp 60)], type := 26, pos := "kalman.go:50", after := #[{ on := 0, ground := Ground.data }, { on := 2, ground := Ground.data }], guard := none },
    { dst := some 62, op := Op.fieldAddr 54 (Operand.tmp 9) 0, type := 0, pos := "kalman.go:50", after := #[{ on := 6, ground := Ground.gcOnly Departure.lateStores }], guard := none },
    { dst := some 63, op := Op.load 4 (Operand.tmp 62), type := 4, pos := "kalman.go:50", after := #[{ on := 4, ground := Ground.data }, { on := 6, ground := Ground.gcOnly Departure.lateStores }], guard := none },
    { dst := none, op := Op.store 26 (Operand.tmp 6) (Operand.tmp 61), type := 0, pos := "kalman.go:50", after := #[{ on := 3, ground := Ground.data }, { on := 2, ground := Ground.chain }, { on := 0, ground := Ground.phase }, { on := 1, ground := Ground.phase }, { on := 2, ground := Ground.phase }, { on := 3, ground := Ground.phase }, { on := 4, ground := Ground.textOnly Departure.lateStores }, { on := 5, ground := Ground.textOnly Departure.lateStores }], guard := none },
    { dst := some 7, op := Op.assign (Operand.tmp 63), type := 4, pos := "kalman.go:50", after := #[{ on := 5, ground := Ground.data }, { on := 6, ground := Ground.chain }, { on := 0, ground := Ground.phase }, { on := 1, ground := Ground.phase }, { on := 2, ground := Ground.phase }, { on := 3, ground := Ground.phase }, { on := 4, ground := Ground.phase }, { on := 5, ground := Ground.phase }, { on := 6, ground := Ground.phase }], guard := none },
    { dst := some 8, op := Op.assign (Operand.const (Value.int IntKind.i64 0)), type := 34, pos := "kalman.go:50", after := #[{ on := 7, ground := Ground.chain }, { on := 0, ground := Ground.phase }, { on := 1, ground := Ground.phase }, { on := 2, ground := Ground.phase }, { on := 3, ground := Ground.phase }, { on := 4, ground := Ground.phase }, { on := 5, ground := Ground.phase }, { on := 6, ground := Ground.phase }, { on := 7, ground := Ground.phase }], guard := none }]
def kp8Dst (i : Nat) : Nat := [58, 59, 60, 61, 62, 63, 1000, 7, 8].getD i 0
def kp8Fr (Nn : Nat) (D6 : Nat) (D10 : Nat) (D11 : Nat) (u0 u1 u2 u3 u4 u5 u12 u13 u14 u15 u16 u17 u18 u19 u20 u21 u22 u23 u24 u25 u26 u27 u28 u29 u30 u31 u32 u33 u34 u35 u36 u37 u38 u39 u40 u41 u42 u43 u44 u45 u46 u47 u48 u49 u50 u51 u52 u53 u54 u55 u56 u57 : Value) (vs : Nat → Value) : Act := ⟨#[u0, u1, u2, u3, u4, u5, .pointer (some ⟨D6, 0, none⟩), vs 7, vs 8, .pointer (some ⟨Nn, 0, none⟩), .pointer (some ⟨D10, 0, none⟩), .pointer (some ⟨D11, 0, none⟩), u12, u13, u14, u15, u16, u17, u18, u19, u20, u21, u22, u23, u24, u25, u26, u27, u28, u29, u30, u31, u32, u33, u34, u35, u36, u37, u38, u39, u40, u41, u42, u43, u44, u45, u46, u47, u48, u49, u50, u51, u52, u53, u54, u55, u56, u57, vs 58, vs 59, vs 60, vs 61, vs 62, vs 63], []⟩
def kp8T (B Lo : Nat) (Nn : Nat) (D6 : Nat) (n : Nat) (xo : Option Addr) (xcap : Nat) (po : Option Addr) (pcap : Nat) (xs : List Int) (qs : List Int) (zs : List Int) (m : Bool) : Nat → Value → Value → (Nat → Prop) → World → Prop
  | 0, v, _, _, _ => v = .agg #[.int .i64 n, .int .i64 1, .slice xo xs.length xcap]
  | 1, v, _, _, _ => v = .agg #[.int .i64 n, .int .i64 n, .slice po qs.length pcap]
  | 2, v, _, S, w => TMat B n n zs v S w
  | 3, v, _, S, w => TTrk B D6 Lo n 1 n n xs zs v S w
  | 4, v, _, _, _ => v = .pointer (some ⟨Nn, 0, none⟩)
  | 5, v, _, _, _ => v = .bool m
  | 6, _, _, S, w => TStT B D6 Lo n 1 n n xs zs S w
  | 7, v, _, _, _ => v = .bool m
  | 8, v, _, _, _ => v = .int .i64 0
  | _, _, _, _, _ => True
set_option maxRecDepth 40000 in
set_option maxHeartbeats 400000 in
theorem kp8_region {Q : Exit → Act → World → Prop} {w0 : World} {Nn : Nat} {D6 : Nat} {D10 : Nat} {D11 : Nat} {n : Nat} {xo : Option Addr} {xcap : Nat} {po : Option Addr} {pcap : Nat} {xs : List Int} {qs : List Int} {zs : List Int} {m : Bool} (Lo : Nat) {r7 r8 : Value} {u0 u1 u2 u3 u4 u5 u12 u13 u14 u15 u16 u17 u18 u19 u20 u21 u22 u23 u24 u25 u26 u27 u28 u29 u30 u31 u32 u33 u34 u35 u36 u37 u38 u39 u40 u41 u42 u43 u44 u45 u46 u47 u48 u49 u50 u51 u52 u53 u54 u55 u56 u57 : Value} {x0 x1 x2 x3 x4 x5 : Value} (hN : w0.heap[D6]? = some (.cells #[x0, x1, x2, x3, x4, x5] 26 (0, 0)))
    (hLo : Lo ≤ w0.heap.size) (nX : New Lo (.slice xo xs.length xcap))
    (cX : ∀ w, Mod (fun b => b = D6) w0 w → w.cell? ⟨D10, 0, none⟩ = some (.int .i64 n) ∧ w.cell? ⟨D10, 1, none⟩ = some (.int .i64 1) ∧ w.cell? ⟨D10, 2, none⟩ = some (.slice xo xs.length xcap))
    (cP : ∀ w, Mod (fun b => b = D6) w0 w → w.cell? ⟨D11, 0, none⟩ = some (.int .i64 n) ∧ w.cell? ⟨D11, 1, none⟩ = some (.int .i64 n) ∧ w.cell? ⟨D11, 2, none⟩ = some (.slice po qs.length pcap))
    (sX : Sees w0 (.slice xo xs.length xcap) xs) (oX : Old w0.heap.size D6 (.slice xo xs.length xcap))
    (cN : ∀ w, Mod (fun b => b = D6) w0 w → w.cell? ⟨Nn, 0, none⟩ = some (.bool m))
    (kG : ∀ w, Mod (fun b => b = D6) w0 w → Calls Tryz.prog 23 #[.agg #[.int .i64 n, .int .i64 n, .slice po qs.length pcap]] w fun e b => ∃ v, e = .returned (.agg #[.int .i64 n, .int .i64 n, v]) ∧ Sees b v zs ∧ New w.heap.size v ∧ Below w.heap.size w b) (z_zs : 0 < zs.length)
    (hQ : ∀ vs ao ac bo bc w, Mod (fun b => b = D6) w0 w → vs 7 = .bool m → vs 8 = .int .i64 0 → w.heap[D6]? = some (.cells #[.int .i64 n, .int .i64 1, .slice ao xs.length ac, .int .i64 n, .int .i64 n, .slice bo zs.length bc] 26 (0, 0)) → Sees w (.slice ao xs.length ac) xs → Sees w (.slice bo zs.length bc) zs → New Lo (.slice ao xs.length ac) → New Lo (.slice bo zs.length bc) → Q .normal (kp8Fr Nn D6 D10 D11 u0 u1 u2 u3 u4 u5 u12 u13 u14 u15 u16 u17 u18 u19 u20 u21 u22 u23 u24 u25 u26 u27 u28 u29 u30 u31 u32 u33 u34 u35 u36 u37 u38 u39 u40 u41 u42 u43 u44 u45 u46 u47 u48 u49 u50 u51 u52 u53 u54 u55 u56 u57 vs) w) :
    (Code.region 8 kp8Ops true).wp Tryz.prog Q (kp8Fr Nn D6 D10 D11 u0 u1 u2 u3 u4 u5 u12 u13 u14 u15 u16 u17 u18 u19 u20 u21 u22 u23 u24 u25 u26 u27 u28 u29 u30 u31 u32 u33 u34 u35 u36 u37 u38 u39 u40 u41 u42 u43 u44 u45 u46 u47 u48 u49 u50 u51 u52 u53 u54 u55 u56 u57 (fun k => if k = 7 then r7 else if k = 8 then r8 else undef)) w0 := by
  refine wp_region_own (by kernel_rfl) (by decide) kp8Dst (by decide) (kp8Fr Nn D6 D10 D11 u0 u1 u2 u3 u4 u5 u12 u13 u14 u15 u16 u17 u18 u19 u20 u21 u22 u23 u24 u25 u26 u27 u28 u29 u30 u31 u32 u33 u34 u35 u36 u37 u38 u39 u40 u41 u42 u43 u44 u45 u46 u47 u48 u49 u50 u51 u52 u53 u54 u55 u56 u57) (fun k => if k = 7 then r7 else if k = 8 then r8 else undef) (fun i => i) (by decide) (fun b => b = D6) (fun q hq => by subst hq; exact lt_of_block hN) (fun i q => i = 6 ∧ q = D6) (fun i q h => h.2) (fun i j q h h' => h.1.trans h'.1.symm)
    (fun _ _ => False) (fun s j h => h.elim) (fun s j h => h.elim) (kp8T w0.heap.size Lo Nn D6 n xo xcap po pcap xs qs zs m) ?_ ?_ ?_
  · intro i v u S w w' hi h hw hw' hz hS
    have ha : Agr w0.heap.size D6 S w w' := agr_of hw hw' hz hS
    have hi' : i < 9 := hi
    rcases (by omega : i = 0 ∨ i = 1 ∨ i = 2 ∨ i = 3 ∨ i = 4 ∨ i = 5 ∨ i = 6 ∨ i = 7 ∨ i = 8) with rfl | rfl | rfl | rfl | rfl | rfl | rfl | rfl | rfl
    · exact h
    · exact h
    · exact TMat.stab h ha
    · exact TTrk.stab h ha
    · exact h
    · exact h
    · exact TStT.stab h ha
    · exact h
    · exact h
  · intro i hi vs w S hb hp hbd hwr _ _
    have hi' : i < 9 := hi
    rcases (by omega : i = 0 ∨ i = 1 ∨ i = 2 ∨ i = 3 ∨ i = 4 ∨ i = 5 ∨ i = 6 ∨ i = 7 ∨ i = 8) with rfl | rfl | rfl | rfl | rfl | rfl | rfl | rfl | rfl
    · exact wpOp_of _ rfl rfl (op_loadM rfl rfl (cX w hb).1 (cX w hb).2.1 (cX w hb).2.2 ⟨_, fun _ => False, rfl, rfl, fun _ h => h.elim, fun _ _ h => h.elim, Mod.refl _ _⟩)
    · exact wpOp_of _ rfl rfl (op_loadM rfl rfl (cP w hb).1 (cP w hb).2.1 (cP w hb).2.2 ⟨_, fun _ => False, rfl, rfl, fun _ h => h.elim, fun _ _ h => h.elim, Mod.refl _ _⟩)
    · have h1 : vs 59 = .agg #[.int .i64 n, .int .i64 n, .slice po qs.length pcap] := hp 1 (by decide)
      exact wpOp_of _ rfl rfl (op_call1 enters_good rfl h1 (kG w hb) (by rintro e b ⟨v, rfl, s', n', b'⟩; have hl := s'.lt z_zs; obtain ⟨so, sc, rfl⟩ := s'.slice; exact ⟨_, rfl, _, fun q => (Value.slice so zs.length sc).ownBlock = some q, rfl, ⟨so, sc, rfl, s', fun q hq => ⟨hq, Nat.le_trans hb.size (n' q hq)⟩⟩, fun q hq => .inr (.inl ⟨n' q hq, hl q hq⟩), fun h => h.elim fun _ h9 => h9.elim, Mod.of b'⟩))
    · have h0 : vs 58 = .agg #[.int .i64 n, .int .i64 1, .slice xo xs.length xcap] := hp 0 (by decide)
      obtain ⟨so, sc, h2, s2, n2⟩ : TMat w0.heap.size n n zs (vs 60) (S 2) w := hp 2 (by decide)
      exact wpOp_of _ rfl rfl (op_buildT rfl h0 h2 ⟨_, S 2, rfl, ⟨_, _, so, sc, rfl, sX.mod oX hb, s2, oX.ok _, fun q hq => .inl (n2 q hq).1, nX, fun q hq => Nat.le_trans hLo (n2 q hq).2⟩, fun q hq => .inl ⟨2, by decide, hq⟩, fun h => h.elim fun _ h9 => h9.elim, Mod.refl _ _⟩)
    · exact wpOp_of _ rfl rfl (op_fieldN rfl rfl ⟨_, fun _ => False, rfl, rfl, fun _ h => h.elim, fun _ _ h => h.elim, Mod.refl _ _⟩)
    · have h4 : vs 62 = .pointer (some ⟨Nn, 0, none⟩) := hp 4 (by decide)
      exact wpOp_of _ rfl rfl (op_loadB rfl h4 (cN w hb) ⟨_, fun _ => False, rfl, rfl, fun _ h => h.elim, fun _ _ h => h.elim, Mod.refl _ _⟩)
    · obtain ⟨ao, ac, bo, bc, hf, s1, s2, k1, k2, k3, k4⟩ : TTrk w0.heap.size D6 Lo n 1 n n xs zs (vs 61) (S 3) w := hp 3 (by decide)
      have hbl := (hwr D6 rfl (fun j h => ⟨by rw [h.1]; decide, .inl h.1⟩)).trans hN
      have hne : ∀ v, OkS w0.heap.size D6 (S 3) v → ∀ q, v.ownBlock = some q → q ≠ D6 := fun v hv q hq e => (hv q hq).elim (fun h => (hbd 3 (by decide) q h).2 ⟨rfl, e⟩) (fun h => h.2 e)
      refine wpOp_of _ rfl rfl (op_storeT rfl rfl rfl hf hbl ?_)
      refine ⟨undef, fun q => q = D6 ∨ S 3 q, rfl, ⟨.inl rfl, ao, ac, bo, bc, put_six hbl, s1.six (hne _ k1) _ _ _ _ _ _, s2.six (hne _ k2) _ _ _ _ _ _, fun q hq => (k1 q hq).imp .inr id, fun q hq => (k2 q hq).imp .inr id, k3, k4⟩, fun q hq => hq.elim (fun h => .inr (.inr ⟨rfl, h⟩)) (fun h => .inl ⟨3, by decide, h⟩), fun h => h.elim fun _ h9 => h9.elim, ?_⟩
      exact (mod_six _ _ _ _ _ _).mono fun q _ hq => .inl ⟨rfl, hq⟩
    · have h5 : vs 63 = .bool m := hp 5 (by decide)
      exact wpOp_of _ rfl rfl (op_assign rfl h5 ⟨_, fun _ => False, rfl, rfl, fun _ h => h.elim, fun _ _ h => h.elim, Mod.refl _ _⟩)
    · exact wpOp_of _ rfl rfl (op_const rfl ⟨_, fun _ => False, rfl, rfl, fun _ h => h.elim, fun _ _ h => h.elim, Mod.refl _ _⟩)
  · intro vs w S hb hT
    obtain ⟨_, ao, ac, bo, bc, h1, h2, h3, _, _, h4, h5⟩ : TStT w0.heap.size D6 Lo n 1 n n xs zs (S 6) w := hT 6 (by decide) (fun _ h => h)
    exact hQ vs ao ac bo bc w hb (hT 7 (by decide) (fun _ h => h)) (hT 8 (by decide) (fun _ h => h)) h1 h2 h3 h4 h5
end Go.Proofs.YtiniobcknmaigaaGreat

/-
  The contract of the document's Div: bit by bit.
-/
namespace Go.Proofs.YtiniobcknmaigaaGreat
open Go.RowKit Qm

set_option maxHeartbeats 1000000 in
theorem rdiv_zero (a b : Int) (w : World) (hb : cl b = 0) :
    Calls Tryz.prog 33 #[.int .i64 a, .int .i64 b] w fun e w' => e = .returned (.tuple #[.int .i64 (div a b), .bool (divB a b)]) ∧ w' = w := by
  obtain ⟨e1, e2⟩ := div_z (a := a) hb
  rw [e1, e2]
  clear e1 e2
  unfold none0
  by_cases h1 : 0 < cl a
  · rw [if_pos h1]
    go_enter Tryz.func33, Tryz.ntmps33
    go_wp2_with (first | (go_at_call 69; refine (rclamp_any _ _).mono ?_; rintro e w' ⟨rfl, rfl⟩) | (go_at_call 70; refine (rabs_any _ _ (by omega) (by omega)).mono ?_; rintro e w' ⟨rfl, rfl⟩))
    go_ret2
    exact ⟨rfl, rfl⟩
  · rw [if_neg h1]
    by_cases h2 : cl a < 0
    · rw [if_pos h2]
      go_enter Tryz.func33, Tryz.ntmps33
      go_wp2_with (first | (go_at_call 69; refine (rclamp_any _ _).mono ?_; rintro e w' ⟨rfl, rfl⟩) | (go_at_call 70; refine (rabs_any _ _ (by omega) (by omega)).mono ?_; rintro e w' ⟨rfl, rfl⟩))
      go_ret2
      exact ⟨rfl, rfl⟩
    · rw [if_neg h2]
      go_enter Tryz.func33, Tryz.ntmps33
      go_wp2_with (first | (go_at_call 69; refine (rclamp_any _ _).mono ?_; rintro e w' ⟨rfl, rfl⟩) | (go_at_call 70; refine (rabs_any _ _ (by omega) (by omega)).mono ?_; rintro e w' ⟨rfl, rfl⟩))
      go_ret2
      exact ⟨rfl, rfl⟩

set_option maxHeartbeats 2000000 in
theorem rdiv_far (a b : Int) (w : World) (hb : ¬ cl b = 0) (hf : 16777216 ≤ ab (cl a) / ab (cl b)) :
    Calls Tryz.prog 33 #[.int .i64 a, .int .i64 b] w fun e w' => e = .returned (.tuple #[.int .i64 (div a b), .bool (divB a b)]) ∧ w' = w := by
  obtain ⟨e1, e2⟩ := div_nz (a := a) hb
  rw [e1, e2]
  clear e1 e2
  have hbz : (cl b == 0) = false := by simp [hb]
  have h1 := cl_lo a; have h2 := cl_hi a; have h3 := cl_lo b; have h4 := cl_hi b
  obtain ⟨a1, a2⟩ := ab_bd a
  obtain ⟨b1, b2⟩ := ab_bd b
  have b3 := ab_nz hb
  have hm : 70368744177664 < near (dw a b) (dm a b) (ab (cl b)) := by
    have n1 := (near_bd (dw a b) (dm a b) (ab (cl b))).1
    have hx : 16777216 * ab (cl b) ≤ ab (cl a) := (Int.le_ediv_iff_mul_le (by omega)).1 hf
    have : 281474976710656 ≤ dw a b := by
      unfold dw
      exact (Int.le_ediv_iff_mul_le (by omega)).2 (by omega)
    omega
  have HM : Hid (70368744177664 < near (dw a b) (dm a b) (ab (cl b))) := hm
  have hfd : decide (16777216 ≤ ab (cl a) / ab (cl b)) = true := decide_eq_true hf
  have hs := ng_eq a b
  have q1 : ab (cl a) / ab (cl b) ≤ 70368744177664 := Int.le_trans (Int.ediv_le_self _ a1) a2
  have m1 := Int.emod_nonneg (ab (cl a)) (show ab (cl b) ≠ 0 by omega)
  have m2 := Int.emod_lt_of_pos (ab (cl a)) (show 0 < ab (cl b) by omega)
  unfold divv ng
  clear hm hf hb
  go_enter Tryz.func33, Tryz.ntmps33
  go_wp2_with (first | (go_at_call 69; refine (rclamp_any _ _).mono ?_; rintro e w' ⟨rfl, rfl⟩) | (go_at_call 70; refine (rabs_any _ _ (by omega) (by omega)).mono ?_; rintro e w' ⟨rfl, rfl⟩) | (go_at_call 71; refine (rback_far _ _ _ _ HM.out).mono ?_; rintro e w' ⟨rfl, rfl⟩))
  refine wp_loop_rounds 1 ?_
  rw [rounds_succ]
  go_wp2_with (first | (go_at_call 69; refine (rclamp_any _ _).mono ?_; rintro e w' ⟨rfl, rfl⟩) | (go_at_call 70; refine (rabs_any _ _ (by omega) (by omega)).mono ?_; rintro e w' ⟨rfl, rfl⟩) | (go_at_call 71; refine (rback_far _ _ _ _ HM.out).mono ?_; rintro e w' ⟨rfl, rfl⟩))
  all_goals
    go_ret2
    exact ⟨by simp [ob2, *], rfl⟩

/-- what stands at the head of each bit -/
structure Bits (x y n r : Int) (j : Nat) : Prop where
  sum : n * y + r = x * 2 ^ j
  r0 : 0 ≤ r
  r1 : r < y
  n0 : 0 ≤ n
  n1 : n < 16777216 * 2 ^ j

theorem Bits.yes {x y n r : Int} {j : Nat} (h : Bits x y n r j) (c : y ≤ r * 2) : Bits x y (n * 2 + 1) (r * 2 - y) (j + 1) := by
  obtain ⟨s, r0, r1, n0, n1⟩ := h
  have e : (n * 2 + 1) * y = n * y * 2 + y := by rw [Int.add_mul, Int.one_mul, Int.mul_right_comm]
  have e2 : x * 2 ^ (j + 1) = x * 2 ^ j * 2 := by rw [Int.pow_succ, Int.mul_assoc]
  have e3 : (2 : Int) ^ (j + 1) = 2 ^ j * 2 := Int.pow_succ 2 j
  exact ⟨by omega, by omega, by omega, by omega, by omega⟩
theorem Bits.no {x y n r : Int} {j : Nat} (h : Bits x y n r j) (c : ¬ y ≤ r * 2) : Bits x y (n * 2) (r * 2) (j + 1) := by
  obtain ⟨s, r0, r1, n0, n1⟩ := h
  have e : n * 2 * y = n * y * 2 := by rw [Int.mul_right_comm]
  have e2 : x * 2 ^ (j + 1) = x * 2 ^ j * 2 := by rw [Int.pow_succ, Int.mul_assoc]
  have e3 : (2 : Int) ^ (j + 1) = 2 ^ j * 2 := Int.pow_succ 2 j
  exact ⟨by omega, by omega, by omega, by omega, by omega⟩
theorem pow24 (j : Nat) (h : j ≤ 24) : (2 : Int) ^ j ≤ 16777216 := by
  have h1 := Nat.pow_le_pow_right (n := 2) (by decide) h
  have h3 : ((2 ^ j : Nat) : Int) ≤ ((2 ^ 24 : Nat) : Int) := by omega
  simpa using h3

set_option maxHeartbeats 2000000 in
theorem rdiv_near (a b : Int) (w : World) (hb : ¬ cl b = 0) (hf : ¬ 16777216 ≤ ab (cl a) / ab (cl b)) :
    Calls Tryz.prog 33 #[.int .i64 a, .int .i64 b] w fun e w' => e = .returned (.tuple #[.int .i64 (div a b), .bool (divB a b)]) ∧ w' = w := by
  obtain ⟨e1, e2⟩ := div_nz (a := a) hb
  rw [e1, e2]
  clear e1 e2
  have hbz : (cl b == 0) = false := by simp [hb]
  have h1 := cl_lo a; have h2 := cl_hi a; have h3 := cl_lo b; have h4 := cl_hi b
  obtain ⟨a1, a2⟩ := ab_bd a
  obtain ⟨b1, b2⟩ := ab_bd b
  have b3 := ab_nz hb
  have hfd : decide (16777216 ≤ ab (cl a) / ab (cl b)) = false := decide_eq_false hf
  have hs := ng_eq a b
  have q0 : 0 ≤ ab (cl a) / ab (cl b) := Int.ediv_nonneg a1 b1
  have m1 := Int.emod_nonneg (ab (cl a)) (show ab (cl b) ≠ 0 by omega)
  have m2 := Int.emod_lt_of_pos (ab (cl a)) (show 0 < ab (cl b) by omega)
  have e := Int.emod_add_mul_ediv (ab (cl a)) (ab (cl b))
  have st : Bits (ab (cl a)) (ab (cl b)) (ab (cl a) / ab (cl b)) (ab (cl a) % ab (cl b)) 0 := by
    rw [Int.mul_comm] at e
    exact ⟨by rw [Int.pow_zero]; omega, m1, m2, q0, by rw [Int.pow_zero]; omega⟩
  have ST : Hid (Bits (ab (cl a)) (ab (cl b)) (ab (cl a) / ab (cl b)) (ab (cl a) % ab (cl b)) 0) := st
  clear e st m1 m2 q0 hf hb
  unfold divv ng
  obtain ⟨M, hM⟩ : ∃ M, near (dw a b) (dm a b) (ab (cl b)) = M := ⟨_, rfl⟩
  rw [hM]
  have HM : Hid (near (ab (cl a) * 16777216 / ab (cl b)) (ab (cl a) * 16777216 % ab (cl b)) (ab (cl b)) = M) := hM
  clear hM
  go_enter Tryz.func33, Tryz.ntmps33
  go_wp2_with (first | (go_at_call 69; refine (rclamp_any _ _).mono ?_; rintro e w' ⟨rfl, rfl⟩) | (go_at_call 70; refine (rabs_any _ _ (by omega) (by omega)).mono ?_; rintro e w' ⟨rfl, rfl⟩))
  go_loop [12, 13, 15] (fun u v i => ∃ (j : Nat) (n r : Int), j ≤ 24 ∧ Hid (Bits (ab (cl a)) (ab (cl b)) n r j) ∧ u = .int .i64 n ∧ v = .int .i64 r ∧ i = .int .i64 (j : Int)) (fun _ _ i => (24 - intOf i).toNat)
  case atStart => exact ⟨0, _, _, by omega, ST, rfl, rfl, rfl⟩
  case round =>
    obtain ⟨j, n, r, hj, hbt, rfl, rfl, rfl⟩ := hrel
    obtain ⟨-, r0, r1, n0, n1⟩ := hbt.out
    have p24 := pow24 j hj
    have n2 : n < 281474976710656 := by omega
    clear n1 p24
    by_cases lt : j < 24
    · have lt' : (j : Int) < 24 := by omega
      by_cases c : ab (cl b) ≤ r * 2
      · have HN : Hid (Bits (ab (cl a)) (ab (cl b)) (n * 2 + 1) (r * 2 - ab (cl b)) (j + 1)) := hbt.out.yes c
        go_wp2
        go_round
        case rel => exact ⟨j + 1, _, _, by omega, HN, rfl, rfl, by go_num⟩
        case measure => simp [intOf]; omega
      · have HN : Hid (Bits (ab (cl a)) (ab (cl b)) (n * 2) (r * 2) (j + 1)) := hbt.out.no c
        go_wp2
        go_round
        case rel => exact ⟨j + 1, _, _, by omega, HN, rfl, rfl, by go_num⟩
        case measure => simp [intOf]; omega
    · obtain rfl : j = 24 := by omega
      have hq := hbt.out.sum
      obtain ⟨g1, g2⟩ := div_by hq.symm r0 r1
      have hz := HM.out
      have e24 : ab (cl a) * 2 ^ 24 = ab (cl a) * 16777216 := rfl
      rw [e24] at g1 g2
      rw [g1, g2] at hz
      clear hq g1 g2 e24 HM ST
      by_cases c1 : ab (cl b) < r * 2
      · rw [near_up (Or.inl (by omega))] at hz
        subst hz
        go_wp2_with (go_at_call 71; refine (rback_near _ _ _ (by omega) (by omega)).mono ?_; rintro e w' ⟨rfl, rfl⟩)
        all_goals
          go_ret2
          exact ⟨by simp [ob2, *], rfl⟩
      · by_cases c2 : r * 2 = ab (cl b)
        · have c2' : (r * 2 == ab (cl b)) = true := by simp [c2]
          by_cases c3 : n % 2 = 1
          · rw [near_up (Or.inr ⟨by omega, c3⟩)] at hz
            have c3' : (n % 2 == 1) = true := by simp [c3]
            clear c2 c3
            subst hz
            go_wp2_with (go_at_call 71; refine (rback_near _ _ _ (by omega) (by omega)).mono ?_; rintro e w' ⟨rfl, rfl⟩)
            all_goals
              go_ret2
              exact ⟨by simp [ob2, *], rfl⟩
          · rw [near_stay (by omega)] at hz
            have c3' : (n % 2 == 1) = false := by simp [c3]
            clear c2 c3
            subst hz
            go_wp2_with (go_at_call 71; refine (rback_near _ _ _ (by omega) (by omega)).mono ?_; rintro e w' ⟨rfl, rfl⟩)
            all_goals
              go_ret2
              exact ⟨by simp [ob2, *], rfl⟩
        · rw [near_stay (by omega)] at hz
          have c2' : (r * 2 == ab (cl b)) = false := by simp [c2]
          clear c2
          subst hz
          go_wp2_with (go_at_call 71; refine (rback_near _ _ _ (by omega) (by omega)).mono ?_; rintro e w' ⟨rfl, rfl⟩)
          all_goals
            go_ret2
            exact ⟨by simp [ob2, *], rfl⟩

/-- the document's Div -/
theorem rdiv_any (a b : Int) (w : World) :
    Calls Tryz.prog 33 #[.int .i64 a, .int .i64 b] w fun e w' => e = .returned (.tuple #[.int .i64 (div a b), .bool (divB a b)]) ∧ w' = w := by
  by_cases hb : cl b = 0
  · exact rdiv_zero a b w hb
  · by_cases hf : 16777216 ≤ ab (cl a) / ab (cl b)
    · exact rdiv_far a b w hb hf
    · exact rdiv_near a b w hb hf
end Go.Proofs.YtiniobcknmaigaaGreat

/-
  Eye, Diag and Even: the code and the document's answer side by side.
-/
namespace Go.Proofs.YtiniobcknmaigaaGreat
open Go.RowKit Go.Sort Qm

def TellsN (f : Nat) (n r c : Int) (zs : List Int) (e : Int) : Prop :=
  ∀ w, Calls Tryz.prog f #[.int .i64 n] w fun e' b => ∃ v, e' = .returned (.tuple #[.agg #[.int .i64 r, .int .i64 c, v], .int .i64 e]) ∧ Sees b v zs ∧ Below w.heap.size w b
def TellsL (f : Nat) (xs : List Int) (r c : Int) (zs : List Int) (e : Int) : Prop :=
  ∀ w v, Sees w v xs → Calls Tryz.prog f #[v] w fun e' b => ∃ v, e' = .returned (.tuple #[.agg #[.int .i64 r, .int .i64 c, v], .int .i64 e]) ∧ Sees b v zs ∧ Below w.heap.size w b
theorem dia_len (d : Nat → Int) (n : Nat) : (dia d n).length = n * n := tab_len _ _
theorem eye_both (n : Int) : ∃ r c zs e, zs.length ≤ 64 ∧ TellsN 67 n r c zs e ∧ TellsN 35 n r c zs e := by
  by_cases h : 1 ≤ n ∧ n ≤ 8
  · obtain ⟨m, rfl⟩ := Int.eq_ofNat_of_zero_le (by omega : 0 ≤ n)
    have h1 : 1 ≤ m := by omega
    have h2 : m ≤ 8 := by omega
    exact ⟨(m : Int), (m : Int), dia (fun _ => 16777216) m, 0, by rw [dia_len]; exact mul_le_64 h2 h2, fun w => (eye_any m h1 h2 w).mono fun _ _ ⟨v, x, y, _, z⟩ => ⟨v, x, y, z⟩, fun w => (reye_any m h1 h2 w).mono fun _ _ ⟨v, x, y, _, z⟩ => ⟨v, x, y, z⟩⟩
  · exact ⟨0, 0, [], 1, Nat.zero_le _, fun w => (eye_not n h w).mono fun _ _ hh => ⟨_, hh.1, sees_none _, hh.2⟩, fun w => (reye_not n h w).mono fun _ _ hh => ⟨_, hh.1, sees_none _, hh.2⟩⟩
theorem diag_both (xs : List Int) (hl : xs.length ≤ 100) : ∃ r c zs e, zs.length ≤ 64 ∧ TellsL 45 xs r c zs e ∧ TellsL 72 xs r c zs e := by
  by_cases h : 1 ≤ xs.length ∧ xs.length ≤ 8 ∧ outB xs xs.length = false
  · exact ⟨(xs.length : Int), (xs.length : Int), dia (ge xs) xs.length, 0, by rw [dia_len]; exact mul_le_64 h.2.1 h.2.1, fun w v s => (diag_any v xs h.1 h.2.1 h.2.2 w s).mono fun _ _ ⟨v, x, y, _, z⟩ => ⟨v, x, y, z⟩, fun w v s => (rdiag_any v xs h.1 h.2.1 h.2.2 w s).mono fun _ _ ⟨v, x, y, _, z⟩ => ⟨v, x, y, z⟩⟩
  · exact ⟨0, 0, [], 1, Nat.zero_le _, fun w v s => (diag_not v xs hl h w s).mono fun _ _ hh => ⟨_, hh.1, sees_none _, hh.2⟩, fun w v s => (rdiag_not v xs hl h w s).mono fun _ _ hh => ⟨_, hh.1, sees_none _, hh.2⟩⟩
theorem even_both {ra ca : Int} {xs : List Int} {R C : Nat} (h : IsRight ra ca xs R C) : ∃ r c zs o e, zs.length ≤ 64 ∧ Tells1 59 ra ca xs r c zs o e ∧ Tells1 62 ra ca xs r c zs o e := by
  have h1 := h.hr
  have h2 := h.hc
  subst h1; subst h2
  by_cases e : R = C
  · subst e
    obtain ⟨t1, t2, hr⟩ := even_tells h
    exact ⟨_, _, _, _, _, hr.le, t1, t2⟩
  · exact ⟨0, 0, [], false, 9, Nat.zero_le _, fun w va sa => (even_not R C e va xs w sa).mono fun _ _ hh => ⟨_, hh.1, sees_none _, hh.2⟩, fun w va sa => (reven_not R C e va xs w sa).mono fun _ _ hh => ⟨_, hh.1, sees_none _, hh.2⟩⟩
theorem trans_both {ra ca : Int} {xs : List Int} {R C : Nat} (h : IsRight ra ca xs R C) : ∃ zs, zs.length ≤ 64 ∧
    (∀ w va, Sees w va xs → Calls Tryz.prog 21 #[.agg #[.int .i64 ra, .int .i64 ca, va]] w fun e b => ∃ v, e = .returned (.agg #[.int .i64 ca, .int .i64 ra, v]) ∧ Sees b v zs ∧ Below w.heap.size w b) ∧
    (∀ w va, Sees w va xs → Calls Tryz.prog 32 #[.agg #[.int .i64 ra, .int .i64 ca, va]] w fun e b => ∃ v, e = .returned (.agg #[.int .i64 ca, .int .i64 ra, v]) ∧ Sees b v zs ∧ Below w.heap.size w b) := by
  obtain ⟨rfl, rfl, h1, h2, h3, h4, h5, _⟩ := h
  exact ⟨trn R C xs, by unfold trn; rw [tab_len]; exact mul_le_64 h4 h2, fun w va sa => (trans_any R C h1 h2 h3 h4 va xs h5 w sa).mono fun _ _ ⟨v, x, y, _, z⟩ => ⟨v, x, y, z⟩, fun w va sa => (rtrans_any R C h1 h2 h3 h4 va xs h5 w sa).mono fun _ _ ⟨v, x, y, _, z⟩ => ⟨v, x, y, z⟩⟩
end Go.Proofs.YtiniobcknmaigaaGreat
