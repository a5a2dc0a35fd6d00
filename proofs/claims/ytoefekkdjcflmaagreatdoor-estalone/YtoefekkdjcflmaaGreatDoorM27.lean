/- Parts of the proof. -/
import Derived.Test.YtoefekkdjcflmaaGreatDoorM17
namespace Go.Proofs.YtoefekkdjcflmaaGreatDoor.Et
open Go.RowKit Go.Sort Go.Proofs.YtoefekkdjcflmaaGreatDoor.Qm
set_option linter.unusedVariables false
theorem enters_inStep : ∀ (args : Array Value) (a : World), Sem.run Tryz.prog (callFunc 109 args) a = Result.ok (Next.enter 109 args) a := by
  intro args a; simp [callFunc, Tryz.func109, go_sem]; rfl
theorem enters_diag : ∀ (args : Array Value) (a : World), Sem.run Tryz.prog (callFunc 84 args) a = Result.ok (Next.enter 84 args) a := by
  intro args a; simp [callFunc, Tryz.func84, go_sem]; rfl
theorem op_bs3 {a : Act} {w : World} {K : Act → World → Prop} {Q : Exit → Act → World → Prop} {o : Oper} {s t : Nat} {x y : Int} (hop : o.op = Op.buildSlice 27 3 #[(0, Operand.const (.int .i64 0)), (1, Operand.tmp s), (2, Operand.tmp t)]) (hs : a.tmps[s]?.getD undef = .int .i64 x) (ht : a.tmps[t]?.getD undef = .int .i64 y)
    (hk : K (a.put o.dst (.slice (some ⟨w.heap.size, 0, none⟩) 3 3)) (w.alloc (.cells #[.int .i64 0, .int .i64 x, .int .i64 y] 22))) : o.wp Tryz.prog a w K Q := by
  unfold Oper.wp
  simp [execOp, hop, go_sem, hs, ht]
  exact hk
def no1Ops : Array Oper := #[
 ⟨some 6, .move (.tmp 0), 96, "est.go:176", #[], none⟩,
 ⟨some 7, .move (.tmp 0), 96, "est.go:176", #[], none⟩,
 ⟨some 8, .nilCheck (.tmp 7), 0, "est.go:176", #[eD 1], none⟩,
 ⟨some 9, .fieldAddr 66 (.tmp 8) 0, 0, "est.go:176", #[eD 2], none⟩,
 ⟨some 10, .fieldAddr 24 (.tmp 9) 1, 0, "est.go:176", #[eD 3], none⟩,
 ⟨some 11, .load 22 (.tmp 10), 22, "est.go:176", #[eD 4], none⟩,
 ⟨some 12, .call ⟨.value (.func 109), #[.tmp 6, .tmp 11], #[96, 22]⟩, 22, "est.go:176", #[eD 0, eD 5], none⟩,
 ⟨some 13, .move (.tmp 0), 96, "est.go:176", #[], none⟩,
 ⟨some 14, .move (.tmp 0), 96, "est.go:176", #[], none⟩,
 ⟨some 15, .nilCheck (.tmp 14), 0, "est.go:176", #[eD 8], none⟩,
 ⟨some 16, .fieldAddr 66 (.tmp 15) 0, 0, "est.go:176", #[eD 9], none⟩,
 ⟨some 17, .fieldAddr 24 (.tmp 16) 2, 0, "est.go:176", #[eD 10], none⟩,
 ⟨some 18, .load 22 (.tmp 17), 22, "est.go:176", #[eD 11], none⟩,
 ⟨some 19, .call ⟨.value (.func 109), #[.tmp 13, .tmp 18], #[96, 22]⟩, 22, "est.go:176", #[eD 7, eD 12, eC 6], none⟩,
 ⟨some 20, .buildSlice 27 3 #[(0, .const (.int .i64 0)), (1, .tmp 12), (2, .tmp 19)], 27, "est.go:176", #[eD 6, eD 13], none⟩,
 ⟨some 21, .call ⟨.value (.func 84), #[.tmp 20], #[27]⟩, 121, "est.go:176", #[eD 14, eC 13], none⟩,
 ⟨some 5, .move (.tmp 21), 121, "est.go:176", #[eD 15], none⟩,
 ⟨some 22, .extract (.tmp 5) 0, 29, "est.go:176", #[eD 16], none⟩,
 ⟨some 23, .extract (.tmp 5) 1, 47, "est.go:176", #[eD 16, ⟨20, .gcOnly .lateStores⟩], none⟩,
 ⟨some 3, .alloc 29, 0, "est.go:176", #[], none⟩,
 ⟨none, .store 29 (.tmp 3) (.tmp 22), 0, "est.go:176", #[eD 19, eD 17, eC 15, eP 0, eP 1, eP 2, eP 3, eP 4, eP 5, eP 6, eP 7, eP 8, eP 9, eP 10, eP 11, eP 12, eP 13, eP 14, eP 15, eP 16, eP 17, ⟨18, .textOnly .lateStores⟩, eP 19], none⟩,
 ⟨some 4, .assign (.tmp 23), 47, "est.go:176", #[eD 18, eC 20, eP 0, eP 1, eP 2, eP 3, eP 4, eP 5, eP 6, eP 7, eP 8, eP 9, eP 10, eP 11, eP 12, eP 13, eP 14, eP 15, eP 16, eP 17, eP 18, eP 19, eP 20], none⟩]
def no1Dst (i : Nat) : Nat := [6, 7, 8, 9, 10, 11, 12, 13, 14, 15, 16, 17, 18, 19, 20, 21, 5, 22, 23, 3, 1020, 4].getD i 0
def no1Fr (W : Nat) (u1 u2 u24 : Value) (vs : Nat → Value) : Act := ⟨#[.pointer (some ⟨W, 0, none⟩), u1, u2, vs 3, vs 4, vs 5, vs 6, vs 7, vs 8, vs 9, vs 10, vs 11, vs 12, vs 13, vs 14, vs 15, vs 16, vs 17, vs 18, vs 19, vs 20, vs 21, vs 22, vs 23, u24], []⟩
def no1T (B : Nat) (W : Nat) (acc : Int) (bias : Int) (z1 : Int) (z2 : Int) (qs : List Int) : Nat → Value → Value → (Nat → Prop) → World → Prop
  | 0, v, _, _, _ => v = .pointer (some ⟨W, 0, none⟩)
  | 1, v, _, _, _ => v = .pointer (some ⟨W, 0, none⟩)
  | 2, v, _, _, _ => v = .pointer (some ⟨W, 0, none⟩)
  | 3, v, _, _, _ => v = .pointer (some ⟨W, 0, none⟩)
  | 4, v, _, _, _ => v = .pointer (some ⟨W, 1, none⟩)
  | 5, v, _, _, _ => v = .int .i64 (acc)
  | 6, v, _, _, _ => v = .int .i64 z1
  | 7, v, _, _, _ => v = .pointer (some ⟨W, 0, none⟩)
  | 8, v, _, _, _ => v = .pointer (some ⟨W, 0, none⟩)
  | 9, v, _, _, _ => v = .pointer (some ⟨W, 0, none⟩)
  | 10, v, _, _, _ => v = .pointer (some ⟨W, 0, none⟩)
  | 11, v, _, _, _ => v = .pointer (some ⟨W, 2, none⟩)
  | 12, v, _, _, _ => v = .int .i64 (bias)
  | 13, v, _, _, _ => v = .int .i64 z2
  | 14, v, _, S, w => TV1 0 W (fun s => s) [0, z1, z2] v S w
  | 15, v, _, S, w => TV1 0 W (fun s => .tuple #[.agg #[.int .i64 3, .int .i64 3, s], .int .i64 0]) qs v S w
  | 16, v, _, S, w => TV1 0 W (fun s => .tuple #[.agg #[.int .i64 3, .int .i64 3, s], .int .i64 0]) qs v S w
  | 17, v, _, S, w => TV1 0 W (fun s => .agg #[.int .i64 3, .int .i64 3, s]) qs v S w
  | 18, v, _, _, _ => v = .int .i64 0
  | 19, v, _, S, w => TP B #[.int .i64 0, .int .i64 0, .slice none 0 0] 29 v S w
  | 20, _, u, S, w => TP1 B 0 W (fun s => #[.int .i64 3, .int .i64 3, s]) qs 29 u S w
  | 21, v, _, _, _ => v = .int .i64 0
  | _, _, _, _, _ => True
set_option maxRecDepth 40000 in
set_option maxHeartbeats 1600000 in
theorem no1_region {Q : Exit → Act → World → Prop} {w0 : World} {W : Nat} {acc : Int} {bias : Int} {z1 : Int} {z2 : Int} {qs : List Int} {J : Bool → Bool → World → Prop} {u1 u2 u24 : Value}
    (hsh : ∀ k, k = W → k < w0.heap.size) (hJ0 : J false false w0.drew) (hJs : ∀ b b' w w', J b b' w → Mod (fun q => w0.heap.size ≤ q) w w' → J b b' w')
    (l1 : ∀ b b' w, J b b' w → w.cell? ⟨W, 1, none⟩ = some (.int .i64 acc)) (l2 : ∀ b b' w, J b b' w → w.cell? ⟨W, 2, none⟩ = some (.int .i64 bias))
    (hc1 : ∀ w, J false false w → Calls Tryz.prog 109 #[.pointer (some ⟨W, 0, none⟩), .int .i64 (acc)] w fun e b => e = .returned (.int .i64 z1) ∧ J true false b ∧ Mod (fun b => b = W) w b)
    (hc2 : ∀ w, J true false w → Calls Tryz.prog 109 #[.pointer (some ⟨W, 0, none⟩), .int .i64 (bias)] w fun e b => e = .returned (.int .i64 z2) ∧ J true true b ∧ Mod (fun b => b = W) w b)
    (hd : ∀ w v, Sees w v [0, z1, z2] → Calls Tryz.prog 84 #[v] w fun e b => ∃ v', e = .returned (.tuple #[.agg #[.int .i64 3, .int .i64 3, v'], .int .i64 0]) ∧ Sees b v' qs ∧ New w.heap.size v' ∧ Below w.heap.size w b) (z_qs : 0 < qs.length)
    (hQ : ∀ vs D ao ac w, Mod (fun k => k = W) w0 w → J true true w → vs 3 = .pointer (some ⟨D, 0, none⟩) → w0.heap.size ≤ D → w.heap[D]? = some (.cells #[.int .i64 3, .int .i64 3, (.slice ao qs.length ac)] 29 (0, 0)) → Sees w (.slice ao qs.length ac) qs → New w0.heap.size (.slice ao qs.length ac) → Q .normal (no1Fr W u1 u2 u24 vs) w) :
    (Code.region 1 no1Ops true).wp Tryz.prog Q (no1Fr W u1 u2 u24 (fun _ => undef)) w0 := by
  refine wp_region_sh (by kernel_rfl) (by decide) no1Dst (by decide) (no1Fr W u1 u2 u24) (fun _ => undef) (fun i => if i = 20 then 19 else i) (by decide) (fun k => k = W) hsh (fun L w => J (L 6) (L 13) w) hJ0
    (fun s j => s = 20 ∧ j = 19) (fun s j h => by obtain ⟨rfl, rfl⟩ := h; exact ⟨by decide, by decide⟩) (fun s s2 j h h2 => h.1.trans h2.1.symm) (no1T w0.heap.size W acc bias z1 z2 qs) ?_ ?_ ?_
  · intro i v u S w w' hi h hw hw' hz hS
    have hi' : i < 22 := hi
    rcases (by omega : i = 0 ∨ i = 1 ∨ i = 2 ∨ i = 3 ∨ i = 4 ∨ i = 5 ∨ i = 6 ∨ i = 7 ∨ i = 8 ∨ i = 9 ∨ i = 10 ∨ i = 11 ∨ i = 12 ∨ i = 13 ∨ i = 14 ∨ i = 15 ∨ i = 16 ∨ i = 17 ∨ i = 18 ∨ i = 19 ∨ i = 20 ∨ i = 21) with rfl | rfl | rfl | rfl | rfl | rfl | rfl | rfl | rfl | rfl | rfl | rfl | rfl | rfl | rfl | rfl | rfl | rfl | rfl | rfl | rfl | rfl
    · exact h
    · exact h
    · exact h
    · exact h
    · exact h
    · exact h
    · exact h
    · exact h
    · exact h
    · exact h
    · exact h
    · exact h
    · exact h
    · exact h
    · exact TV1.stab (show TV1 0 W (fun s => s) [0, z1, z2] v S w from h) (agr_zero hz hS)
    · exact TV1.stab (show TV1 0 W (fun s => .tuple #[.agg #[.int .i64 3, .int .i64 3, s], .int .i64 0]) qs v S w from h) (agr_zero hz hS)
    · exact TV1.stab (show TV1 0 W (fun s => .tuple #[.agg #[.int .i64 3, .int .i64 3, s], .int .i64 0]) qs v S w from h) (agr_zero hz hS)
    · exact TV1.stab (show TV1 0 W (fun s => .agg #[.int .i64 3, .int .i64 3, s]) qs v S w from h) (agr_zero hz hS)
    · exact h
    · exact TP.stab h hS
    · exact TP1.stab (show TP1 w0.heap.size 0 W (fun s => #[.int .i64 3, .int .i64 3, s]) qs 29 u S w from h) (agr_zero hz hS)
    · exact h
  · intro i hi L vs w S hb hI hL hpr hsu hp hbd hkl _
    have hi' : i < 22 := hi
    rcases (by omega : i = 0 ∨ i = 1 ∨ i = 2 ∨ i = 3 ∨ i = 4 ∨ i = 5 ∨ i = 6 ∨ i = 7 ∨ i = 8 ∨ i = 9 ∨ i = 10 ∨ i = 11 ∨ i = 12 ∨ i = 13 ∨ i = 14 ∨ i = 15 ∨ i = 16 ∨ i = 17 ∨ i = 18 ∨ i = 19 ∨ i = 20 ∨ i = 21) with rfl | rfl | rfl | rfl | rfl | rfl | rfl | rfl | rfl | rfl | rfl | rfl | rfl | rfl | rfl | rfl | rfl | rfl | rfl | rfl | rfl | rfl
    · exact wpOp_of _ rfl rfl (op_move rfl rfl ⟨_, fun _ => False, rfl, rfl, fun _ h => h.elim, fun h => (by obtain ⟨s9, h9⟩ := h; exact absurd h9.2 (by decide)), Mod.refl _ _, hI⟩)
    · exact wpOp_of _ rfl rfl (op_move rfl rfl ⟨_, fun _ => False, rfl, rfl, fun _ h => h.elim, fun h => (by obtain ⟨s9, h9⟩ := h; exact absurd h9.2 (by decide)), Mod.refl _ _, hI⟩)
    · have h1 : vs 7 = .pointer (some ⟨W, 0, none⟩) := hp 1 (by decide) (fun _ h9 => absurd h9.2 (by decide))
      exact wpOp_of _ rfl rfl (op_nil rfl h1 ⟨_, fun _ => False, rfl, rfl, fun _ h => h.elim, fun h => (by obtain ⟨s9, h9⟩ := h; exact absurd h9.2 (by decide)), Mod.refl _ _, hI⟩)
    · have h2 : vs 8 = .pointer (some ⟨W, 0, none⟩) := hp 2 (by decide) (fun _ h9 => absurd h9.2 (by decide))
      exact wpOp_of _ rfl rfl (op_fwork0 rfl h2 ⟨_, fun _ => False, rfl, rfl, fun _ h => h.elim, fun h => (by obtain ⟨s9, h9⟩ := h; exact absurd h9.2 (by decide)), Mod.refl _ _, hI⟩)
    · have h3 : vs 9 = .pointer (some ⟨W, 0, none⟩) := hp 3 (by decide) (fun _ h9 => absurd h9.2 (by decide))
      exact wpOp_of _ rfl rfl (op_fConf1 rfl h3 ⟨_, fun _ => False, rfl, rfl, fun _ h => h.elim, fun h => (by obtain ⟨s9, h9⟩ := h; exact absurd h9.2 (by decide)), Mod.refl _ _, hI⟩)
    · have h4 : vs 10 = .pointer (some ⟨W, 1, none⟩) := hp 4 (by decide) (fun _ h9 => absurd h9.2 (by decide))
      exact wpOp_of _ rfl rfl (op_ldQ rfl h4 (l1 _ _ w hI) ⟨_, fun _ => False, rfl, rfl, fun _ h => h.elim, fun h => (by obtain ⟨s9, h9⟩ := h; exact absurd h9.2 (by decide)), Mod.refl _ _, hI⟩)
    · have h0 : vs 6 = .pointer (some ⟨W, 0, none⟩) := hp 0 (by decide) (fun _ h9 => absurd h9.2 (by decide))
      have h5 : vs 11 = .int .i64 (acc) := hp 5 (by decide) (fun _ h9 => absurd h9.2 (by decide))
      have hJ : J false false w := by
        have h : J (L 6) (L 13) w := hI
        rw [hL, hsu 13 (by decide) (by decide)] at h; exact h
      exact wpOp_of _ rfl rfl (op_call_tt enters_inStep rfl h0 h5 (hc1 w hJ) (by rintro e b ⟨rfl, j', m'⟩; exact ⟨_, rfl, _, fun _ => False, rfl, rfl, fun _ h => h.elim, fun h => (by obtain ⟨s9, h9⟩ := h; exact absurd h9.2 (by decide)), m'.mono fun q _ hq => .inl hq, (by show J true (L 13) b; rw [hsu 13 (by decide) (by decide)]; exact j')⟩))
    · exact wpOp_of _ rfl rfl (op_move rfl rfl ⟨_, fun _ => False, rfl, rfl, fun _ h => h.elim, fun h => (by obtain ⟨s9, h9⟩ := h; exact absurd h9.2 (by decide)), Mod.refl _ _, hI⟩)
    · exact wpOp_of _ rfl rfl (op_move rfl rfl ⟨_, fun _ => False, rfl, rfl, fun _ h => h.elim, fun h => (by obtain ⟨s9, h9⟩ := h; exact absurd h9.2 (by decide)), Mod.refl _ _, hI⟩)
    · have h8 : vs 14 = .pointer (some ⟨W, 0, none⟩) := hp 8 (by decide) (fun _ h9 => absurd h9.2 (by decide))
      exact wpOp_of _ rfl rfl (op_nil rfl h8 ⟨_, fun _ => False, rfl, rfl, fun _ h => h.elim, fun h => (by obtain ⟨s9, h9⟩ := h; exact absurd h9.2 (by decide)), Mod.refl _ _, hI⟩)
    · have h9 : vs 15 = .pointer (some ⟨W, 0, none⟩) := hp 9 (by decide) (fun _ h9 => absurd h9.2 (by decide))
      exact wpOp_of _ rfl rfl (op_fwork0 rfl h9 ⟨_, fun _ => False, rfl, rfl, fun _ h => h.elim, fun h => (by obtain ⟨s9, h9⟩ := h; exact absurd h9.2 (by decide)), Mod.refl _ _, hI⟩)
    · have h10 : vs 16 = .pointer (some ⟨W, 0, none⟩) := hp 10 (by decide) (fun _ h9 => absurd h9.2 (by decide))
      exact wpOp_of _ rfl rfl (op_fConf2 rfl h10 ⟨_, fun _ => False, rfl, rfl, fun _ h => h.elim, fun h => (by obtain ⟨s9, h9⟩ := h; exact absurd h9.2 (by decide)), Mod.refl _ _, hI⟩)
    · have h11 : vs 17 = .pointer (some ⟨W, 2, none⟩) := hp 11 (by decide) (fun _ h9 => absurd h9.2 (by decide))
      exact wpOp_of _ rfl rfl (op_ldQ rfl h11 (l2 _ _ w hI) ⟨_, fun _ => False, rfl, rfl, fun _ h => h.elim, fun h => (by obtain ⟨s9, h9⟩ := h; exact absurd h9.2 (by decide)), Mod.refl _ _, hI⟩)
    · have h7 : vs 13 = .pointer (some ⟨W, 0, none⟩) := hp 7 (by decide) (fun _ h9 => absurd h9.2 (by decide))
      have h12 : vs 18 = .int .i64 (bias) := hp 12 (by decide) (fun _ h9 => absurd h9.2 (by decide))
      have hJ : J true false w := by
        have h : J (L 6) (L 13) w := hI
        rw [hL, hpr 6 (by decide)] at h; exact h
      exact wpOp_of _ rfl rfl (op_call_tt enters_inStep rfl h7 h12 (hc2 w hJ) (by rintro e b ⟨rfl, j', m'⟩; exact ⟨_, rfl, _, fun _ => False, rfl, rfl, fun _ h => h.elim, fun h => (by obtain ⟨s9, h9⟩ := h; exact absurd h9.2 (by decide)), m'.mono fun q _ hq => .inl hq, (by show J (L 6) true b; rw [hpr 6 (by decide)]; exact j')⟩))
    · have h6 : vs 12 = .int .i64 z1 := hp 6 (by decide) (fun _ h9 => absurd h9.2 (by decide))
      have h13 : vs 19 = .int .i64 z2 := hp 13 (by decide) (fun _ h9 => absurd h9.2 (by decide))
      exact wpOp_of _ rfl rfl (op_bs3 rfl h6 h13 ⟨_, fun q => q = w.heap.size, rfl, ⟨_, 3, rfl, sees_row (heap_new _ _) rfl, fun q hq => .inl (Option.some.inj hq).symm⟩, fun q hq => .inr (by subst hq; simp), fun h => (by obtain ⟨s9, h9⟩ := h; exact absurd h9.2 (by decide)), Mod.of ((Below.refl _ w).alloc (Nat.le_refl _) _), hJs _ _ _ _ hI (Mod.of ((Below.refl _ w).alloc (Nat.le_refl _) _))⟩)
    · obtain ⟨o14, p14, h14, s14, k14⟩ : TV1 0 W (fun s => s) [0, z1, z2] (vs 20) (S 14) w := hp 14 (by decide) (fun _ h9 => absurd h9.2 (by decide))
      exact wpOp_of _ rfl rfl (op_call_t enters_diag rfl h14 (hd w _ s14) (by rintro e b ⟨v, rfl, s', n', b'⟩; have hl := s'.lt z_qs; obtain ⟨so, sc, rfl⟩ := s'.slice; exact ⟨_, rfl, _, fun q => (Value.slice so qs.length sc).ownBlock = some q, rfl, ⟨so, sc, rfl, s', fun q hq => .inl hq⟩, fun q hq => .inr ⟨n' q hq, hl q hq⟩, fun h => (by obtain ⟨s9, h9⟩ := h; exact absurd h9.2 (by decide)), Mod.of b', (hJs _ _ _ _ hI (Mod.of b'))⟩))
    · obtain ⟨o15, p15, h15, s15, k15⟩ : TV1 0 W (fun s => .tuple #[.agg #[.int .i64 3, .int .i64 3, s], .int .i64 0]) qs (vs 21) (S 15) w := hp 15 (by decide) (fun _ h9 => absurd h9.2 (by decide))
      exact wpOp_of _ rfl rfl (op_move rfl h15 ⟨_, S 15, rfl, ⟨o15, p15, rfl, s15, k15⟩, fun q hq => .inl ⟨15, by decide, fun _ h9 => absurd h9.2 (by decide), hq⟩, fun h => (by obtain ⟨s9, h9⟩ := h; exact absurd h9.2 (by decide)), Mod.refl _ _, hI⟩)
    · obtain ⟨o16, p16, h16, s16, k16⟩ : TV1 0 W (fun s => .tuple #[.agg #[.int .i64 3, .int .i64 3, s], .int .i64 0]) qs (vs 5) (S 16) w := hp 16 (by decide) (fun _ h9 => absurd h9.2 (by decide))
      exact wpOp_of _ rfl rfl (op_extract rfl h16 rfl ⟨_, S 16, rfl, ⟨o16, p16, rfl, s16, k16⟩, fun q hq => .inl ⟨16, by decide, fun _ h9 => absurd h9.2 (by decide), hq⟩, fun h => (by obtain ⟨s9, h9⟩ := h; exact absurd h9.2 (by decide)), Mod.refl _ _, hI⟩)
    · obtain ⟨o16, p16, h16, s16, k16⟩ : TV1 0 W (fun s => .tuple #[.agg #[.int .i64 3, .int .i64 3, s], .int .i64 0]) qs (vs 5) (S 16) w := hp 16 (by decide) (fun _ h9 => absurd h9.2 (by decide))
      exact wpOp_of _ rfl rfl (op_extract rfl h16 rfl ⟨_, fun _ => False, rfl, rfl, fun _ h => h.elim, fun h => (by obtain ⟨s9, h9⟩ := h; exact absurd h9.2 (by decide)), Mod.refl _ _, hI⟩)
    · exact wpOp_of _ rfl rfl (op_alMat rfl ⟨_, fun b => b = w.heap.size, rfl, ⟨_, rfl, rfl, hb.size, heap_new _ _⟩, fun b h => .inr (by subst h; simp), fun _ b h => by omega, Mod.of ((Below.refl _ w).alloc (Nat.le_refl _) _), (hJs _ _ _ _ hI (Mod.of ((Below.refl _ w).alloc (Nat.le_refl _) _)))⟩)
    · obtain ⟨D, hD, hSD, hBD, hbl⟩ : TP w0.heap.size #[.int .i64 0, .int .i64 0, .slice none 0 0] 29 (vs 3) (S 19) w := hp 19 (by decide) (fun _ h9 => h9.1)
      obtain ⟨o17, p17, h17, s17, k17⟩ : TV1 0 W (fun s => .agg #[.int .i64 3, .int .i64 3, s]) qs (vs 22) (S 17) w := hp 17 (by decide) (fun _ h9 => absurd h9.2 (by decide))
      have hne : ∀ v, OkS 0 W (S 17) v → ∀ q, v.ownBlock = some q → q ≠ D := fun v hv q hq e => (hv q hq).elim (fun h => hkl 19 ⟨rfl, rfl⟩ 17 (by decide) (by decide) D hSD (e ▸ h)) (fun h => by omega)
      refine wpOp_of _ rfl rfl (op_stMat rfl rfl hD h17 hbl ?_)
      exact ⟨undef, fun q => q = D ∨ S 17 q, rfl, ⟨D, o17, p17, hD, .inl rfl, hBD, putMat hbl, seesMat s17 (hne _ k17) _ _ _, fun q hq => (k17 q hq).imp .inr id⟩, fun q hq => hq.elim (fun h => .inl ⟨19, by decide, fun _ h9 => h9.1, h ▸ hSD⟩) (fun h => .inl ⟨17, by decide, fun _ h9 => absurd h9.2 (by decide), h⟩), fun h => (by obtain ⟨s9, h9⟩ := h; exact absurd h9.2 (by decide)), (modMat _ _ _).mono fun q _ hq => .inr ⟨19, ⟨rfl, rfl⟩, hq ▸ hSD⟩, (hJs _ _ _ _ hI ((modMat _ _ _).mono fun q _ hq => (by subst hq; exact hBD)))⟩
    · have h18 : vs 23 = .int .i64 0 := hp 18 (by decide) (fun _ h9 => absurd h9.2 (by decide))
      exact wpOp_of _ rfl rfl (op_assign rfl h18 ⟨_, fun _ => False, rfl, rfl, fun _ h => h.elim, fun h => (by obtain ⟨s9, h9⟩ := h; exact absurd h9.2 (by decide)), Mod.refl _ _, hI⟩)
  · intro vs w S L hall hI hb hSz hT
    have hIe : J true true w := by
      have hI' : J (L 6) (L 13) w := hI
      rw [hall 6 (by decide), hall 13 (by decide)] at hI'
      exact hI'
    obtain ⟨D, ao, ac, g1, _, g3, g4, g5, g6⟩ : TP1 w0.heap.size 0 W (fun s => #[.int .i64 3, .int .i64 3, s]) qs 29 (vs 3) (S 20) w := hT 20 (by decide) (fun s h => by omega)
    exact hQ vs D ao ac w hb hIe g1 g3 g4 g5 (fun q hq => (g6 q hq).elim (fun h => (hSz 20 (by decide) q h).2) (fun h => absurd h.1 (Nat.not_lt_zero _)))
set_option linter.unusedVariables false
theorem enters_add : ∀ (args : Array Value) (a : World), Sem.run Tryz.prog (callFunc 118 args) a = Result.ok (Next.enter 118 args) a := by
  intro args a; simp [callFunc, Tryz.func118, go_sem]; rfl
theorem op_ldQs {a : Act} {w : World} {K : Act → World → Prop} {Q : Exit → Act → World → Prop} {o : Oper} {s b f : Nat} {v : Value} (hop : o.op = Op.load 27 (Operand.tmp s)) (he : a.tmps[s]?.getD undef = .pointer (some ⟨b, f, none⟩)) (hc : w.cell? ⟨b, f, none⟩ = some v) (hk : K (a.put o.dst v) w) : o.wp Tryz.prog a w K Q := by
  unfold Oper.wp
  simp [execOp, hop, go_sem, he, hc]
  exact hk
theorem op_ix1 {a : Act} {w : World} {K : Act → World → Prop} {Q : Exit → Act → World → Prop} {o : Oper} {s b cap : Nat} (hop : o.op = Op.indexAddr 27 (Operand.tmp s) (Operand.const (.int .i64 1))) (he : a.tmps[s]?.getD undef = .slice (some ⟨b, 0, none⟩) 3 cap) (hk : K (a.put o.dst (.pointer (some ⟨b, 1, none⟩))) w) : o.wp Tryz.prog a w K Q := by
  unfold Oper.wp
  simp [execOp, hop, go_sem, he]
  exact hk
def sp2Ops : Array Oper := #[
 ⟨some 16, .fieldAddr 31 (.tmp 4) 0, 0, "est.go:190", #[], none⟩,
 ⟨some 17, .fieldAddr 29 (.tmp 16) 2, 0, "est.go:190", #[eD 0], none⟩,
 ⟨some 18, .load 27 (.tmp 17), 27, "est.go:190", #[eD 1], none⟩,
 ⟨some 19, .indexAddr 27 (.tmp 18) (.const (.int .i64 1)), 0, "est.go:190", #[eD 2], none⟩,
 ⟨some 20, .load 22 (.tmp 19), 22, "est.go:190", #[eD 3], none⟩,
 ⟨some 21, .move (.tmp 0), 96, "est.go:190", #[], none⟩,
 ⟨some 22, .move (.tmp 2), 22, "est.go:190", #[], none⟩,
 ⟨some 23, .call ⟨.value (.func 109), #[.tmp 21, .tmp 22], #[96, 22]⟩, 22, "est.go:190", #[eD 5, eD 6], none⟩,
 ⟨some 24, .call ⟨.value (.func 118), #[.tmp 20, .tmp 23], #[22, 22]⟩, 111, "est.go:190", #[eD 4, eD 7, eC 7], none⟩,
 ⟨some 15, .move (.tmp 24), 111, "est.go:190", #[eD 8], none⟩,
 ⟨some 25, .extract (.tmp 15) 0, 22, "est.go:190", #[eD 9], none⟩,
 ⟨some 26, .extract (.tmp 15) 1, 4, "est.go:190", #[eD 9, ⟨12, .gcOnly .lateStores⟩], none⟩,
 ⟨some 7, .assign (.tmp 25), 22, "est.go:190", #[eD 10, eC 8, eP 0, eP 1, eP 2, eP 3, eP 4, eP 5, eP 6, eP 7, eP 8, eP 9, eP 10, ⟨11, .textOnly .lateStores⟩], none⟩,
 ⟨some 8, .assign (.tmp 26), 4, "est.go:190", #[eD 11, eC 12, eP 0, eP 1, eP 2, eP 3, eP 4, eP 5, eP 6, eP 7, eP 8, eP 9, eP 10, eP 11, eP 12], none⟩]
def sp2Dst (i : Nat) : Nat := [16, 17, 18, 19, 20, 21, 22, 23, 24, 15, 25, 26, 7, 8].getD i 0
def sp2Fr (W : Nat) (D4 : Nat) (x : Int) (u1 u3 u5 u6 u9 u10 u11 u12 u13 u14 u27 u28 u29 u30 u31 u32 u33 u34 u35 : Value) (vs : Nat → Value) : Act := ⟨#[.pointer (some ⟨W, 0, none⟩), u1, .int .i64 x, u3, .pointer (some ⟨D4, 0, none⟩), u5, u6, vs 7, vs 8, u9, u10, u11, u12, u13, u14, vs 15, vs 16, vs 17, vs 18, vs 19, vs 20, vs 21, vs 22, vs 23, vs 24, vs 25, vs 26, u27, u28, u29, u30, u31, u32, u33, u34, u35], []⟩
def sp2T (W : Nat) (D4 : Nat) (g : Nat) (cap : Nat) (x : Int) (y : Int) (z : Int) (u : Int) (m : Bool) : Nat → Value → Value → (Nat → Prop) → World → Prop
  | 0, v, _, _, _ => v = .pointer (some ⟨D4, 0, none⟩)
  | 1, v, _, _, _ => v = .pointer (some ⟨D4, 2, none⟩)
  | 2, v, _, _, _ => v = .slice (some ⟨g, 0, none⟩) 3 cap
  | 3, v, _, _, _ => v = .pointer (some ⟨g, 1, none⟩)
  | 4, v, _, _, _ => v = .int .i64 y
  | 5, v, _, _, _ => v = .pointer (some ⟨W, 0, none⟩)
  | 6, v, _, _, _ => v = .int .i64 x
  | 7, v, _, _, _ => v = .int .i64 z
  | 8, v, _, _, _ => v = .tuple #[.int .i64 u, .bool m]
  | 9, v, _, _, _ => v = .tuple #[.int .i64 u, .bool m]
  | 10, v, _, _, _ => v = .int .i64 u
  | 11, v, _, _, _ => v = .bool m
  | 12, v, _, _, _ => v = .int .i64 u
  | 13, v, _, _, _ => v = .bool m
  | _, _, _, _, _ => True
set_option maxRecDepth 40000 in
set_option maxHeartbeats 1600000 in
theorem sp2_region {Q : Exit → Act → World → Prop} {w0 : World} {W : Nat} {D4 : Nat} {g : Nat} {cap : Nat} {x : Int} {y : Int} {z : Int} {u : Int} {m : Bool} {J : Bool → World → Prop} {u1 u3 u5 u6 u9 u10 u11 u12 u13 u14 u27 u28 u29 u30 u31 u32 u33 u34 u35 : Value}
    (hsh : ∀ k, k = W → k < w0.heap.size) (hJ0 : J false w0.drew) (hJs : ∀ b w w', J b w → Mod (fun q => w0.heap.size ≤ q) w w' → J b w')
    (l2 : ∀ w, Mod (fun k => k = W) w0 w → w.cell? ⟨D4, 2, none⟩ = some (.slice (some ⟨g, 0, none⟩) 3 cap)) (l1 : ∀ w, Mod (fun k => k = W) w0 w → w.cell? ⟨g, 1, none⟩ = some (.int .i64 y))
    (hc : ∀ w, J false w → Calls Tryz.prog 109 #[.pointer (some ⟨W, 0, none⟩), .int .i64 x] w fun e b => e = .returned (.int .i64 z) ∧ J true b ∧ Mod (fun b => b = W) w b)
    (ha : ∀ w, Calls Tryz.prog 118 #[.int .i64 y, .int .i64 z] w fun e b => e = .returned (.tuple #[.int .i64 u, .bool m]) ∧ Below w.heap.size w b)
    (hQ : ∀ vs  w, Mod (fun k => k = W) w0 w → J true w → vs 7 = .int .i64 u → vs 8 = .bool m → Q .normal (sp2Fr W D4 x u1 u3 u5 u6 u9 u10 u11 u12 u13 u14 u27 u28 u29 u30 u31 u32 u33 u34 u35 vs) w) :
    (Code.region 2 sp2Ops true).wp Tryz.prog Q (sp2Fr W D4 x u1 u3 u5 u6 u9 u10 u11 u12 u13 u14 u27 u28 u29 u30 u31 u32 u33 u34 u35 (fun _ => undef)) w0 := by
  refine wp_region_sh (by kernel_rfl) (by decide) sp2Dst (by decide) (sp2Fr W D4 x u1 u3 u5 u6 u9 u10 u11 u12 u13 u14 u27 u28 u29 u30 u31 u32 u33 u34 u35) (fun _ => undef) (fun i => i) (by decide) (fun k => k = W) hsh (fun L w => J (L 7) w) hJ0
    (fun _ _ => False) (fun s j h => h.elim) (fun s s2 j h => h.elim) (sp2T W D4 g cap x y z u m) ?_ ?_ ?_
  · intro i v u S w w' hi h hw hw' hz hS
    have hi' : i < 14 := hi
    rcases (by omega : i = 0 ∨ i = 1 ∨ i = 2 ∨ i = 3 ∨ i = 4 ∨ i = 5 ∨ i = 6 ∨ i = 7 ∨ i = 8 ∨ i = 9 ∨ i = 10 ∨ i = 11 ∨ i = 12 ∨ i = 13) with rfl | rfl | rfl | rfl | rfl | rfl | rfl | rfl | rfl | rfl | rfl | rfl | rfl | rfl
    · exact h
    · exact h
    · exact h
    · exact h
    · exact h
    · exact h
    · exact h
    · exact h
    · exact h
    · exact h
    · exact h
    · exact h
    · exact h
    · exact h
  · intro i hi L vs w S hb hI hL hpr hsu hp hbd hkl _
    have hi' : i < 14 := hi
    rcases (by omega : i = 0 ∨ i = 1 ∨ i = 2 ∨ i = 3 ∨ i = 4 ∨ i = 5 ∨ i = 6 ∨ i = 7 ∨ i = 8 ∨ i = 9 ∨ i = 10 ∨ i = 11 ∨ i = 12 ∨ i = 13) with rfl | rfl | rfl | rfl | rfl | rfl | rfl | rfl | rfl | rfl | rfl | rfl | rfl | rfl
    · exact wpOp_of _ rfl rfl (op_fieldT (i := 0) (by decide) rfl rfl ⟨_, fun _ => False, rfl, rfl, fun _ h => h.elim, fun h => h.elim fun _ h9 => h9.elim, Mod.refl _ _, hI⟩)
    · have h0 : vs 16 = .pointer (some ⟨D4, 0, none⟩) := hp 0 (by decide) (fun _ h9 => h9.elim)
      exact wpOp_of _ rfl rfl (op_fieldM2 rfl h0 ⟨_, fun _ => False, rfl, rfl, fun _ h => h.elim, fun h => h.elim fun _ h9 => h9.elim, Mod.refl _ _, hI⟩)
    · have h1 : vs 17 = .pointer (some ⟨D4, 2, none⟩) := hp 1 (by decide) (fun _ h9 => h9.elim)
      exact wpOp_of _ rfl rfl (op_ldQs rfl h1 (l2 w hb) ⟨_, fun _ => False, rfl, rfl, fun _ h => h.elim, fun h => h.elim fun _ h9 => h9.elim, Mod.refl _ _, hI⟩)
    · have h2 : vs 18 = .slice (some ⟨g, 0, none⟩) 3 cap := hp 2 (by decide) (fun _ h9 => h9.elim)
      exact wpOp_of _ rfl rfl (op_ix1 rfl h2 ⟨_, fun _ => False, rfl, rfl, fun _ h => h.elim, fun h => h.elim fun _ h9 => h9.elim, Mod.refl _ _, hI⟩)
    · have h3 : vs 19 = .pointer (some ⟨g, 1, none⟩) := hp 3 (by decide) (fun _ h9 => h9.elim)
      exact wpOp_of _ rfl rfl (op_ldQ rfl h3 (l1 w hb) ⟨_, fun _ => False, rfl, rfl, fun _ h => h.elim, fun h => h.elim fun _ h9 => h9.elim, Mod.refl _ _, hI⟩)
    · exact wpOp_of _ rfl rfl (op_move rfl rfl ⟨_, fun _ => False, rfl, rfl, fun _ h => h.elim, fun h => h.elim fun _ h9 => h9.elim, Mod.refl _ _, hI⟩)
    · exact wpOp_of _ rfl rfl (op_move rfl rfl ⟨_, fun _ => False, rfl, rfl, fun _ h => h.elim, fun h => h.elim fun _ h9 => h9.elim, Mod.refl _ _, hI⟩)
    · have h5 : vs 21 = .pointer (some ⟨W, 0, none⟩) := hp 5 (by decide) (fun _ h9 => h9.elim)
      have h6 : vs 22 = .int .i64 x := hp 6 (by decide) (fun _ h9 => h9.elim)
      have hJ : J false w := by
        have h : J (L 7) w := hI
        rw [hL] at h; exact h
      exact wpOp_of _ rfl rfl (op_call_tt enters_inStep rfl h5 h6 (hc w hJ) (by rintro e b ⟨rfl, j', m'⟩; exact ⟨_, rfl, _, fun _ => False, rfl, rfl, fun _ h => h.elim, fun h => h.elim fun _ h9 => h9.elim, m'.mono fun q _ hq => .inl hq, j'⟩))
    · have h4 : vs 20 = .int .i64 y := hp 4 (by decide) (fun _ h9 => h9.elim)
      have h7 : vs 23 = .int .i64 z := hp 7 (by decide) (fun _ h9 => h9.elim)
      exact wpOp_of _ rfl rfl (op_call_tt enters_add rfl h4 h7 (ha w) (by rintro e b ⟨rfl, b'⟩; exact ⟨_, rfl, _, fun _ => False, rfl, rfl, fun _ h => h.elim, fun h => h.elim fun _ h9 => h9.elim, Mod.of b', (hJs _ _ _ hI (Mod.of b'))⟩))
    · have h8 : vs 24 = .tuple #[.int .i64 u, .bool m] := hp 8 (by decide) (fun _ h9 => h9.elim)
      exact wpOp_of _ rfl rfl (op_move rfl h8 ⟨_, fun _ => False, rfl, rfl, fun _ h => h.elim, fun h => h.elim fun _ h9 => h9.elim, Mod.refl _ _, hI⟩)
    · have h9 : vs 15 = .tuple #[.int .i64 u, .bool m] := hp 9 (by decide) (fun _ h9 => h9.elim)
      exact wpOp_of _ rfl rfl (op_extract rfl h9 rfl ⟨_, fun _ => False, rfl, rfl, fun _ h => h.elim, fun h => h.elim fun _ h9 => h9.elim, Mod.refl _ _, hI⟩)
    · have h9 : vs 15 = .tuple #[.int .i64 u, .bool m] := hp 9 (by decide) (fun _ h9 => h9.elim)
      exact wpOp_of _ rfl rfl (op_extract rfl h9 rfl ⟨_, fun _ => False, rfl, rfl, fun _ h => h.elim, fun h => h.elim fun _ h9 => h9.elim, Mod.refl _ _, hI⟩)
    · have h10 : vs 25 = .int .i64 u := hp 10 (by decide) (fun _ h9 => h9.elim)
      exact wpOp_of _ rfl rfl (op_assign rfl h10 ⟨_, fun _ => False, rfl, rfl, fun _ h => h.elim, fun h => h.elim fun _ h9 => h9.elim, Mod.refl _ _, hI⟩)
    · have h11 : vs 26 = .bool m := hp 11 (by decide) (fun _ h9 => h9.elim)
      exact wpOp_of _ rfl rfl (op_assign rfl h11 ⟨_, fun _ => False, rfl, rfl, fun _ h => h.elim, fun h => h.elim fun _ h9 => h9.elim, Mod.refl _ _, hI⟩)
  · intro vs w S L hall hI hb hSz hT
    have hIe : J true w := by
      have hI' : J (L 7) w := hI
      rw [hall 7 (by decide)] at hI'
      exact hI'
    exact hQ vs  w hb hIe (hT 12 (by decide) (fun s h => h)) (hT 13 (by decide) (fun s h => h))
end Go.Proofs.YtoefekkdjcflmaaGreatDoor.Et

