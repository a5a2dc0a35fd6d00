/-
  The walk of FramePacks.
-/
import Derived.Test.YtnkghcbjokmooaaDoorFP3
namespace Go.Proofs.YtnkghcbjokmooaaDoor.Gr
open Go.RowKit Go.Sort Qm
set_option linter.unusedVariables false

theorem smV_cells (s : Sp) : (Value.agg (smV s)).cells = smV s := rfl
/-- the same as far as k -/
def smS (X Y : List Int) : Nat → Bool
  | 0 => true
  | k + 1 => smS X Y k && (X.getD k 0 == Y.getD k 0)
theorem smS_iff {X Y : List Int} : ∀ k, smS X Y k = true ↔ ∀ j, j < k → X.getD j 0 = Y.getD j 0
  | 0 => by simp [smS]
  | k + 1 => by
    unfold smS
    rw [Bool.and_eq_true, smS_iff k, beq_iff_eq]
    constructor
    · rintro ⟨h1, h2⟩ j hj
      by_cases e : j = k
      · subst e; exact h2
      · exact h1 j (by omega)
    · intro h
      exact ⟨fun j hj => h j (by omega), h k (by omega)⟩
theorem smS_all {X Y : List Int} (hx : X.length = 13) (hy : Y.length = 13) : smS X Y 13 = decide (X = Y) := by
  rw [Bool.eq_iff_iff, smS_iff, decide_eq_true_eq]
  constructor
  · intro h
    exact eqI_of_get (hx.trans hy.symm) (by rw [hx]; exact h)
  · rintro rfl j _; rfl
set_option maxRecDepth 20000 in
set_option maxHeartbeats 4000000 in
theorem framePacks_walk (s t : Sp) (w : World) (hG : Longs w) :
    Calls Tryd.prog 9 #[.agg (smV s), .agg (smV t)] w fun e w' => e = .returned (.bool true) ∧ Below w.heap.size w w' := by
  obtain ⟨W, hW⟩ : ∃ W, (w.alloc (.cells (smV s) 45)).alloc (.cells (smV t) 45) = W := ⟨_, rfl⟩
  have hS := heap_old (heap_new w (.cells (smV s) 45)) (.cells (smV t) 45)
  have hT := heap_new (w.alloc (.cells (smV s) 45)) (.cells (smV t) 45)
  rw [World.size_alloc] at hT
  obtain ⟨p, hp⟩ : ∃ p, w.heap.size = p := ⟨_, rfl⟩
  have bW := ball2' w (.cells (smV s) 45) (.cells (smV t) 45)
  rw [hW] at hS hT bW
  rw [hp] at hS hT
  have cS := shown8 W (hG.below bW)
  have HC : Hid (∀ u, Below W.heap.size W u → ∀ (j : Nat) (v : Value), (smL s)[j]? = some v → u.cell? ⟨p, j, none⟩ = some v) := fun u hu => sm_cells hS (lt_of_block hS) hu
  have HD : Hid (∀ u, Below W.heap.size W u → ∀ (j : Nat) (v : Value), (smL t)[j]? = some v → u.cell? ⟨p + 1, j, none⟩ = some v) := fun u hu => sm_cells hT (lt_of_block hT) hu
  have cP := fun u => pack_any s u
  have cQ := fun u => pack_any t u
  have g45 := guard45
  have hq := fun u => run_eqS u s t
  have HL : Hid ((packS s).length = 13 ∧ (packS t).length = 13) := ⟨rfl, rfl⟩
  obtain ⟨X, hX⟩ : ∃ X, packS s = X := ⟨_, rfl⟩
  obtain ⟨Y, hY⟩ : ∃ Y, packS t = Y := ⟨_, rfl⟩
  rw [hX] at cP hq HL
  rw [hY] at cQ hq HL
  obtain ⟨E, hE⟩ : ∃ E, decide (X = Y) = E := ⟨_, rfl⟩
  have HE : Hid (decide (X = Y) = E) := hE
  rw [hE] at hq
  clear hE hX hY hS hT hG
  obtain ⟨A, hA⟩ : ∃ A, smV s = A := ⟨_, rfl⟩
  obtain ⟨B, hB⟩ : ∃ B, smV t = B := ⟨_, rfl⟩
  have HA : Hid (smV s = A) := hA
  have HB : Hid (smV t = B) := hB
  rw [hA] at hW cP hq ⊢
  rw [hB] at hW cQ hq ⊢
  clear hA hB
  go_enter Tryd.func9, Tryd.ntmps9
  go_wp2_with (first
    | (go_at_call 10; refine cS.mono ?_; rintro e w1 ⟨rfl, b1⟩)
    | (have _ := b2; go_at_call 25; refine (cQ _).mono ?_; rintro e w3 ⟨g3, G3, rfl, s3, b3⟩)
    | (have _ := b2; refine wpList_ldS rfl _ rfl (p + 1) rfl t (HD.out _ (bt b1 b2)) ?_; rw [HB.out])
    | (have _ := b1; go_at_call 25; refine (cP _).mono ?_; rintro e w2 ⟨g2, G2, rfl, s2, b2⟩)
    | (have _ := b1; refine wpList_ldS rfl _ rfl p rfl s (HC.out _ b1) ?_; rw [HA.out]))
  have B13 := bt b1 (bt b2 b3)
  have s2' := s2.below b3
  have HSX : Hid (∀ u, Below w3.heap.size w3 u → ∀ k, k < 13 → u.cell? ⟨g2, k, none⟩ = some (.int .i64 (X.getD k 0)) ∧ u.cell? ⟨g3, k, none⟩ = some (.int .i64 (Y.getD k 0))) := fun u hu k hk => by
    obtain ⟨_, e1, l1, c1⟩ := s2'.at k (by rw [HL.out.1]; exact hk)
    obtain ⟨_, e2, l2, c2⟩ := s3.at k (by rw [HL.out.2]; exact hk)
    cases e1; cases e2
    have ha : ∀ g, (⟨g, 0, none⟩ : Addr).add k = ⟨g, k, none⟩ := fun g => by unfold Addr.add; split <;> simp_all
    rw [ha] at c1 c2
    exact ⟨(hu.cell (p := ⟨g2, k, none⟩) l1).trans c1, (hu.cell (p := ⟨g3, k, none⟩) l2).trans c2⟩
  have HM : Hid (smS X Y 13 = E) := (smS_all HL.out.1 HL.out.2).trans HE.out
  clear s2 s2' s3 cP cQ cS b1 b2 b3 hW hp
  go_loopw [8, 9] (fun sm i wr => ∃ k : Nat, k ≤ 13 ∧ i = .int .i64 k ∧ sm = .bool (smS X Y k) ∧ Below w3.heap.size w3 wr) (fun _ i _ => 13 - (intOf i).toNat)
  case atStart => exact ⟨0, by omega, rfl, rfl, Below.refl _ _⟩
  case round =>
    obtain ⟨k, hk, rfl, rfl, hbl⟩ := hrel
    by_cases hlt : k < 13
    · obtain ⟨ca, cb⟩ := HSX.out wr hbl k hlt
      have HS : Hid (smS X Y (k + 1) = (smS X Y k && (X.getD k 0 == Y.getD k 0))) := rfl
      have z0 : (0 : Int) ≤ (k : Int) := by omega
      have z1 : (k : Int) < 13 := by omega
      generalize X.getD k 0 = x at ca HS
      generalize Y.getD k 0 = y at cb HS
      cases hsm : smS X Y k with
      | true =>
        rw [hsm] at HS
        go_wp2
        go_quiet (fail)
        go_wp2
        go_roundw
        case rel => exact ⟨k + 1, by omega, by go_num, by rw [HS.out]; rfl, below_drewN hbl _⟩
        case measure => simp [intOf]; omega
      | false =>
        rw [hsm] at HS
        clear ca cb
        go_wp2
        go_quiet (fail)
        go_wp2
        go_roundw
        case rel => exact ⟨k + 1, by omega, by go_num, by rw [HS.out]; rfl, below_drewN hbl _⟩
        case measure => simp [intOf]; omega
    · obtain rfl : k = 13 := by omega
      rw [HM.out]
      have B3 := bt B13 hbl
      go_wp2_with (first
        | (refine wpList_ldSg rfl _ rfl (p + 1) rfl t (HD.out _ B3) ?_; rw [HB.out])
        | (refine wpList_ldSg rfl _ rfl p rfl s (HC.out _ B3) ?_; rw [HA.out]))
      go_ret
      exact ⟨by simp, bt bW B3⟩
end Go.Proofs.YtnkghcbjokmooaaDoor.Gr
