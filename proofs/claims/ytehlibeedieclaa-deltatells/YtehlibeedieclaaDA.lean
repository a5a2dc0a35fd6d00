/-
  The code's Apply.
-/
import Derived.Test.YtehlibeedieclaaDT
namespace Go.Proofs.Ytehlibeedieclaa.Gr
open Go.RowKit Go.Sort Dm
set_option linter.unusedVariables false

set_option maxRecDepth 20000 in
set_option maxHeartbeats 400000 in
theorem apply_big (ao bo : Option Addr) (n m c d : Nat) (h : 600 < n) (w : World) :
    Calls Try.prog 12 #[.slice ao n c, .slice bo m d] w fun e w' => e = .returned (.tuple #[.slice none 0 0, .int .i64 5]) ∧ Below w.heap.size w w' := by
  have h1 : (600 : Int) < (n : Int) := by omega
  have h2 : decide ((600 : Int) < (n : Int)) = true := decide_eq_true h1
  go_enter Try.func12, Try.ntmps12
  go_wp2
  go_ret2
  exact ⟨rfl, Below.refl _ _⟩
set_option maxRecDepth 20000 in
set_option maxHeartbeats 400000 in
theorem apply_more (ao bo : Option Addr) (n m c d : Nat) (h : n ≤ 600) (h' : m < upS n) (w : World) :
    Calls Try.prog 12 #[.slice ao n c, .slice bo m d] w fun e w' => e = .returned (.tuple #[.slice none 0 0, .int .i64 4]) ∧ Below w.heap.size w w' := by
  have h2 : decide ((600 : Int) < (n : Int)) = false := decide_eq_false (by omega)
  have cU := fun (u : World) => upTo_any n 60 (by omega) (by omega) (Or.inl rfl) u
  rw [piS_60] at cU
  generalize upS n = U at cU h'
  have h3 : decide ((m : Int) < (U : Int)) = true := by simp; omega
  go_enter Try.func12, Try.ntmps12
  go_wp2_with (go_at_call 18; refine (cU _).mono ?_; rintro e w1 ⟨rfl, b1⟩)
  go_ret2
  exact ⟨rfl, b1⟩
/-- the row that a delta tells, right or not -/
def rowOf (base d : List Int) : List Int := toldS (bitM (d.take (upS base.length))) base (d.drop (upS base.length)) base.length
theorem rowOf_len (base d : List Int) : (rowOf base d).length = base.length := toldS_len _ _ _ _
set_option maxRecDepth 20000 in
set_option maxHeartbeats 2000000 in
theorem apply_yes (va vb' : Value) (base d : List Int) (w : World) (hN : base.length ≤ 600) (hU : upS base.length ≤ d.length) (hd : d.length ≤ 100000000000000) (sa : SeesI w va base) (sb : SeesI w vb' d) :
    Calls Try.prog 12 #[va, vb'] w fun e w' =>
      (diffS base (rowOf base d) = d → ∃ v, e = .returned (.tuple #[v, .int .i64 0]) ∧ SeesI w' v (rowOf base d)) ∧ (¬ diffS base (rowOf base d) = d → e = .returned (.tuple #[.slice none 0 0, .int .i64 2])) ∧ Below w.heap.size w w' := by
  obtain ⟨ao, cap, rfl⟩ := sa.slice
  obtain ⟨bo, bcap, rfl⟩ := sb.slice
  have hl10 : upS base.length ≤ 10 := by unfold upS; omega
  have cT := fun (u : World) (hb : Below w.heap.size w u) (m q : Value) (sm : SeesI u m (d.take (upS base.length))) (sq : SeesI u q (d.drop (upS base.length))) =>
    told_any (.slice ao base.length cap) m q base _ _ u hN (by rw [List.length_take]; omega) (by rw [List.length_take]; omega) (by rw [List.length_drop]; omega) (sa.below hb) sm sq
  have e0 : toldS (bitM (d.take (upS base.length))) base (d.drop (upS base.length)) base.length = rowOf base d := rfl
  rw [e0] at cT
  have hrl := rowOf_len base d
  have cD := fun (u : World) (hb : Below w.heap.size w u) (v : Value) (sv : SeesI u v (rowOf base d)) => diff_yes (.slice ao base.length cap) v base (rowOf base d) u hrl.symm (by rw [hrl]; exact hN) (sa.below hb) sv
  have hDl : (diffS base (rowOf base d)).length ≤ 100000 := by
    rw [diffS_len, hrl]
    have := otherS_le base (rowOf base d) base.length
    omega
  have cE := fun (u : World) (hb : Below w.heap.size w u) (v : Value) (sv : SeesI u v (diffS base (rowOf base d))) => equal_any v (.slice bo d.length bcap) _ d u hDl (by omega) sv (sb.below hb)
  have cU := fun (u : World) => upTo_any base.length 60 (by omega) (by omega) (Or.inl rfl) u
  rw [piS_60] at cU
  have s1 := fun (u : World) (hb : Below w.heap.size w u) => (sb.below hb).cut3 hU
  have s2 := fun (u : World) (hb : Below w.heap.size w u) => (sb.below hb).drop hU
  have hcb := sb.le.1
  generalize rowOf base d = R at *
  generalize diffS base R = D at *
  generalize upS base.length = U at *
  generalize d.drop U = d2 at *
  generalize d.take U = d1 at *
  obtain ⟨M, hM⟩ : ∃ M, d.length = M := ⟨_, rfl⟩
  obtain ⟨N, hN'⟩ : ∃ N, base.length = N := ⟨_, rfl⟩
  rw [hM] at hU hd s2 hcb cE sb ⊢
  rw [hN'] at hN cT cD cU sa ⊢
  have h2 : decide ((600 : Int) < (N : Int)) = false := decide_eq_false (by omega)
  have h3 : decide ((M : Int) < (U : Int)) = false := by simp; omega
  have HM : Hid (d.length = M ∧ base.length = N) := ⟨hM, hN'⟩
  clear hM hN' hrl e0
  go_enter Try.func12, Try.ntmps12
  go_wp2_with (go_at_call 18; refine (cU _).mono ?_; rintro e w1 ⟨rfl, b1⟩)
  have g1 : (U : Int) ≤ (M : Int) := by omega
  have g2 : (U : Int) ≤ (bcap : Int) := by omega
  have g3 : (0 : Int) ≤ (U : Int) := by omega
  go_still_tail 8, (by kernel_rfl)
  change wpList Try.prog _ _ _ _ w1.drew
  generalize (if bcap = U then bo else Option.map (fun x => x.add U) bo) = qo at s2 ⊢
  generalize M - U = V at s2 ⊢
  have bd : Below w.heap.size w w1.drew := b1.drew
  by_cases hDd : D = d
  · have d1' : decide (D = d) = true := decide_eq_true hDd
    rw [d1'] at cE
    have HR : Hid (D = d) := hDd
    clear hDd d1'
    go_wp2_with (first
      | (go_at_call 19; go_must (refine (cT _ bd _ _ (s1 _ bd) (s2 _ bd)).mono ?_); rintro e w2 ⟨v2, rfl, ho2, b2⟩; have bb2 := bt bd b2)
      | (go_at_call 10; go_must (refine (cD _ bb2 _ (Row.own ho2)).mono ?_); rintro e w3 ⟨v3, rfl, ho3, b3⟩; have bb3 := bt bb2 b3)
      | (go_at_call 20; go_must (refine (cE _ bb3 _ (Row.own ho3)).mono ?_); rintro e w4 ⟨rfl, b4⟩))
    go_ret2
    exact ⟨fun _ => ⟨_, rfl, (Row.own ho2).below (bt b3 b4)⟩, fun h => absurd HR.out h, bt bb3 b4⟩
  · have d1' : decide (D = d) = false := decide_eq_false hDd
    rw [d1'] at cE
    have HR : Hid (¬ D = d) := hDd
    clear hDd d1'
    go_wp2_with (first
      | (go_at_call 19; go_must (refine (cT _ bd _ _ (s1 _ bd) (s2 _ bd)).mono ?_); rintro e w2 ⟨v2, rfl, ho2, b2⟩; have bb2 := bt bd b2)
      | (go_at_call 10; go_must (refine (cD _ bb2 _ (Row.own ho2)).mono ?_); rintro e w3 ⟨v3, rfl, ho3, b3⟩; have bb3 := bt bb2 b3)
      | (go_at_call 20; go_must (refine (cE _ bb3 _ (Row.own ho3)).mono ?_); rintro e w4 ⟨rfl, b4⟩))
    go_ret2
    exact ⟨fun h => absurd h HR.out, fun _ => rfl, bt bb3 b4⟩
end Go.Proofs.Ytehlibeedieclaa.Gr
