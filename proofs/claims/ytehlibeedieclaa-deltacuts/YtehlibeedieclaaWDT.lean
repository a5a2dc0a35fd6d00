/-
  The walk of DeltaThere.
-/
import Derived.Test.YtehlibeedieclaaDP
import Derived.Test.YtehlibeedieclaaDO
namespace Go.Proofs.Ytehlibeedieclaa.Gr
open Go.RowKit Go.Sort Dm
set_option linter.unusedVariables false

theorem diffS_small {b r : List Int} (hN : r.length ≤ 600) : (diffS b r).length ≤ 620 := by
  rw [diffS_len]
  have := otherS_le b r r.length
  have : upS r.length ≤ 10 := by unfold upS; omega
  omega
theorem apply_back (va vd : Value) (base r : List Int) (u : World) (hl : r.length = base.length) (hN : base.length ≤ 600) (sa : SeesI u va base) (sd : SeesI u vd (diffS base r)) :
    Calls Try.prog 12 #[va, vd] u fun e w' => ∃ v, e = .returned (.tuple #[v, .int .i64 0]) ∧ SeesI w' v r ∧ Below u.heap.size u w' := by
  have h := diffS_small (b := base) (r := r) (by omega)
  have hU : upS base.length ≤ (diffS base r).length := by rw [diffS_len, hl]; omega
  refine (apply_yes va vd base (diffS base r) u hN hU (by omega) sa sd).mono ?_
  rintro e w' ⟨h1, _, b⟩
  rw [rowOf_diff hl] at h1
  obtain ⟨v, rfl, s⟩ := h1 rfl
  exact ⟨v, rfl, s, b⟩
set_option maxRecDepth 20000 in
set_option maxHeartbeats 2000000 in
theorem deltaThere_walk (va : Value) (a : List Int) (vb' : Value) (b : List Int) (w : World) (sa : SeesI w va a) (la : a.length ≤ 100000000000000) (ra : ∀ x ∈ a, -9223372036854775808 ≤ x ∧ x ≤ 9223372036854775807)
    (sb : SeesI w vb' b) (lb : b.length ≤ 100000000000000) (rb : ∀ x ∈ b, -9223372036854775808 ≤ x ∧ x ≤ 9223372036854775807) :
    Calls Try.prog 7 #[va, vb'] w fun e w' => e = .returned (.bool true) ∧ Below w.heap.size w w' := by
  clear ra rb
  by_cases h : a.length = b.length ∧ a.length ≤ 600
  · obtain ⟨hl, h6⟩ := h
    have cX := fun (u : World) (h : Below w.heap.size w u) => diff_yes va vb' a b u hl (by omega) (sa.below h) (sb.below h)
    have cY := fun (u : World) (h : Below w.heap.size w u) => diff_yes vb' va b a u hl.symm (by omega) (sb.below h) (sa.below h)
    have cC := fun (u : World) (h : Below w.heap.size w u) (v : Value) (sv : SeesI u v (diffS a b)) => apply_back va v a b u hl.symm h6 (sa.below h) sv
    have cB := fun (u : World) (vc v : Value) (sc : SeesI u vc b) (sv : SeesI u v (diffS b a)) => apply_back vc v b a u hl (by omega) sc sv
    have cE := fun (u : World) (h : Below w.heap.size w u) (v : Value) (sv : SeesI u v b) => ints_any v vb' b b u (by omega) (by omega) sv (sb.below h)
    have cF := fun (u : World) (h : Below w.heap.size w u) (v : Value) (sv : SeesI u v a) => ints_any v va a a u (by omega) (by omega) sv (sa.below h)
    rw [decide_eq_true rfl] at cE cF
    have hs := diff_swap hl
    rw [hs] at cX
    generalize (diffS b a).length = L at cX cY
    generalize diffS a b = X at *
    generalize diffS b a = Y at *
    obtain ⟨ao, cap, rfl⟩ := sa.slice
    obtain ⟨bo, bcap, rfl⟩ := sb.slice
    have e1 : decide ((600 : Int) < (b.length : Int)) = false := by simp; omega
    rw [hl] at *
    clear hl hs
    generalize b.length = N at *
    go_enter Try.func7, Try.ntmps7
    go_wp2_with (first
      | (go_at_call 9; refine (shown9 _).mono ?_; rintro e w1 ⟨rfl, b1⟩)
      | (have _ := b2; go_at_call 10; go_must (refine (cY _ bb2).mono ?_); rintro e w3 ⟨v3, rfl, ho3, b3⟩; have bb3 := bt bb2 b3; obtain ⟨g3, c3, rfl⟩ := own_any ho3; have s3 : SeesI w3 _ Y := Row.own ho3; have s2' := s2.below b3)
      | (go_at_call 10; go_must (refine (cX _ b1).mono ?_); rintro e w2 ⟨v2, rfl, ho2, b2⟩; have bb2 := bt b1 b2; obtain ⟨g2, c2, rfl⟩ := own_any ho2; have s2 : SeesI w2 _ X := Row.own ho2)
      | (have _ := b4; go_at_call 12; go_must (refine (cB _ _ _ s4 (s3.below b4)).mono ?_); rintro e w5 ⟨v5, rfl, s5, b5⟩; have bb5 := bt bb4 b5; have s4' := s4.below b5)
      | (go_at_call 12; go_must (refine (cC _ bb3 _ s2').mono ?_); rintro e w4 ⟨v4, rfl, s4, b4⟩; have bb4 := bt bb3 b4)
      | (have _ := b6; go_at_call 14; go_must (refine (cF _ bb6 _ (s5.below b6)).mono ?_); rintro e w7 ⟨rfl, b7⟩)
      | (go_at_call 14; go_must (refine (cE _ bb5 _ s4').mono ?_); rintro e w6 ⟨rfl, b6⟩; have bb6 := bt bb5 b6))
    go_ret
    exact ⟨rfl, bt bb6 b7⟩
  · obtain ⟨ao, cap, rfl⟩ := sa.slice
    obtain ⟨bo, bcap, rfl⟩ := sb.slice
    by_cases hl : a.length = b.length
    · have e1 : decide ((600 : Int) < (a.length : Int)) = true := by simp; omega
      have e2 : ((a.length : Int) != (b.length : Int)) = false := by simp; omega
      rw [← hl] at sb ⊢
      rw [← hl] at e2
      clear hl h
      go_enter Try.func7, Try.ntmps7
      go_wp2_with (go_at_call 9; refine (shown9 _).mono ?_; rintro e w1 ⟨rfl, b1⟩)
      go_ret
      exact ⟨rfl, b1⟩
    · have e1 : ((a.length : Int) != (b.length : Int)) = true := by simp; omega
      have e2 : ¬ ((a.length : Int) = (b.length : Int)) := by omega
      clear h
      go_enter Try.func7, Try.ntmps7
      go_wp2_with (go_at_call 9; refine (shown9 _).mono ?_; rintro e w1 ⟨rfl, b1⟩)
      go_ret
      exact ⟨rfl, b1⟩
end Go.Proofs.Ytehlibeedieclaa.Gr
