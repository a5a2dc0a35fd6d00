/-
  The walk of DeltaTells.
-/
import Derived.Test.YtehlibeedieclaaDU
import Derived.Test.YtehlibeedieclaaDO
namespace Go.Proofs.Ytehlibeedieclaa.Gr
open Go.RowKit Go.Sort Dm
set_option linter.unusedVariables false

theorem both_diff (va vb' : Value) (b n : List Int) (w : World) (sa : SeesI w va b) (sb : SeesI w vb' n) : ∃ (E : Int) (X : List Int), X.length ≤ 1000 ∧
    (∀ u, Below w.heap.size w u → Calls Try.prog 10 #[va, vb'] u fun e w' => ∃ v, e = .returned (.tuple #[v, .int .i64 E]) ∧ SeesI w' v X ∧ Below u.heap.size u w') ∧
    (∀ u, Below w.heap.size w u → Calls Try.prog 11 #[va, vb'] u fun e w' => ∃ v, e = .returned (.tuple #[v, .int .i64 E]) ∧ SeesI w' v X ∧ Below u.heap.size u w') := by
  by_cases hl : b.length = n.length
  · by_cases h6 : n.length ≤ 600
    · refine ⟨0, diffS b n, ?_, fun u h => ?_, fun u h => rdiff_yes va vb' b n u hl h6 (sa.below h) (sb.below h)⟩
      · rw [diffS_len]
        have := otherS_le b n n.length
        have : upS n.length ≤ 10 := by unfold upS; omega
        omega
      · refine (diff_yes va vb' b n u hl h6 (sa.below h) (sb.below h)).mono ?_
        rintro e w' ⟨v, rfl, ho, bb⟩
        exact ⟨v, rfl, Row.own ho, bb⟩
    · obtain ⟨ao, cap, rfl⟩ := sa.slice
      obtain ⟨bo, bcap, rfl⟩ := sb.slice
      rw [hl]
      refine ⟨5, [], by simp, fun u h => ?_, fun u h => ?_⟩
      · refine (diff_big ao bo _ cap bcap (by omega) u).mono ?_
        rintro e w' ⟨rfl, bb⟩
        exact ⟨_, rfl, Row.nil _, bb⟩
      · refine (rdiff_big ao bo _ cap bcap (by omega) u).mono ?_
        rintro e w' ⟨rfl, bb⟩
        exact ⟨_, rfl, Row.nil _, bb⟩
  · obtain ⟨ao, cap, rfl⟩ := sa.slice
    obtain ⟨bo, bcap, rfl⟩ := sb.slice
    refine ⟨9, [], by simp, fun u h => ?_, fun u h => ?_⟩
    · refine (diff_size ao bo _ _ cap bcap hl u).mono ?_
      rintro e w' ⟨rfl, bb⟩
      exact ⟨_, rfl, Row.nil _, bb⟩
    · refine (rdiff_size ao bo _ _ cap bcap hl u).mono ?_
      rintro e w' ⟨rfl, bb⟩
      exact ⟨_, rfl, Row.nil _, bb⟩
theorem both_apply (va vb' : Value) (b d : List Int) (w : World) (hd : d.length ≤ 1500) (hr : ∀ x ∈ d, -9223372036854775808 ≤ x ∧ x ≤ 9223372036854775807) (sa : SeesI w va b) (sb : SeesI w vb' d) : ∃ (E : Int) (X : List Int), X.length ≤ 1000 ∧
    (∀ u, Below w.heap.size w u → Calls Try.prog 12 #[va, vb'] u fun e w' => ∃ v, e = .returned (.tuple #[v, .int .i64 E]) ∧ SeesI w' v X ∧ Below u.heap.size u w') ∧
    (∀ u, Below w.heap.size w u → Calls Try.prog 13 #[va, vb'] u fun e w' => ∃ v, e = .returned (.tuple #[v, .int .i64 E]) ∧ SeesI w' v X ∧ Below u.heap.size u w') := by
  by_cases h6 : b.length ≤ 600
  · by_cases hU : upS b.length ≤ d.length
    · have hB := fun r (h : docR b d = some r) => docR_forth hU hr h
      have cA := fun (u : World) (h : Below w.heap.size w u) => apply_yes va vb' b d u h6 hU (by omega) (sa.below h) (sb.below h)
      have cR := fun (u : World) (h : Below w.heap.size w u) => rapply_yes va vb' b d u h6 hU hd (sa.below h) (sb.below h)
      cases hR : docR b d with
      | some r =>
        obtain ⟨hl, he⟩ := hB r hR
        have hrow : rowOf b d = r := by rw [← he, rowOf_diff hl]
        refine ⟨0, r, by omega, fun u h => ?_, fun u h => ?_⟩
        · refine (cA u h).mono ?_
          rintro e w' ⟨h1, _, bb⟩
          rw [hrow] at h1
          obtain ⟨v, rfl, s⟩ := h1 he
          exact ⟨v, rfl, s, bb⟩
        · refine (cR u h).mono ?_
          rintro e w' ⟨h1, _, bb⟩
          obtain ⟨v, rfl, s⟩ := h1 r hR
          exact ⟨v, rfl, s, bb⟩
      | none =>
        have hne : ¬ diffS b (rowOf b d) = d := by
          intro h
          have := docR_back (base := b) (r := rowOf b d) (rowOf_len b d)
          rw [h, hR] at this
          cases this
        refine ⟨2, [], by simp, fun u h => ?_, fun u h => ?_⟩
        · refine (cA u h).mono ?_
          rintro e w' ⟨_, h2, bb⟩
          obtain rfl := h2 hne
          exact ⟨_, rfl, Row.nil _, bb⟩
        · refine (cR u h).mono ?_
          rintro e w' ⟨_, h2, bb⟩
          obtain rfl := h2 hR
          exact ⟨_, rfl, Row.nil _, bb⟩
    · obtain ⟨ao, cap, rfl⟩ := sa.slice
      obtain ⟨bo, bcap, rfl⟩ := sb.slice
      refine ⟨4, [], by simp, fun u h => ?_, fun u h => ?_⟩
      · refine (apply_more ao bo _ _ cap bcap h6 (by omega) u).mono ?_
        rintro e w' ⟨rfl, bb⟩
        exact ⟨_, rfl, Row.nil _, bb⟩
      · refine (rapply_more ao bo _ _ cap bcap h6 (by omega) u).mono ?_
        rintro e w' ⟨rfl, bb⟩
        exact ⟨_, rfl, Row.nil _, bb⟩
  · obtain ⟨ao, cap, rfl⟩ := sa.slice
    obtain ⟨bo, bcap, rfl⟩ := sb.slice
    refine ⟨5, [], by simp, fun u h => ?_, fun u h => ?_⟩
    · refine (apply_big ao bo _ _ cap bcap (by omega) u).mono ?_
      rintro e w' ⟨rfl, bb⟩
      exact ⟨_, rfl, Row.nil _, bb⟩
    · refine (rapply_big ao bo _ _ cap bcap (by omega) u).mono ?_
      rintro e w' ⟨rfl, bb⟩
      exact ⟨_, rfl, Row.nil _, bb⟩
set_option maxRecDepth 20000 in
set_option maxHeartbeats 2000000 in
theorem deltaTells_walk (va : Value) (a : List Int) (vb' : Value) (b : List Int) (vd : Value) (d : List Int) (w : World) (sa : SeesI w va a) (la : a.length ≤ 100000000000000) (ra : ∀ x ∈ a, -9223372036854775808 ≤ x ∧ x ≤ 9223372036854775807)
    (sb : SeesI w vb' b) (lb : b.length ≤ 100000000000000) (rb : ∀ x ∈ b, -9223372036854775808 ≤ x ∧ x ≤ 9223372036854775807) (sd : SeesI w vd d) (ld : d.length ≤ 100000000000000) (rd : ∀ x ∈ d, -9223372036854775808 ≤ x ∧ x ≤ 9223372036854775807) :
    Calls Try.prog 3 #[va, vb', vd] w fun e w' => e = .returned (.bool true) ∧ Below w.heap.size w w' := by
  clear ra rb
  by_cases h15 : a.length + b.length + d.length ≤ 1500
  · obtain ⟨E, X, hX, cX, rX⟩ := both_diff va vb' a b w sa sb
    obtain ⟨G, Y, hY, cY, rY⟩ := both_apply va vd a d w (by omega) rd sa sd
    have cE := fun (u : World) (v v' : Value) (s : SeesI u v X) (s' : SeesI u v' X) => ints_any v v' X X u (by omega) (by omega) s s'
    have cF := fun (u : World) (v v' : Value) (s : SeesI u v Y) (s' : SeesI u v' Y) => ints_any v v' Y Y u (by omega) (by omega) s s'
    rw [decide_eq_true rfl] at cE cF
    obtain ⟨ao, cap, rfl⟩ := sa.slice
    obtain ⟨bo, bcap, rfl⟩ := sb.slice
    obtain ⟨d0, dcap, rfl⟩ := sd.slice
    clear rd
    have e1 : decide ((1500 : Int) < (a.length : Int) + (b.length : Int) + (d.length : Int)) = false := by simp; omega
    go_enter Try.func3, Try.ntmps3
    go_wp2_with (first
      | (go_at_call 9; refine (shown9 _).mono ?_; rintro e w1 ⟨rfl, b1⟩)
      | (go_at_call 10; go_must (refine (cX _ b1).mono ?_); rintro e w2 ⟨v2, rfl, s2, b2⟩; have bb2 := bt b1 b2)
      | (go_at_call 11; go_must (refine (rX _ bb2).mono ?_); rintro e w3 ⟨v3, rfl, s3, b3⟩; have bb3 := bt bb2 b3)
      | (go_at_call 12; go_must (refine (cY _ bb3).mono ?_); rintro e w4 ⟨v4, rfl, s4, b4⟩; have bb4 := bt bb3 b4)
      | (go_at_call 13; go_must (refine (rY _ bb4).mono ?_); rintro e w5 ⟨v5, rfl, s5, b5⟩; have bb5 := bt bb4 b5)
      | (have _ := b6; go_at_call 14; go_must (refine (cF _ _ _ (s4.below (bt b5 b6)) (s5.below b6)).mono ?_); rintro e w7 ⟨rfl, b7⟩)
      | (go_at_call 14; go_must (refine (cE _ _ _ (s2.below (bt (bt b3 b4) b5)) (s3.below (bt b4 b5))).mono ?_); rintro e w6 ⟨rfl, b6⟩))
    go_ret
    exact ⟨rfl, bt bb5 (bt b6 b7)⟩
  · obtain ⟨ao, cap, rfl⟩ := sa.slice
    obtain ⟨bo, bcap, rfl⟩ := sb.slice
    obtain ⟨d0, dcap, rfl⟩ := sd.slice
    have e1 : decide ((1500 : Int) < (a.length : Int) + (b.length : Int) + (d.length : Int)) = true := by simp; omega
    clear h15
    go_enter Try.func3, Try.ntmps3
    go_wp2_with (go_at_call 9; refine (shown9 _).mono ?_; rintro e w1 ⟨rfl, b1⟩)
    go_ret
    exact ⟨rfl, b1⟩
end Go.Proofs.Ytehlibeedieclaa.Gr
