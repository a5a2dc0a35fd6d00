/-
  The walk of DeltaBack.
-/
import Derived.Test.YtehlibeedieclaaDK
import Derived.Test.YtehlibeedieclaaWDT
namespace Go.Proofs.Ytehlibeedieclaa.Gr
open Go.RowKit Go.Sort Dm
set_option linter.unusedVariables false

namespace Dm
theorem df_self (n : List Int) (i : Nat) : dfS n n i = false := by simp [dfS]
theorem mwS_false : ∀ k, mwS (fun _ => false) k = 0
  | 0 => rfl
  | k + 1 => by simp [mwS, mwS_false k]
theorem other_self (n : List Int) : ∀ i, otherS n n i = []
  | 0 => rfl
  | i + 1 => by simp [otherS, other_self n i, df_self]
theorem diff_self (n : List Int) : diffS n n = List.replicate (upS n.length) 0 := by
  unfold diffS
  rw [other_self, List.append_nil]
  apply List.ext_getElem
  · simp [maskS]
  · intro i h1 h2
    have e : (fun t => dfS n n (60 * i + t)) = fun _ => false := by funext t; exact df_self n _
    simp [maskS, e, mwS_false]
theorem pad_take (l : List Int) : (padS l).take l.length = l ∧ anyS ((padS l).drop l.length) = false := by
  rw [padS_eq]
  constructor
  · simp
  · rw [List.drop_append_of_le_length (by omega), List.drop_of_length_le (Nat.le_refl _), List.nil_append]
    unfold anyS
    rw [List.any_eq_false]
    intro x hx
    have := (List.mem_replicate.1 hx).2
    subst this
    decide
end Dm
theorem join_back (vp : Value) (l : List Int) (u : World) (hn : l.length ≤ 90000) (sp : SeesA u vp ((l.length + 7) / 8) (padS l)) :
    Calls Try.prog 16 #[vp, .int .i64 l.length] u fun e w' => ∃ v, e = .returned (.tuple #[v, .int .i64 0]) ∧ SeesI w' v l ∧ New u.heap.size v ∧ Below u.heap.size u w' := by
  obtain ⟨h1, h2⟩ := pad_take l
  refine (join_yes vp _ (padS l) l.length u hn rfl sp).mono ?_
  rintro e w' ⟨hy, _, b⟩
  rw [h1] at hy
  obtain ⟨v, rfl, s, hn⟩ := hy h2
  exact ⟨v, rfl, s, hn, b⟩
set_option maxRecDepth 20000 in
set_option maxHeartbeats 2000000 in
theorem deltaBack_walk (va : Value) (a : List Int) (vb' : Value) (b : List Int) (w : World) (sa : SeesI w va a) (la : a.length ≤ 100000000000000) (ra : ∀ x ∈ a, -9223372036854775808 ≤ x ∧ x ≤ 9223372036854775807)
    (sb : SeesI w vb' b) (lb : b.length ≤ 100000000000000) (rb : ∀ x ∈ b, -9223372036854775808 ≤ x ∧ x ≤ 9223372036854775807) :
    Calls Try.prog 4 #[va, vb'] w fun e w' => e = .returned (.bool true) ∧ Below w.heap.size w w' := by
  clear ra rb
  by_cases h : a.length = b.length ∧ a.length ≤ 600
  · obtain ⟨hl, h6⟩ := h
    have hDl := diffS_small (b := a) (r := b) (by omega)
    have cX := fun (u : World) (h : Below w.heap.size w u) => diff_yes va vb' a b u hl (by omega) (sa.below h) (sb.below h)
    have cY := fun (u : World) (h : Below w.heap.size w u) => diff_yes vb' vb' b b u rfl (by omega) (sb.below h) (sb.below h)
    rw [diff_self, List.length_replicate] at cY
    have cP := fun (u : World) (v : Value) (sv : SeesI u v (diffS a b)) => parts_any v (diffS a b) u (by omega) sv
    have cJ := fun (u : World) (v : Value) (sv : SeesA u v (((diffS a b).length + 7) / 8) (padS (diffS a b))) => join_back v (diffS a b) u (by omega) sv
    have cC := fun (u : World) (h : Below w.heap.size w u) (v : Value) (sv : SeesI u v (diffS a b)) => apply_back va v a b u hl.symm h6 (sa.below h) sv
    have cE := fun (u : World) (h : Below w.heap.size w u) (v : Value) (sv : SeesI u v b) => ints_any v vb' b b u (by omega) (by omega) sv (sb.below h)
    have cM := fun (u : World) => many_any (diffS a b).length (by omega) (by omega) u
    rw [piS_8] at cM
    rw [decide_eq_true rfl] at cE
    generalize padS (diffS a b) = P at *
    generalize ((diffS a b).length + 7) / 8 = Q at *
    obtain ⟨L, hL⟩ : ∃ L, (diffS a b).length = L := ⟨_, rfl⟩
    rw [hL] at cX cJ cM hDl
    generalize diffS a b = X at *
    obtain ⟨ao, cap, rfl⟩ := sa.slice
    obtain ⟨bo, bcap, rfl⟩ := sb.slice
    have e1 : decide ((600 : Int) < (b.length : Int)) = false := by simp; omega
    have hU : (b.length + 59) / 60 = upS b.length := rfl
    have hUb : upS b.length ≤ 11 := by omega
    rw [hl] at *
    have e2 : wrap64 ((b.length : Int) + 59) = (b.length : Int) + 59 := by unfold wrap64; omega
    have e3 : ((b.length : Int) + 59).tdiv 60 = (upS b.length : Int) := by rw [Int.tdiv_eq_ediv_of_nonneg (by omega)]; omega
    have hUd : upS b.length = ((b.length : Int) + 59).tdiv 60 := by rw [Int.tdiv_eq_ediv_of_nonneg (by omega)]; omega
    clear hl hU hL hUd
    generalize upS b.length = U at *
    have e4 : wrap64 (U : Int) = U := by unfold wrap64; omega
    have e5 := wrap_i (U : Int) (by omega) (by omega)
    generalize b.length = N at *
    go_enter Try.func4, Try.ntmps4
    go_wp2_with (first
      | (go_at_call 9; refine (shown9 _).mono ?_; rintro e w1 ⟨rfl, b1⟩)
      | (have _ := b5; go_at_call 10; go_must (refine (cY _ bb5).mono ?_); rintro e w6 ⟨v6, rfl, ho6, b6⟩; have bb6 := bt bb5 b6; obtain ⟨g6, c6, rfl⟩ := own_any ho6; have s5' := s5.below b6)
      | (go_at_call 10; go_must (refine (cX _ b1).mono ?_); rintro e w2 ⟨v2, rfl, ho2, b2⟩; have bb2 := bt b1 b2; obtain ⟨g2, c2, rfl⟩ := own_any ho2; have s2 : SeesI w2 _ X := Row.own ho2)
      | (go_at_call 15; go_must (refine (cP _ _ s2).mono ?_); rintro e w3 ⟨v3, rfl, ho3, b3⟩; have bb3 := bt bb2 b3; have s3 := SeesA.own ho3; obtain ⟨g3, c3, rfl⟩ := own_any ho3)
      | (go_at_call 16; go_must (refine (cJ _ _ s3).mono ?_); rintro e w4 ⟨v4, rfl, s4, n4, b4⟩; have bb4 := bt bb3 b4)
      | (go_at_call 12; go_must (refine (cC _ bb4 _ s4).mono ?_); rintro e w5 ⟨v5, rfl, s5, b5⟩; have bb5 := bt bb4 b5))
    have s6 : SeesI w6 (.slice g6 U c6) (List.replicate U 0) := Row.own ho6
    have hw6 : w.heap.size ≤ w6.heap.size := bb6.size
    clear ho6 ho3 ho2 s2 s3 s4 s5 b1 b2 b3 b4 b5 b6 bb2 bb3 bb4 bb5 cX cY cP cJ cC
    go_loopw [15] (fun i wr => ∃ k : Nat, k ≤ U ∧ i = .int .i64 k ∧ Below w6.heap.size w6 wr) (fun i _ => U - (intOf i).toNat)
    case atStart => exact ⟨0, Nat.zero_le _, rfl, Below.refl _ _⟩
    case round =>
      obtain ⟨k, hk, rfl, hbl⟩ := hrel
      by_cases hlt : k < U
      · obtain ⟨gd, rfl, lg, cg⟩ := s6.at k (by rw [List.length_replicate]; exact hlt)
        have cg' : wr.cell? (gd.add k) = some (.int .i64 0) := by
          rw [hbl.cell (by rw [add_block]; exact lg), cg, List.getD_eq_getElem?_getD, List.getElem?_replicate, if_pos hlt]
          rfl
        clear cg
        go_wp2
        go_roundw
        case rel => exact ⟨k + 1, by omega, by go_num, hbl⟩
        case measure => simp [intOf]; omega
      · obtain rfl : k = U := by omega
        have s5'' := s5'.below hbl
        have bbr : Below w.heap.size w wr := bt bb6 hbl
        go_wp2_with (first
          | (go_at_call 14; go_must (refine (cE _ bbr _ s5'').mono ?_); rintro e w7 ⟨rfl, b7⟩)
          | (go_at_call 17; go_must (refine (cM _).mono ?_); rintro e w8 ⟨rfl, b8⟩))
        go_ret
        exact ⟨rfl, bt (bt bbr b7) b8⟩
  · obtain ⟨ao, cap, rfl⟩ := sa.slice
    obtain ⟨bo, bcap, rfl⟩ := sb.slice
    by_cases hl : a.length = b.length
    · have e1 : decide ((600 : Int) < (a.length : Int)) = true := by simp; omega
      have e2 : ((a.length : Int) != (b.length : Int)) = false := by simp; omega
      rw [← hl] at sb ⊢
      rw [← hl] at e2
      clear hl h
      go_enter Try.func4, Try.ntmps4
      go_wp2_with (go_at_call 9; refine (shown9 _).mono ?_; rintro e w1 ⟨rfl, b1⟩)
      go_ret
      exact ⟨rfl, b1⟩
    · have e1 : ((a.length : Int) != (b.length : Int)) = true := by simp; omega
      have e2 : ¬ ((a.length : Int) = (b.length : Int)) := by omega
      clear h
      go_enter Try.func4, Try.ntmps4
      go_wp2_with (go_at_call 9; refine (shown9 _).mono ?_; rintro e w1 ⟨rfl, b1⟩)
      go_ret
      exact ⟨rfl, b1⟩
end Go.Proofs.Ytehlibeedieclaa.Gr
