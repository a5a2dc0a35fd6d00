/-
  The walk of NvramOld.
-/
import Derived.Test.YtcfobifldlkfnaaNLn
import Derived.Test.YtcfobifldlkfnaaNCr
namespace Go.Proofs.Ytcfobifldlkfnaa.Gr
open Go.RowKit Go.Sort Qm Nm
set_option linter.unusedVariables false
namespace Nm
/-- two records, one behind the other -/
def both (a b : List Int) : Nv := ⟨1 :: a, comS (1 :: a), 2 :: b, comS (2 :: b)⟩
theorem wh_first (a : List Int) : whS (1 :: a) (comS (1 :: a)) = true := whS_iff.2 ⟨by simp, by show (0 : Int) ≤ 1; omega, by show (1 : Int) ≤ _; omega, rfl⟩
theorem plc_first (a : List Int) : plc (first a) = 0 := by
  unfold plc first pick2
  simp only [wh_first, whS_nil]
  rfl
theorem big_first {a b : List Int} (hb : b.length ≤ 600) : bigS (first a) b = false := by
  have hn : numS (first a) = 1 := by unfold numS; rw [plc_first]; rfl
  unfold bigS
  rw [hn, decide_eq_false (by omega)]
  rfl
theorem write_first {a b : List Int} (hb : b.length ≤ 600) : writeS (first a) b = both a b ∧ errS (first a) b = 0 := by
  have hn : numS (first a) = 1 := by unfold numS; rw [plc_first]; rfl
  unfold writeS errS
  rw [big_first hb]
  refine ⟨?_, rfl⟩
  unfold putS toS recS
  rw [plc_first, hn]
  rfl
theorem read_both {a b : List Int} (hb : b.length ≤ 600) : isS (both a b) = true ∧ numS (both a b) = 2 ∧ keptS (both a b) = b := by
  have h := read_write (big_first (a := a) hb)
  have hn : numS (first a) = 1 := by unfold numS; rw [plc_first]; rfl
  rw [(write_first hb).1, hn] at h
  exact h
theorem read_old {a b : List Int} {c : Int} (h : ¬ c = comS (2 :: b)) : isS ⟨1 :: a, comS (1 :: a), 2 :: b, c⟩ = true ∧ numS ⟨1 :: a, comS (1 :: a), 2 :: b, c⟩ = 1 ∧ keptS ⟨1 :: a, comS (1 :: a), 2 :: b, c⟩ = a := by
  have h2 : whS (2 :: b) c = false := by
    cases e : whS (2 :: b) c with
    | false => rfl
    | true => exact absurd (whS_iff.1 e).2.2.2 h
  have hp : plc ⟨1 :: a, comS (1 :: a), 2 :: b, c⟩ = 0 := by
    unfold plc pick2
    simp only [wh_first, h2]
    rfl
  unfold isS numS keptS
  rw [hp]
  exact ⟨rfl, rfl, rfl⟩
end Nm
theorem below_setL {B b k : Nat} {w u : World} {v : Value} (h : Below B w u) (hb : B ≤ b) (hs : B ≤ u.heap.size) : Below B w (u.setCell ⟨b, k, none⟩ v) := h.grown (gb_setC u b k v) hs (fun j e => by cases e; exact hb)
set_option maxRecDepth 20000 in
set_option maxHeartbeats 4000000 in
theorem nvramOld_walk (va : Value) (a : List Int) (vb' : Value) (b : List Int) (C : Int) (w : World) (sa : SeesI w va a) (la : a.length ≤ 100000000000000) (ra : ∀ x ∈ a, -9223372036854775808 ≤ x ∧ x ≤ 9223372036854775807)
    (sb : SeesI w vb' b) (lb : b.length ≤ 100000000000000) (rb : ∀ x ∈ b, -9223372036854775808 ≤ x ∧ x ≤ 9223372036854775807) :
    Calls Try.prog 7 #[va, vb', .int .i64 C] w fun e w' => e = .returned (.bool true) ∧ Below w.heap.size w w' := by
  clear ra rb
  obtain ⟨ao, acap, rfl⟩ := sa.slice
  obtain ⟨bo, bcap, rfl⟩ := sb.slice
  by_cases h5 : 500 < a.length + b.length
  · have d5 : decide ((500 : Int) < (a.length : Int) + (b.length : Int)) = true := decide_eq_true (by omega)
    clear sa sb
    generalize a.length = n at *
    generalize b.length = m at *
    --[a
    go_enter Try.func7, Try.ntmps7
    go_wp2_with (go_at_call 10; refine (shown10 _).mono ?_; rintro e w1 ⟨rfl, b1⟩)
    go_ret
    exact ⟨rfl, b1⟩
    --]a
  · have d5 : decide ((500 : Int) < (a.length : Int) + (b.length : Int)) = false := decide_eq_false (by omega)
    have s0 := fun (u : World) (h : Below w.heap.size w u) => sa.below h
    have s0' := fun (u : World) (h : Below w.heap.size w u) => sb.below h
    have cX := fun (u : World) (h : Below w.heap.size w u) => write_any _ _ nvz0 a u (by decide) (by decide) (by omega) (sees_z u) (s0 u h)
    rw [(write_z (ws := a) (by omega)).1, (write_z (ws := a) (by omega)).2] at cX
    have lf1 : (first a).a.length ≤ 1000 := by show a.length + 1 ≤ 1000; omega
    have lf2 : (first a).b.length ≤ 1000 := by show 0 ≤ 1000; omega
    have cY := fun (u : World) (h : Below w.heap.size w u) (v : Value) (sv : SeesN u v (first a)) => write_any v _ (first a) b u lf1 lf2 (by omega) sv (s0' u h)
    rw [(write_first (a := a) (b := b) (by omega)).1, (write_first (a := a) (b := b) (by omega)).2] at cY
    have lb2 : (2 :: b).length ≤ 1000 := by show b.length + 1 ≤ 1000; omega
    have la2 : (1 :: a).length ≤ 1000 := by show a.length + 1 ≤ 1000; omega
    have cC := fun (u : World) (v : Value) (h : SeesI u v (2 :: b)) => rcommit_any v (2 :: b) u lb2 h
    have cR := fun (u : World) (v : Value) (h : SeesN u v ⟨1 :: a, comS (1 :: a), 2 :: b, C⟩) => read_any v ⟨1 :: a, comS (1 :: a), 2 :: b, C⟩ u la2 lb2 h
    have hF : first a = ⟨1 :: a, comS (1 :: a), [], 0⟩ := rfl
    have hG : both a b = ⟨1 :: a, comS (1 :: a), 2 :: b, comS (2 :: b)⟩ := rfl
    have hW : C = comS (2 :: b) → isS ⟨1 :: a, comS (1 :: a), 2 :: b, C⟩ = true ∧ numS ⟨1 :: a, comS (1 :: a), 2 :: b, C⟩ = 2 ∧ keptS ⟨1 :: a, comS (1 :: a), 2 :: b, C⟩ = b := fun e => by
      rw [e, ← hG]; exact read_both (by omega)
    have hO := fun (h : ¬ C = comS (2 :: b)) => read_old (a := a) h
    rw [hF] at cX cY
    rw [hG] at cY
    have cIb := fun (u : World) (h : Below w.heap.size w u) (v : Value) (sv : SeesI u v b) => ints_any v _ b b u (by omega) (by omega) sv (s0' u h)
    have cIa := fun (u : World) (h : Below w.heap.size w u) (v : Value) (sv : SeesI u v a) => ints_any v _ a a u (by omega) (by omega) sv (s0 u h)
    rw [decide_eq_true rfl] at cIa cIb
    clear hF hG lf1 lf2 sa sb
    generalize comS (1 :: a) = CA at *
    generalize comS (2 :: b) = CB at *
    have hnQ : (2 :: b).length = b.length + 1 := rfl
    generalize (1 :: a : List Int) = A at *
    generalize (2 :: b : List Int) = Q at *
    have hQ0 : ¬ (Q.length : Int) = 0 := by omega
    have hQ1 : ((Q.length : Int) == 0) = false := by simp; intro e; rw [e] at hnQ; simp at hnQ
    have h5n : (a.length : Int) + (b.length : Int) ≤ 500 := by omega
    clear hnQ la lb h5
    by_cases hC : C = CB
    · obtain ⟨x1, x2, x3⟩ := hW hC
      rw [x1, x2, x3] at cR
      subst hC
      clear hW hO x1 x2 x3 la2 lb2 cIa
      generalize a.length = n at *
      generalize b.length = m at *
      --[b
      go_enter Try.func7, Try.ntmps7
      go_upto_region 9 with (first
        | (go_at_call 10; refine (shown10 _).mono ?_; rintro e w1 ⟨rfl, bb1⟩)
        | (have _ := b2; go_at_call 14; go_must (refine (cY _ bb2a _ sv2).mono ?_); rintro e w4 ⟨v4, rfl, s4, b4⟩; have bb4 := bt bb2a b4; obtain ⟨x4, y4, rfl, sx4', sy4', _, _⟩ := s4; have sx4 : SeesI w4 x4 A := sx4'; have sy4 : SeesI w4 y4 Q := sy4'; obtain ⟨xo4, xc4, rfl⟩ := sx4.slice; obtain ⟨yo4, yc4, rfl⟩ := sy4.slice; have bx4 := box_below w4 (.cells #[.slice xo4 A.length xc4, .int .i64 CA, .slice yo4 Q.length yc4, .int .i64 C] 27); have bb4a := bt bb4 bx4; have hv4 := heap_new w4 (.cells #[.slice xo4 A.length xc4, .int .i64 CA, .slice yo4 Q.length yc4, .int .i64 C] 27))
        | (go_at_call 14; go_must (refine (cX _ bb1).mono ?_); rintro e w2 ⟨v2, rfl, s2, b2⟩; have bb2 := bt bb1 b2; obtain ⟨x2, y2, rfl, sx2', sy2', _, _⟩ := s2; have sx2 : SeesI w2 x2 A := sx2'; have sy2 : SeesI w2 y2 [] := sy2'; obtain ⟨xo2, xc2, rfl⟩ := sx2.slice; obtain ⟨yo2, yc2, hy2⟩ := sy2.slice; have hy2' : y2 = .slice yo2 0 yc2 := hy2; clear hy2; subst hy2'; have bx2 := box_below w2 (.cells #[.slice xo2 A.length xc2, .int .i64 CA, .slice yo2 0 yc2, .int .i64 0] 27); have bb2a := bt bb2 bx2; have sv2 : SeesN (w2.alloc (.cells #[.slice xo2 A.length xc2, .int .i64 CA, .slice yo2 0 yc2, .int .i64 0] 27)) (.agg #[.slice xo2 A.length xc2, .int .i64 CA, .slice yo2 0 yc2, .int .i64 0]) ⟨A, CA, [], 0⟩ := ⟨_, _, rfl, sx2.below bx2, sy2.below bx2⟩)
        | (go_at_call 20; go_must (refine (cC _ _ (sy4.below bx4)).mono ?_); rintro e w5 ⟨rfl, b5⟩; have bb5 := bt bb4a b5; have hv5 := keep b5 hv4; obtain ⟨q1, q2, q3, q4⟩ := four_cells hv5; have zz5 : w4.heap.size < w5.heap.size := lt_of_block hv5; have f3 := not_frozen hv5 3))
      have b45 := bt bx4 b5
      have bU : Below w4.heap.size w4 (w5.setCell ⟨w4.heap.size, 3, none⟩ (.int .i64 C)) := below_setL b45 (Nat.le_refl _) b45.size
      have hU := set_four3 hv5 (.int .i64 C)
      obtain ⟨u1, u2, u3, u4⟩ := four_cells hU
      have bbU := bt bb4 bU
      have sU : SeesN (w5.setCell ⟨w4.heap.size, 3, none⟩ (.int .i64 C)) (.agg #[.slice xo4 A.length xc4, .int .i64 CA, .slice yo4 Q.length yc4, .int .i64 C]) ⟨A, CA, Q, C⟩ := ⟨_, _, rfl, sx4.below bU, sy4.below bU⟩
      clear hU
      go_wp2_with (first
        | (go_at_call 12; go_must (refine (cR _ _ sU).mono ?_); rintro e w7 ⟨v7, rfl, s7, b7⟩; have bb7 := bt bbU b7; obtain ⟨ro7, rc7, hr7⟩ := s7.slice; subst hr7)
        | (go_at_call 18; go_must (refine (cIb _ bb7 _ s7).mono ?_); rintro e w8 ⟨rfl, b8⟩; have bb8 := bt bb7 b8))
      go_ret
      exact ⟨rfl, bb8⟩
      --]b
    · obtain ⟨x1, x2, x3⟩ := hO hC
      rw [x1, x2, x3] at cR
      have dC : decide (C = CB) = false := decide_eq_false hC
      have dC' : (C == CB) = false := by simpa using hC
      clear hW hO x1 x2 x3 la2 lb2 cIb
      generalize a.length = n at *
      generalize b.length = m at *
      --[c
      go_enter Try.func7, Try.ntmps7
      go_upto_region 9 with (first
        | (go_at_call 10; refine (shown10 _).mono ?_; rintro e w1 ⟨rfl, bb1⟩)
        | (have _ := b2; go_at_call 14; go_must (refine (cY _ bb2a _ sv2).mono ?_); rintro e w4 ⟨v4, rfl, s4, b4⟩; have bb4 := bt bb2a b4; obtain ⟨x4, y4, rfl, sx4', sy4', _, _⟩ := s4; have sx4 : SeesI w4 x4 A := sx4'; have sy4 : SeesI w4 y4 Q := sy4'; obtain ⟨xo4, xc4, rfl⟩ := sx4.slice; obtain ⟨yo4, yc4, rfl⟩ := sy4.slice; have bx4 := box_below w4 (.cells #[.slice xo4 A.length xc4, .int .i64 CA, .slice yo4 Q.length yc4, .int .i64 CB] 27); have bb4a := bt bb4 bx4; have hv4 := heap_new w4 (.cells #[.slice xo4 A.length xc4, .int .i64 CA, .slice yo4 Q.length yc4, .int .i64 CB] 27))
        | (go_at_call 14; go_must (refine (cX _ bb1).mono ?_); rintro e w2 ⟨v2, rfl, s2, b2⟩; have bb2 := bt bb1 b2; obtain ⟨x2, y2, rfl, sx2', sy2', _, _⟩ := s2; have sx2 : SeesI w2 x2 A := sx2'; have sy2 : SeesI w2 y2 [] := sy2'; obtain ⟨xo2, xc2, rfl⟩ := sx2.slice; obtain ⟨yo2, yc2, hy2⟩ := sy2.slice; have hy2' : y2 = .slice yo2 0 yc2 := hy2; clear hy2; subst hy2'; have bx2 := box_below w2 (.cells #[.slice xo2 A.length xc2, .int .i64 CA, .slice yo2 0 yc2, .int .i64 0] 27); have bb2a := bt bb2 bx2; have sv2 : SeesN (w2.alloc (.cells #[.slice xo2 A.length xc2, .int .i64 CA, .slice yo2 0 yc2, .int .i64 0] 27)) (.agg #[.slice xo2 A.length xc2, .int .i64 CA, .slice yo2 0 yc2, .int .i64 0]) ⟨A, CA, [], 0⟩ := ⟨_, _, rfl, sx2.below bx2, sy2.below bx2⟩)
        | (go_at_call 20; go_must (refine (cC _ _ (sy4.below bx4)).mono ?_); rintro e w5 ⟨rfl, b5⟩; have bb5 := bt bb4a b5; have hv5 := keep b5 hv4; obtain ⟨q1, q2, q3, q4⟩ := four_cells hv5; have zz5 : w4.heap.size < w5.heap.size := lt_of_block hv5; have f3 := not_frozen hv5 3))
      have b45 := bt bx4 b5
      have bU : Below w4.heap.size w4 (w5.setCell ⟨w4.heap.size, 3, none⟩ (.int .i64 C)) := below_setL b45 (Nat.le_refl _) b45.size
      have hU := set_four3 hv5 (.int .i64 C)
      obtain ⟨u1, u2, u3, u4⟩ := four_cells hU
      have bbU := bt bb4 bU
      have sU : SeesN (w5.setCell ⟨w4.heap.size, 3, none⟩ (.int .i64 C)) (.agg #[.slice xo4 A.length xc4, .int .i64 CA, .slice yo4 Q.length yc4, .int .i64 C]) ⟨A, CA, Q, C⟩ := ⟨_, _, rfl, sx4.below bU, sy4.below bU⟩
      clear hU
      go_wp2_with (first
        | (go_at_call 12; go_must (refine (cR _ _ sU).mono ?_); rintro e w7 ⟨v7, rfl, s7, b7⟩; have bb7 := bt bbU b7; obtain ⟨ro7, rc7, hr7⟩ := s7.slice; subst hr7)
        | (go_at_call 18; go_must (refine (cIa _ bb7 _ s7).mono ?_); rintro e w8 ⟨rfl, b8⟩; have bb8 := bt bb7 b8))
      go_ret
      exact ⟨rfl, bb8⟩
      --]c
end Go.Proofs.Ytcfobifldlkfnaa.Gr
