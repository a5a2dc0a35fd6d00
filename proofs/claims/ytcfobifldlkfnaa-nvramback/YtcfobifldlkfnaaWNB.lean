/-
  The walk of NvramBack.
-/
import Derived.Test.YtcfobifldlkfnaaNLn
import Derived.Test.YtcfobifldlkfnaaNWw
import Derived.Test.YtcfobifldlkfnaaNRr
namespace Go.Proofs.Ytcfobifldlkfnaa.Gr
open Go.RowKit Go.Sort Qm Nm
set_option linter.unusedVariables false
set_option linter.unusedSimpArgs false

set_option maxRecDepth 20000 in
set_option maxHeartbeats 4000000 in
theorem nvramBack_walk (v : Value) (s : Nv) (vw' : Value) (ws : List Int) (w : World) (sv : SeesN w v s) (la : s.a.length ≤ 100000000000000) (lb : s.b.length ≤ 100000000000000) (sw : SeesI w vw' ws) (lw : ws.length ≤ 100000000000000) (rw' : ∀ x ∈ ws, -9223372036854775808 ≤ x ∧ x ≤ 9223372036854775807) :
    Calls Try.prog 4 #[v, vw'] w fun e w' => e = .returned (.bool true) ∧ Below w.heap.size w w' := by
  clear rw'
  obtain ⟨va, vb', rfl, sa, sb⟩ := sv
  obtain ⟨ao, acap, rfl⟩ := sa.slice
  obtain ⟨bo, bcap, rfl⟩ := sb.slice
  obtain ⟨wo, wcap, rfl⟩ := sw.slice
  have HX := bx_mk w _ _ s sa sb
  obtain ⟨W, hW⟩ : ∃ W, w.alloc (.cells #[.slice ao s.a.length acap, .int .i64 s.c, .slice bo s.b.length bcap, .int .i64 s.d] 27) = W := ⟨_, rfl⟩
  rw [hW] at HX
  have sW := fun (u : World) (h : Below W.heap.size W u) => (sw.below HX.below).below h
  have sV := HX.sees
  have cF := fun (u : World) (h : Below W.heap.size W u) => few_any _ _ s ws u la lb lw (sV u h) (sW u h)
  obtain ⟨B, hBe⟩ : ∃ B, w.heap.size = B := ⟨_, rfl⟩
  rw [hBe] at HX ⊢
  have hz := lt_of_block (HX.cells W (Below.refl _ _))
  obtain ⟨p1, p2, p3, p4⟩ := four_cells (HX.cells W (Below.refl _ _))
  have HXX : Hid (Bx w W B _ _ s) := HX
  have cells := fun (u : World) (h : Below W.heap.size W u) => four_cells (HX.cells u h)
  clear HX sa sb sw
  have cR := fun (u : World) (h : Below W.heap.size W u) (h1 : s.a.length ≤ 1000) (h2 : s.b.length ≤ 1000) => read_any _ s u h1 h2 (sV u h)
  cases hf : fewN s ws
  · rw [hf] at cF
    clear hf cR
    generalize ws.length = n at *
    --[a
    go_enter Try.func4, Try.ntmps4
    go_wp2_with (first
      | (go_at_call 10; refine (shown10 _).mono ?_; rintro e w1 ⟨rfl, bb1⟩; obtain ⟨t1a, t1b, t1c, t1d⟩ := cells _ bb1; have z1 : B < w1.heap.size := Nat.lt_of_lt_of_le hz bb1.size)
      | (go_at_call 11; go_must (refine (cF _ bb1).mono ?_); rintro e w2 ⟨rfl, b2⟩; have bb2 := bt bb1 b2; obtain ⟨t2a, t2b, t2c, t2d⟩ := cells _ bb2; have z2 : B < w2.heap.size := Nat.lt_of_lt_of_le hz bb2.size))
    go_ret
    exact ⟨rfl, HXX.out.fin bb2⟩
    --]a
  · rw [hf] at cF
    obtain ⟨f1, f2, f3⟩ := few_yes hf
    have cR' := fun (u : World) (h : Below W.heap.size W u) => cR u h (by omega) (by omega)
    have cW := fun (u : World) (h : Below W.heap.size W u) => write_any _ _ s ws u (by omega) (by omega) (by omega) (sV u h) (sW u h)
    have hnr := numS_range s
    clear hf cR la lb lw
    cases hb : bigS s ws
    · have e1 : errS s ws = 0 := by unfold errS; rw [hb]; rfl
      obtain ⟨r1, r2, r3⟩ := read_write hb
      obtain ⟨l1, l2⟩ := write_len (s := s) (ws := ws) (by omega) (by omega) (by omega)
      have hno := @isS_no s
      rw [e1] at cW
      obtain ⟨NS, hNS⟩ : ∃ NS, writeS s ws = NS := ⟨_, rfl⟩
      rw [hNS] at cW r1 r2 r3 l1 l2
      have cR2 := fun (u : World) (v : Value) (h : SeesN u v NS) => read_any v NS u l1 l2 h
      rw [r1, r2, r3] at cR2
      have cI := fun (u : World) (h : Below W.heap.size W u) (v : Value) (sv : SeesI u v ws) => ints_any v _ ws ws u (by omega) (by omega) sv (sW u h)
      rw [decide_eq_true rfl] at cI
      clear hNS r1 r2 r3 l1 l2 hb e1
      cases hp : isS s
      · obtain ⟨_, hn0, _⟩ := hno hp
        rw [hp, hn0] at cR'
        rw [hn0] at cR2
        have e01 : (0 : Int) + 1 = 1 := rfl
        rw [e01] at cR2
        clear hno hp hn0 hnr e01
        generalize ws.length = n at *
        --[b
        go_enter Try.func4, Try.ntmps4
        go_wp2_with (first
          | (go_at_call 10; refine (shown10 _).mono ?_; rintro e w1 ⟨rfl, bb1⟩; obtain ⟨t1a, t1b, t1c, t1d⟩ := cells _ bb1; have z1 : B < w1.heap.size := Nat.lt_of_lt_of_le hz bb1.size)
          | (go_at_call 11; go_must (refine (cF _ bb1).mono ?_); rintro e w2 ⟨rfl, b2⟩; have bb2 := bt bb1 b2; obtain ⟨t2a, t2b, t2c, t2d⟩ := cells _ bb2; have z2 : B < w2.heap.size := Nat.lt_of_lt_of_le hz bb2.size)
          | (have _ := b4; go_at_call 12; go_must (refine (cR2 _ _ sv4).mono ?_); rintro e w5 ⟨vr5, rfl, sr5, b5⟩; have bb5 := bt bb4a b5; obtain ⟨t5a, t5b, t5c, t5d⟩ := cells _ bb5; have z5 : B < w5.heap.size := Nat.lt_of_lt_of_le hz bb5.size; obtain ⟨ro5, rc5, hr5⟩ := sr5.slice; subst hr5)
          | (go_at_call 12; go_must (refine (cR' _ bb2).mono ?_); rintro e w3 ⟨vr3, rfl, sr3, b3⟩; have bb3 := bt bb2 b3; obtain ⟨t3a, t3b, t3c, t3d⟩ := cells _ bb3; have z3 : B < w3.heap.size := Nat.lt_of_lt_of_le hz bb3.size; obtain ⟨ro3, rc3, rfl⟩ := sr3.slice)
          | (go_at_call 14; go_must (refine (cW _ bb3).mono ?_); rintro e w4 ⟨v4, rfl, s4, b4⟩; have bb4 := bt bb3 b4; obtain ⟨t4a, t4b, t4c, t4d⟩ := cells _ bb4; have z4 : B < w4.heap.size := Nat.lt_of_lt_of_le hz bb4.size; obtain ⟨x4, y4, rfl, sx4, sy4, _, _⟩ := s4; obtain ⟨xo4, xc4, rfl⟩ := sx4.slice; obtain ⟨yo4, yc4, rfl⟩ := sy4.slice; have bb4a := bt bb4 (box_below w4 (.cells #[.slice xo4 NS.a.length xc4, .int .i64 NS.c, .slice yo4 NS.b.length yc4, .int .i64 NS.d] 27)); have z4a := bb4a.size; have hv4 := heap_new w4 (.cells #[.slice xo4 NS.a.length xc4, .int .i64 NS.c, .slice yo4 NS.b.length yc4, .int .i64 NS.d] 27); have sv4 : SeesN (w4.alloc (.cells #[.slice xo4 NS.a.length xc4, .int .i64 NS.c, .slice yo4 NS.b.length yc4, .int .i64 NS.d] 27)) (.agg #[.slice xo4 NS.a.length xc4, .int .i64 NS.c, .slice yo4 NS.b.length yc4, .int .i64 NS.d]) NS := ⟨_, _, rfl, sx4.below (box_below _ _), sy4.below (box_below _ _)⟩)
          | (go_at_call 18; go_must (refine (cI _ bb5 _ sr5).mono ?_); rintro e w6 ⟨rfl, b6⟩; have bb6 := bt bb5 b6; obtain ⟨t6a, t6b, t6c, t6d⟩ := cells _ bb6; have z6 : B < w6.heap.size := Nat.lt_of_lt_of_le hz bb6.size))
        go_ret
        exact ⟨rfl, HXX.out.fin bb6⟩
        --]b
      · rw [hp] at cR'
        clear hno hp
        generalize numS s = I at *
        have wI : wrap64 (I + 1) = I + 1 := by unfold wrap64; omega
        generalize ws.length = n at *
        --[c
        go_enter Try.func4, Try.ntmps4
        go_wp2_with (first
          | (go_at_call 10; refine (shown10 _).mono ?_; rintro e w1 ⟨rfl, bb1⟩; obtain ⟨t1a, t1b, t1c, t1d⟩ := cells _ bb1; have z1 : B < w1.heap.size := Nat.lt_of_lt_of_le hz bb1.size)
          | (go_at_call 11; go_must (refine (cF _ bb1).mono ?_); rintro e w2 ⟨rfl, b2⟩; have bb2 := bt bb1 b2; obtain ⟨t2a, t2b, t2c, t2d⟩ := cells _ bb2; have z2 : B < w2.heap.size := Nat.lt_of_lt_of_le hz bb2.size)
          | (have _ := b4; go_at_call 12; go_must (refine (cR2 _ _ sv4).mono ?_); rintro e w5 ⟨vr5, rfl, sr5, b5⟩; have bb5 := bt bb4a b5; obtain ⟨t5a, t5b, t5c, t5d⟩ := cells _ bb5; have z5 : B < w5.heap.size := Nat.lt_of_lt_of_le hz bb5.size; obtain ⟨ro5, rc5, hr5⟩ := sr5.slice; subst hr5)
          | (go_at_call 12; go_must (refine (cR' _ bb2).mono ?_); rintro e w3 ⟨vr3, rfl, sr3, b3⟩; have bb3 := bt bb2 b3; obtain ⟨t3a, t3b, t3c, t3d⟩ := cells _ bb3; have z3 : B < w3.heap.size := Nat.lt_of_lt_of_le hz bb3.size; obtain ⟨ro3, rc3, rfl⟩ := sr3.slice)
          | (go_at_call 14; go_must (refine (cW _ bb3).mono ?_); rintro e w4 ⟨v4, rfl, s4, b4⟩; have bb4 := bt bb3 b4; obtain ⟨t4a, t4b, t4c, t4d⟩ := cells _ bb4; have z4 : B < w4.heap.size := Nat.lt_of_lt_of_le hz bb4.size; obtain ⟨x4, y4, rfl, sx4, sy4, _, _⟩ := s4; obtain ⟨xo4, xc4, rfl⟩ := sx4.slice; obtain ⟨yo4, yc4, rfl⟩ := sy4.slice; have bb4a := bt bb4 (box_below w4 (.cells #[.slice xo4 NS.a.length xc4, .int .i64 NS.c, .slice yo4 NS.b.length yc4, .int .i64 NS.d] 27)); have z4a := bb4a.size; have hv4 := heap_new w4 (.cells #[.slice xo4 NS.a.length xc4, .int .i64 NS.c, .slice yo4 NS.b.length yc4, .int .i64 NS.d] 27); have sv4 : SeesN (w4.alloc (.cells #[.slice xo4 NS.a.length xc4, .int .i64 NS.c, .slice yo4 NS.b.length yc4, .int .i64 NS.d] 27)) (.agg #[.slice xo4 NS.a.length xc4, .int .i64 NS.c, .slice yo4 NS.b.length yc4, .int .i64 NS.d]) NS := ⟨_, _, rfl, sx4.below (box_below _ _), sy4.below (box_below _ _)⟩)
          | (go_at_call 18; go_must (refine (cI _ bb5 _ sr5).mono ?_); rintro e w6 ⟨rfl, b6⟩; have bb6 := bt bb5 b6; obtain ⟨t6a, t6b, t6c, t6d⟩ := cells _ bb6; have z6 : B < w6.heap.size := Nat.lt_of_lt_of_le hz bb6.size))
        go_ret
        exact ⟨rfl, HXX.out.fin bb6⟩
        --]c
    · have e1 : errS s ws = 5 := by unfold errS; rw [hb]; rfl
      have e2 := write_big hb
      rw [e1, e2] at cW
      have cE := fun (u : World) (h : Below W.heap.size W u) (v : Value) (sv : SeesN u v s) => rsameN_any v _ s s u (by omega) (by omega) (by omega) (by omega) sv (sV u h)
      rw [sameN_refl] at cE
      have hbi := bigS_iff.1 hb
      generalize isS s = P at *
      clear hb e1 e2
      by_cases h6 : 600 < ws.length
      · have d6 : decide ((600 : Int) < (ws.length : Int)) = true := decide_eq_true (by omega)
        clear hbi
        generalize numS s = I at *
        generalize ws.length = n at *
        --[d
        go_enter Try.func4, Try.ntmps4
        go_wp2_with (first
          | (go_at_call 10; refine (shown10 _).mono ?_; rintro e w1 ⟨rfl, bb1⟩; obtain ⟨t1a, t1b, t1c, t1d⟩ := cells _ bb1; have z1 : B < w1.heap.size := Nat.lt_of_lt_of_le hz bb1.size)
          | (go_at_call 11; go_must (refine (cF _ bb1).mono ?_); rintro e w2 ⟨rfl, b2⟩; have bb2 := bt bb1 b2; obtain ⟨t2a, t2b, t2c, t2d⟩ := cells _ bb2; have z2 : B < w2.heap.size := Nat.lt_of_lt_of_le hz bb2.size)
          | (go_at_call 12; go_must (refine (cR' _ bb2).mono ?_); rintro e w3 ⟨vr3, rfl, sr3, b3⟩; have bb3 := bt bb2 b3; obtain ⟨t3a, t3b, t3c, t3d⟩ := cells _ bb3; have z3 : B < w3.heap.size := Nat.lt_of_lt_of_le hz bb3.size; obtain ⟨ro3, rc3, rfl⟩ := sr3.slice)
          | (go_at_call 14; go_must (refine (cW _ bb3).mono ?_); rintro e w4 ⟨v4, rfl, s4, b4⟩; have bb4 := bt bb3 b4; obtain ⟨t4a, t4b, t4c, t4d⟩ := cells _ bb4; have z4 : B < w4.heap.size := Nat.lt_of_lt_of_le hz bb4.size; obtain ⟨x4, y4, rfl, sx4, sy4, _, _⟩ := s4; obtain ⟨xo4, xc4, rfl⟩ := sx4.slice; obtain ⟨yo4, yc4, rfl⟩ := sy4.slice; have bb4a := bt bb4 (box_below w4 (.cells #[.slice xo4 s.a.length xc4, .int .i64 s.c, .slice yo4 s.b.length yc4, .int .i64 s.d] 27)); have z4a := bb4a.size; have hv4 := heap_new w4 (.cells #[.slice xo4 s.a.length xc4, .int .i64 s.c, .slice yo4 s.b.length yc4, .int .i64 s.d] 27); have sv4 : SeesN (w4.alloc (.cells #[.slice xo4 s.a.length xc4, .int .i64 s.c, .slice yo4 s.b.length yc4, .int .i64 s.d] 27)) (.agg #[.slice xo4 s.a.length xc4, .int .i64 s.c, .slice yo4 s.b.length yc4, .int .i64 s.d]) s := ⟨_, _, rfl, sx4.below (box_below _ _), sy4.below (box_below _ _)⟩)
          | (go_at_call 22; go_must (refine (cE _ bb4a _ sv4).mono ?_); rintro e w6 ⟨rfl, b6⟩; have bb6 := bt bb4a b6; obtain ⟨t6a, t6b, t6c, t6d⟩ := cells _ bb6; have z6 : B < w6.heap.size := Nat.lt_of_lt_of_le hz bb6.size))
        go_ret
        exact ⟨rfl, HXX.out.fin bb6⟩
        --]d
      · have d6 : decide ((600 : Int) < (ws.length : Int)) = false := decide_eq_false (by omega)
        have h6' : (ws.length : Int) ≤ 600 := by omega
        have hI : numS s = 4611686018427387904 := hbi.elim (fun h => absurd h h6) id
        rw [hI] at cR'
        clear hbi hI hnr
        generalize ws.length = n at *
        --[e
        go_enter Try.func4, Try.ntmps4
        go_wp2_with (first
          | (go_at_call 10; refine (shown10 _).mono ?_; rintro e w1 ⟨rfl, bb1⟩; obtain ⟨t1a, t1b, t1c, t1d⟩ := cells _ bb1; have z1 : B < w1.heap.size := Nat.lt_of_lt_of_le hz bb1.size)
          | (go_at_call 11; go_must (refine (cF _ bb1).mono ?_); rintro e w2 ⟨rfl, b2⟩; have bb2 := bt bb1 b2; obtain ⟨t2a, t2b, t2c, t2d⟩ := cells _ bb2; have z2 : B < w2.heap.size := Nat.lt_of_lt_of_le hz bb2.size)
          | (go_at_call 12; go_must (refine (cR' _ bb2).mono ?_); rintro e w3 ⟨vr3, rfl, sr3, b3⟩; have bb3 := bt bb2 b3; obtain ⟨t3a, t3b, t3c, t3d⟩ := cells _ bb3; have z3 : B < w3.heap.size := Nat.lt_of_lt_of_le hz bb3.size; obtain ⟨ro3, rc3, rfl⟩ := sr3.slice)
          | (go_at_call 14; go_must (refine (cW _ bb3).mono ?_); rintro e w4 ⟨v4, rfl, s4, b4⟩; have bb4 := bt bb3 b4; obtain ⟨t4a, t4b, t4c, t4d⟩ := cells _ bb4; have z4 : B < w4.heap.size := Nat.lt_of_lt_of_le hz bb4.size; obtain ⟨x4, y4, rfl, sx4, sy4, _, _⟩ := s4; obtain ⟨xo4, xc4, rfl⟩ := sx4.slice; obtain ⟨yo4, yc4, rfl⟩ := sy4.slice; have bb4a := bt bb4 (box_below w4 (.cells #[.slice xo4 s.a.length xc4, .int .i64 s.c, .slice yo4 s.b.length yc4, .int .i64 s.d] 27)); have z4a := bb4a.size; have hv4 := heap_new w4 (.cells #[.slice xo4 s.a.length xc4, .int .i64 s.c, .slice yo4 s.b.length yc4, .int .i64 s.d] 27); have sv4 : SeesN (w4.alloc (.cells #[.slice xo4 s.a.length xc4, .int .i64 s.c, .slice yo4 s.b.length yc4, .int .i64 s.d] 27)) (.agg #[.slice xo4 s.a.length xc4, .int .i64 s.c, .slice yo4 s.b.length yc4, .int .i64 s.d]) s := ⟨_, _, rfl, sx4.below (box_below _ _), sy4.below (box_below _ _)⟩)
          | (go_at_call 22; go_must (refine (cE _ bb4a _ sv4).mono ?_); rintro e w6 ⟨rfl, b6⟩; have bb6 := bt bb4a b6; obtain ⟨t6a, t6b, t6c, t6d⟩ := cells _ bb6; have z6 : B < w6.heap.size := Nat.lt_of_lt_of_le hz bb6.size))
        go_ret
        exact ⟨rfl, HXX.out.fin bb6⟩
        --]e
end Go.Proofs.Ytcfobifldlkfnaa.Gr
