/-
  The walk of NvramCrashes.
-/
import Derived.Test.YtcfobifldlkfnaaNLn
import Derived.Test.YtcfobifldlkfnaaNWw
import Derived.Test.YtcfobifldlkfnaaNRr
namespace Go.Proofs.Ytcfobifldlkfnaa.Gr
open Go.RowKit Go.Sort Qm Nm
set_option linter.unusedVariables false
set_option linter.unusedSimpArgs false

theorem Nm.kept_len {s : Nv} (h1 : s.a.length ≤ 1000) (h2 : s.b.length ≤ 1000) : (keptS s).length ≤ 1000 := by
  unfold keptS
  split
  · rw [List.length_drop]; omega
  · split
    · rw [List.length_drop]; omega
    · simp
set_option maxRecDepth 20000 in
set_option maxHeartbeats 4000000 in
theorem nvramCrashes_walk (v : Value) (s : Nv) (vw' : Value) (ws : List Int) (D : Int) (w : World) (sv : SeesN w v s) (la : s.a.length ≤ 100000000000000) (lb : s.b.length ≤ 100000000000000) (sw : SeesI w vw' ws) (lw : ws.length ≤ 100000000000000) (rw' : ∀ x ∈ ws, -9223372036854775808 ≤ x ∧ x ≤ 9223372036854775807) :
    Calls Try.prog 5 #[v, vw', .int .i64 D] w fun e w' => e = .returned (.bool true) ∧ Below w.heap.size w w' := by
  clear rw'
  obtain ⟨va, vb', rfl, sa, sb⟩ := sv
  obtain ⟨ao, acap, rfl⟩ := sa.slice
  obtain ⟨bo, bcap, rfl⟩ := sb.slice
  obtain ⟨wo, wcap, rfl⟩ := sw.slice
  have HX := bx_mk w _ _ s sa sb
  obtain ⟨W, hW⟩ : ∃ W, w.alloc (.cells #[.slice ao s.a.length acap, .int .i64 s.c, .slice bo s.b.length bcap, .int .i64 s.d] 27) = W := ⟨_, rfl⟩
  rw [hW] at HX
  have sW := fun (u : World) (h : Below W.heap.size W u) => (sw.below HX.below).below h
  have sV := HX.sees
  have cF := fun (u : World) (h : Below W.heap.size W u) => few_any _ _ s ws u la lb lw (sV u h) (sW u h)
  obtain ⟨B, hBe⟩ : ∃ B, w.heap.size = B := ⟨_, rfl⟩
  rw [hBe] at HX ⊢
  have hz := lt_of_block (HX.cells W (Below.refl _ _))
  obtain ⟨p1, p2, p3, p4⟩ := four_cells (HX.cells W (Below.refl _ _))
  have HXX : Hid (Bx w W B _ _ s) := HX
  have cells := fun (u : World) (h : Below W.heap.size W u) => four_cells (HX.cells u h)
  clear HX sa sb sw
  have cR := fun (u : World) (h : Below W.heap.size W u) (h1 : s.a.length ≤ 1000) (h2 : s.b.length ≤ 1000) => read_any _ s u h1 h2 (sV u h)
  cases hf : fewN s ws
  · rw [hf] at cF
    clear hf cR
    generalize ws.length = n at *
    --[a
    go_enter Try.func5, Try.ntmps5
    go_wp2_with (first
      | (go_at_call 10; refine (shown10 _).mono ?_; rintro e w1 ⟨rfl, bb1⟩; obtain ⟨t1a, t1b, t1c, t1d⟩ := cells _ bb1; have z1 : B < w1.heap.size := Nat.lt_of_lt_of_le hz bb1.size)
      | (go_at_call 11; go_must (refine (cF _ bb1).mono ?_); rintro e w2 ⟨rfl, b2⟩; have bb2 := bt bb1 b2; obtain ⟨t2a, t2b, t2c, t2d⟩ := cells _ bb2; have z2 : B < w2.heap.size := Nat.lt_of_lt_of_le hz bb2.size))
    go_ret
    exact ⟨rfl, HXX.out.fin bb2⟩
    --]a
  · rw [hf] at cF
    obtain ⟨f1, f2, f3⟩ := few_yes hf
    have cR' := fun (u : World) (h : Below W.heap.size W u) => cR u h (by omega) (by omega)
    have cT := fun (u : World) (h : Below W.heap.size W u) => torn_any _ _ s ws D u (by omega) (by omega) (by omega) (sV u h) (sW u h)
    obtain ⟨l1, l2⟩ := torn_len (s := s) (ws := ws) (D := D) (by omega) (by omega) (by omega)
    have hkl := kept_len (s := s) (by omega) (by omega)
    have cK := fun (u : World) (va' vb' : Value) (h1 : SeesI u va' (keptS s)) (h2 : SeesI u vb' (keptS s)) => ints_any va' vb' (keptS s) (keptS s) u (by omega) (by omega) h1 h2
    rw [decide_eq_true rfl] at cK
    have hX := fun (h : D < 3 + (ws.length : Int)) => read_torn (s := s) h
    have hY := fun (h : 3 + (ws.length : Int) ≤ D) => torn_write s ws D h
    have hZ := @read_write s ws
    have hw : writeS s ws = tornS s ws (3 + (ws.length : Int)) := (torn_write s ws _ (Int.le_refl _)).symm
    clear cR la lb lw hf
    cases hb : bigS s ws
    · have e1 : errS s ws = 0 := by unfold errS; rw [hb]; rfl
      have hZ' := hZ hb
      rw [e1] at cT
      obtain ⟨X, hXe⟩ : ∃ X, tornS s ws D = X := ⟨_, rfl⟩
      rw [hXe] at cT l1 l2
      have cRX := fun (u : World) (v : Value) (h : SeesN u v X) => read_any v X u l1 l2 h
      have cWX := fun (u : World) (h : Below W.heap.size W u) (v : Value) (sv : SeesN u v X) => write_any v _ X ws u l1 l2 (by omega) sv (sW u h)
      have cIw := fun (u : World) (h : Below W.heap.size W u) (v : Value) (sv : SeesI u v ws) => ints_any v _ ws ws u (by omega) (by omega) sv (sW u h)
      rw [decide_eq_true rfl] at cIw
      have cS := fun (u : World) (h : Below W.heap.size W u) => steps_any _ ws u (by omega) (sW u h)
      obtain ⟨m1, m2⟩ := write_len (s := X) (ws := ws) l1 l2 (by omega)
      clear hZ hw e1
      have hfx : ∃ F Y p q r, errS X ws = F ∧ writeS X ws = Y ∧ isS Y = p ∧ numS Y = q ∧ keptS Y = r ∧ (F = 0 → p = true ∧ r = ws) ∧ (F = 0 ∨ F = 5) := by
        refine ⟨_, _, _, _, _, rfl, rfl, rfl, rfl, rfl, ?_, ?_⟩
        · intro h0
          cases hbx : bigS X ws
          · exact ⟨(read_write hbx).1, (read_write hbx).2.2⟩
          · unfold errS at h0; rw [hbx] at h0; simp at h0
        · unfold errS; split <;> simp
      obtain ⟨F, Y, p, q, r, hF, hYe, hp, hq, hr, hF0, hF5⟩ := hfx
      rw [hF, hYe] at cWX
      rw [hYe] at m1 m2
      have cRY := fun (u : World) (v : Value) (h : SeesN u v Y) => read_any v Y u m1 m2 h
      rw [hp, hq, hr] at cRY
      clear hF hYe hp hq hr m1 m2
      by_cases hD : 3 + (ws.length : Int) ≤ D
      · have dD : decide (3 + (ws.length : Int) ≤ D) = true := decide_eq_true hD
        have hXw : X = writeS s ws := by rw [← hXe]; exact hY hD
        rw [← hXw] at hZ'
        obtain ⟨x1, x2, x3⟩ := hZ'
        rw [x1, x3] at cRX
        clear x1 x2 x3 hXw hXe hY hX hb l1 l2 cK hkl f1 f2
        generalize numS X = I2 at *
        generalize numS s = I at *
        generalize isS s = P at *
        rcases hF5 with rfl | rfl
        · obtain ⟨rfl, rfl⟩ := hF0 rfl
          clear hF0
          generalize r.length = n at *
          --[b
          go_enter Try.func5, Try.ntmps5
          go_wp2_with (first
            | (go_at_call 10; refine (shown10 _).mono ?_; rintro e w1 ⟨rfl, bb1⟩; obtain ⟨t1a, t1b, t1c, t1d⟩ := cells _ bb1; have z1 : B < w1.heap.size := Nat.lt_of_lt_of_le hz bb1.size)
            | (go_at_call 11; go_must (refine (cF _ bb1).mono ?_); rintro e w2 ⟨rfl, b2⟩; have bb2 := bt bb1 b2; obtain ⟨t2a, t2b, t2c, t2d⟩ := cells _ bb2; have z2 : B < w2.heap.size := Nat.lt_of_lt_of_le hz bb2.size)
            | (have _ := b6; go_at_call 12; go_must (refine (cRY _ _ sv6).mono ?_); rintro e w7 ⟨vr7, rfl, sr7, b7⟩; have bb7 := bt bb6a b7; obtain ⟨t7a, t7b, t7c, t7d⟩ := cells _ bb7; have z7 : B < w7.heap.size := Nat.lt_of_lt_of_le hz bb7.size; obtain ⟨ro7, rc7, hr7⟩ := sr7.slice; subst hr7; have sr5' := ((sr5.below b6).below (box_below w6 _)).below b7; have sr3'' := ((sr3'.below b6).below (box_below w6 _)).below b7)
            | (have _ := b4; go_at_call 12; go_must (refine (cRX _ _ sv4).mono ?_); rintro e w5 ⟨vr5, rfl, sr5, b5⟩; have bb5 := bt bb4a b5; obtain ⟨t5a, t5b, t5c, t5d⟩ := cells _ bb5; have z5 : B < w5.heap.size := Nat.lt_of_lt_of_le hz bb5.size; obtain ⟨ro5, rc5, hr5⟩ := sr5.slice; subst hr5; obtain ⟨q1, q2, q3, q4⟩ := four_cells (keep b5 hv4); have zz5 : w4.heap.size < w5.heap.size := lt_of_block (keep b5 hv4); have sr3' := ((sr3.below b4).below (box_below w4 _)).below b5; have sv4' := sv4.below b5)
            | (go_at_call 12; go_must (refine (cR' _ bb2).mono ?_); rintro e w3 ⟨vr3, rfl, sr3, b3⟩; have bb3 := bt bb2 b3; obtain ⟨t3a, t3b, t3c, t3d⟩ := cells _ bb3; have z3 : B < w3.heap.size := Nat.lt_of_lt_of_le hz bb3.size; obtain ⟨ro3, rc3, rfl⟩ := sr3.slice)
            | (have _ := b5; go_at_call 14; go_must (refine (cWX _ bb5 _ sv4').mono ?_); rintro e w6 ⟨v6, rfl, s6, b6⟩; have bb6 := bt bb5 b6; obtain ⟨t6a, t6b, t6c, t6d⟩ := cells _ bb6; have z6 : B < w6.heap.size := Nat.lt_of_lt_of_le hz bb6.size; obtain ⟨x6, y6, rfl, sx6, sy6, _, _⟩ := s6; obtain ⟨xo6, xc6, rfl⟩ := sx6.slice; obtain ⟨yo6, yc6, rfl⟩ := sy6.slice; have bb6a := bt bb6 (box_below w6 (.cells #[.slice xo6 Y.a.length xc6, .int .i64 Y.c, .slice yo6 Y.b.length yc6, .int .i64 Y.d] 27)); have z6a := bb6a.size; have hv6 := heap_new w6 (.cells #[.slice xo6 Y.a.length xc6, .int .i64 Y.c, .slice yo6 Y.b.length yc6, .int .i64 Y.d] 27); have sv6 : SeesN (w6.alloc (.cells #[.slice xo6 Y.a.length xc6, .int .i64 Y.c, .slice yo6 Y.b.length yc6, .int .i64 Y.d] 27)) (.agg #[.slice xo6 Y.a.length xc6, .int .i64 Y.c, .slice yo6 Y.b.length yc6, .int .i64 Y.d]) Y := ⟨_, _, rfl, sx6.below (box_below _ _), sy6.below (box_below _ _)⟩)
            | (go_at_call 16; go_must (refine (cT _ bb3).mono ?_); rintro e w4 ⟨v4, rfl, s4, b4⟩; have bb4 := bt bb3 b4; obtain ⟨t4a, t4b, t4c, t4d⟩ := cells _ bb4; have z4 : B < w4.heap.size := Nat.lt_of_lt_of_le hz bb4.size; obtain ⟨x4, y4, rfl, sx4, sy4, _, _⟩ := s4; obtain ⟨xo4, xc4, rfl⟩ := sx4.slice; obtain ⟨yo4, yc4, rfl⟩ := sy4.slice; have bb4a := bt bb4 (box_below w4 (.cells #[.slice xo4 X.a.length xc4, .int .i64 X.c, .slice yo4 X.b.length yc4, .int .i64 X.d] 27)); have z4a := bb4a.size; have hv4 := heap_new w4 (.cells #[.slice xo4 X.a.length xc4, .int .i64 X.c, .slice yo4 X.b.length yc4, .int .i64 X.d] 27); have sv4 : SeesN (w4.alloc (.cells #[.slice xo4 X.a.length xc4, .int .i64 X.c, .slice yo4 X.b.length yc4, .int .i64 X.d] 27)) (.agg #[.slice xo4 X.a.length xc4, .int .i64 X.c, .slice yo4 X.b.length yc4, .int .i64 X.d]) X := ⟨_, _, rfl, sx4.below (box_below _ _), sy4.below (box_below _ _)⟩)
            | (have _ := b8; go_at_call 18; go_must (refine (cIw _ bb8 _ sr5'').mono ?_); rintro e w10 ⟨rfl, b10⟩; have bb10 := bt bb8 b10; obtain ⟨t10a, t10b, t10c, t10d⟩ := cells _ bb10; have z10 : B < w10.heap.size := Nat.lt_of_lt_of_le hz bb10.size)
            | (go_at_call 18; go_must (refine (cIw _ bb7 _ sr7).mono ?_); rintro e w8 ⟨rfl, b8⟩; have bb8 := bt bb7 b8; obtain ⟨t8a, t8b, t8c, t8d⟩ := cells _ bb8; have z8 : B < w8.heap.size := Nat.lt_of_lt_of_le hz bb8.size; have sr5'' := sr5'.below b8; have sr3''' := sr3''.below b8)
            | (have _ := b8; go_at_call 23; go_must (refine (cS _ bb8).mono ?_); rintro e w9 ⟨rfl, rfl⟩))
          go_ret
          exact ⟨by simp, HXX.out.fin bb10⟩
          --]b
        · clear hF0
          generalize ws.length = n at *
          --[c
          go_enter Try.func5, Try.ntmps5
          go_wp2_with (first
            | (go_at_call 10; refine (shown10 _).mono ?_; rintro e w1 ⟨rfl, bb1⟩; obtain ⟨t1a, t1b, t1c, t1d⟩ := cells _ bb1; have z1 : B < w1.heap.size := Nat.lt_of_lt_of_le hz bb1.size)
            | (go_at_call 11; go_must (refine (cF _ bb1).mono ?_); rintro e w2 ⟨rfl, b2⟩; have bb2 := bt bb1 b2; obtain ⟨t2a, t2b, t2c, t2d⟩ := cells _ bb2; have z2 : B < w2.heap.size := Nat.lt_of_lt_of_le hz bb2.size)
            | (have _ := b6; go_at_call 12; go_must (refine (cRY _ _ sv6).mono ?_); rintro e w7 ⟨vr7, rfl, sr7, b7⟩; have bb7 := bt bb6a b7; obtain ⟨t7a, t7b, t7c, t7d⟩ := cells _ bb7; have z7 : B < w7.heap.size := Nat.lt_of_lt_of_le hz bb7.size; obtain ⟨ro7, rc7, hr7⟩ := sr7.slice; subst hr7; have sr5' := ((sr5.below b6).below (box_below w6 _)).below b7; have sr3'' := ((sr3'.below b6).below (box_below w6 _)).below b7)
            | (have _ := b4; go_at_call 12; go_must (refine (cRX _ _ sv4).mono ?_); rintro e w5 ⟨vr5, rfl, sr5, b5⟩; have bb5 := bt bb4a b5; obtain ⟨t5a, t5b, t5c, t5d⟩ := cells _ bb5; have z5 : B < w5.heap.size := Nat.lt_of_lt_of_le hz bb5.size; obtain ⟨ro5, rc5, hr5⟩ := sr5.slice; subst hr5; obtain ⟨q1, q2, q3, q4⟩ := four_cells (keep b5 hv4); have zz5 : w4.heap.size < w5.heap.size := lt_of_block (keep b5 hv4); have sr3' := ((sr3.below b4).below (box_below w4 _)).below b5; have sv4' := sv4.below b5)
            | (go_at_call 12; go_must (refine (cR' _ bb2).mono ?_); rintro e w3 ⟨vr3, rfl, sr3, b3⟩; have bb3 := bt bb2 b3; obtain ⟨t3a, t3b, t3c, t3d⟩ := cells _ bb3; have z3 : B < w3.heap.size := Nat.lt_of_lt_of_le hz bb3.size; obtain ⟨ro3, rc3, rfl⟩ := sr3.slice)
            | (have _ := b5; go_at_call 14; go_must (refine (cWX _ bb5 _ sv4').mono ?_); rintro e w6 ⟨v6, rfl, s6, b6⟩; have bb6 := bt bb5 b6; obtain ⟨t6a, t6b, t6c, t6d⟩ := cells _ bb6; have z6 : B < w6.heap.size := Nat.lt_of_lt_of_le hz bb6.size; obtain ⟨x6, y6, rfl, sx6, sy6, _, _⟩ := s6; obtain ⟨xo6, xc6, rfl⟩ := sx6.slice; obtain ⟨yo6, yc6, rfl⟩ := sy6.slice; have bb6a := bt bb6 (box_below w6 (.cells #[.slice xo6 Y.a.length xc6, .int .i64 Y.c, .slice yo6 Y.b.length yc6, .int .i64 Y.d] 27)); have z6a := bb6a.size; have hv6 := heap_new w6 (.cells #[.slice xo6 Y.a.length xc6, .int .i64 Y.c, .slice yo6 Y.b.length yc6, .int .i64 Y.d] 27); have sv6 : SeesN (w6.alloc (.cells #[.slice xo6 Y.a.length xc6, .int .i64 Y.c, .slice yo6 Y.b.length yc6, .int .i64 Y.d] 27)) (.agg #[.slice xo6 Y.a.length xc6, .int .i64 Y.c, .slice yo6 Y.b.length yc6, .int .i64 Y.d]) Y := ⟨_, _, rfl, sx6.below (box_below _ _), sy6.below (box_below _ _)⟩)
            | (go_at_call 16; go_must (refine (cT _ bb3).mono ?_); rintro e w4 ⟨v4, rfl, s4, b4⟩; have bb4 := bt bb3 b4; obtain ⟨t4a, t4b, t4c, t4d⟩ := cells _ bb4; have z4 : B < w4.heap.size := Nat.lt_of_lt_of_le hz bb4.size; obtain ⟨x4, y4, rfl, sx4, sy4, _, _⟩ := s4; obtain ⟨xo4, xc4, rfl⟩ := sx4.slice; obtain ⟨yo4, yc4, rfl⟩ := sy4.slice; have bb4a := bt bb4 (box_below w4 (.cells #[.slice xo4 X.a.length xc4, .int .i64 X.c, .slice yo4 X.b.length yc4, .int .i64 X.d] 27)); have z4a := bb4a.size; have hv4 := heap_new w4 (.cells #[.slice xo4 X.a.length xc4, .int .i64 X.c, .slice yo4 X.b.length yc4, .int .i64 X.d] 27); have sv4 : SeesN (w4.alloc (.cells #[.slice xo4 X.a.length xc4, .int .i64 X.c, .slice yo4 X.b.length yc4, .int .i64 X.d] 27)) (.agg #[.slice xo4 X.a.length xc4, .int .i64 X.c, .slice yo4 X.b.length yc4, .int .i64 X.d]) X := ⟨_, _, rfl, sx4.below (box_below _ _), sy4.below (box_below _ _)⟩)
            | (go_at_call 18; go_must (refine (cIw _ bb7 _ sr5').mono ?_); rintro e w10 ⟨rfl, b10⟩; have bb10 := bt bb7 b10; obtain ⟨t10a, t10b, t10c, t10d⟩ := cells _ bb10; have z10 : B < w10.heap.size := Nat.lt_of_lt_of_le hz bb10.size)
            | (go_at_call 23; go_must (refine (cS _ bb7).mono ?_); rintro e w9 ⟨rfl, rfl⟩))
          go_ret
          exact ⟨by simp, HXX.out.fin bb10⟩
          --]c
      · have dD : decide (3 + (ws.length : Int) ≤ D) = false := decide_eq_false hD
        obtain ⟨x1, x2, x3⟩ := hX (by omega)
        rw [hXe] at x1 x2 x3
        rw [x1, x2, x3] at cRX
        clear x1 x2 x3 hXe hY hX hb hZ' l1 l2 f1 f2
        generalize numS s = I at *
        generalize isS s = P at *
        generalize keptS s = K at *
        rcases hF5 with rfl | rfl
        · obtain ⟨rfl, rfl⟩ := hF0 rfl
          clear hF0
          generalize r.length = n at *
          --[d
          go_enter Try.func5, Try.ntmps5
          go_wp2_with (first
            | (go_at_call 10; refine (shown10 _).mono ?_; rintro e w1 ⟨rfl, bb1⟩; obtain ⟨t1a, t1b, t1c, t1d⟩ := cells _ bb1; have z1 : B < w1.heap.size := Nat.lt_of_lt_of_le hz bb1.size)
            | (go_at_call 11; go_must (refine (cF _ bb1).mono ?_); rintro e w2 ⟨rfl, b2⟩; have bb2 := bt bb1 b2; obtain ⟨t2a, t2b, t2c, t2d⟩ := cells _ bb2; have z2 : B < w2.heap.size := Nat.lt_of_lt_of_le hz bb2.size)
            | (have _ := b6; go_at_call 12; go_must (refine (cRY _ _ sv6).mono ?_); rintro e w7 ⟨vr7, rfl, sr7, b7⟩; have bb7 := bt bb6a b7; obtain ⟨t7a, t7b, t7c, t7d⟩ := cells _ bb7; have z7 : B < w7.heap.size := Nat.lt_of_lt_of_le hz bb7.size; obtain ⟨ro7, rc7, hr7⟩ := sr7.slice; subst hr7; have sr5' := ((sr5.below b6).below (box_below w6 _)).below b7; have sr3'' := ((sr3'.below b6).below (box_below w6 _)).below b7)
            | (have _ := b4; go_at_call 12; go_must (refine (cRX _ _ sv4).mono ?_); rintro e w5 ⟨vr5, rfl, sr5, b5⟩; have bb5 := bt bb4a b5; obtain ⟨t5a, t5b, t5c, t5d⟩ := cells _ bb5; have z5 : B < w5.heap.size := Nat.lt_of_lt_of_le hz bb5.size; obtain ⟨ro5, rc5, hr5⟩ := sr5.slice; subst hr5; obtain ⟨q1, q2, q3, q4⟩ := four_cells (keep b5 hv4); have zz5 : w4.heap.size < w5.heap.size := lt_of_block (keep b5 hv4); have sr3' := ((sr3.below b4).below (box_below w4 _)).below b5; have sv4' := sv4.below b5)
            | (go_at_call 12; go_must (refine (cR' _ bb2).mono ?_); rintro e w3 ⟨vr3, rfl, sr3, b3⟩; have bb3 := bt bb2 b3; obtain ⟨t3a, t3b, t3c, t3d⟩ := cells _ bb3; have z3 : B < w3.heap.size := Nat.lt_of_lt_of_le hz bb3.size; obtain ⟨ro3, rc3, rfl⟩ := sr3.slice)
            | (have _ := b5; go_at_call 14; go_must (refine (cWX _ bb5 _ sv4').mono ?_); rintro e w6 ⟨v6, rfl, s6, b6⟩; have bb6 := bt bb5 b6; obtain ⟨t6a, t6b, t6c, t6d⟩ := cells _ bb6; have z6 : B < w6.heap.size := Nat.lt_of_lt_of_le hz bb6.size; obtain ⟨x6, y6, rfl, sx6, sy6, _, _⟩ := s6; obtain ⟨xo6, xc6, rfl⟩ := sx6.slice; obtain ⟨yo6, yc6, rfl⟩ := sy6.slice; have bb6a := bt bb6 (box_below w6 (.cells #[.slice xo6 Y.a.length xc6, .int .i64 Y.c, .slice yo6 Y.b.length yc6, .int .i64 Y.d] 27)); have z6a := bb6a.size; have hv6 := heap_new w6 (.cells #[.slice xo6 Y.a.length xc6, .int .i64 Y.c, .slice yo6 Y.b.length yc6, .int .i64 Y.d] 27); have sv6 : SeesN (w6.alloc (.cells #[.slice xo6 Y.a.length xc6, .int .i64 Y.c, .slice yo6 Y.b.length yc6, .int .i64 Y.d] 27)) (.agg #[.slice xo6 Y.a.length xc6, .int .i64 Y.c, .slice yo6 Y.b.length yc6, .int .i64 Y.d]) Y := ⟨_, _, rfl, sx6.below (box_below _ _), sy6.below (box_below _ _)⟩)
            | (go_at_call 16; go_must (refine (cT _ bb3).mono ?_); rintro e w4 ⟨v4, rfl, s4, b4⟩; have bb4 := bt bb3 b4; obtain ⟨t4a, t4b, t4c, t4d⟩ := cells _ bb4; have z4 : B < w4.heap.size := Nat.lt_of_lt_of_le hz bb4.size; obtain ⟨x4, y4, rfl, sx4, sy4, _, _⟩ := s4; obtain ⟨xo4, xc4, rfl⟩ := sx4.slice; obtain ⟨yo4, yc4, rfl⟩ := sy4.slice; have bb4a := bt bb4 (box_below w4 (.cells #[.slice xo4 X.a.length xc4, .int .i64 X.c, .slice yo4 X.b.length yc4, .int .i64 X.d] 27)); have z4a := bb4a.size; have hv4 := heap_new w4 (.cells #[.slice xo4 X.a.length xc4, .int .i64 X.c, .slice yo4 X.b.length yc4, .int .i64 X.d] 27); have sv4 : SeesN (w4.alloc (.cells #[.slice xo4 X.a.length xc4, .int .i64 X.c, .slice yo4 X.b.length yc4, .int .i64 X.d] 27)) (.agg #[.slice xo4 X.a.length xc4, .int .i64 X.c, .slice yo4 X.b.length yc4, .int .i64 X.d]) X := ⟨_, _, rfl, sx4.below (box_below _ _), sy4.below (box_below _ _)⟩)
            | (have _ := b8; go_at_call 18; go_must (refine (cK _ _ _ sr3''' sr5'').mono ?_); rintro e w10 ⟨rfl, b10⟩; have bb10 := bt bb8 b10; obtain ⟨t10a, t10b, t10c, t10d⟩ := cells _ bb10; have z10 : B < w10.heap.size := Nat.lt_of_lt_of_le hz bb10.size)
            | (go_at_call 18; go_must (refine (cIw _ bb7 _ sr7).mono ?_); rintro e w8 ⟨rfl, b8⟩; have bb8 := bt bb7 b8; obtain ⟨t8a, t8b, t8c, t8d⟩ := cells _ bb8; have z8 : B < w8.heap.size := Nat.lt_of_lt_of_le hz bb8.size; have sr5'' := sr5'.below b8; have sr3''' := sr3''.below b8)
            | (have _ := b8; go_at_call 23; go_must (refine (cS _ bb8).mono ?_); rintro e w9 ⟨rfl, rfl⟩))
          go_ret
          exact ⟨by simp, HXX.out.fin bb10⟩
          --]d
        · clear hF0
          generalize ws.length = n at *
          --[e
          go_enter Try.func5, Try.ntmps5
          go_wp2_with (first
            | (go_at_call 10; refine (shown10 _).mono ?_; rintro e w1 ⟨rfl, bb1⟩; obtain ⟨t1a, t1b, t1c, t1d⟩ := cells _ bb1; have z1 : B < w1.heap.size := Nat.lt_of_lt_of_le hz bb1.size)
            | (go_at_call 11; go_must (refine (cF _ bb1).mono ?_); rintro e w2 ⟨rfl, b2⟩; have bb2 := bt bb1 b2; obtain ⟨t2a, t2b, t2c, t2d⟩ := cells _ bb2; have z2 : B < w2.heap.size := Nat.lt_of_lt_of_le hz bb2.size)
            | (have _ := b6; go_at_call 12; go_must (refine (cRY _ _ sv6).mono ?_); rintro e w7 ⟨vr7, rfl, sr7, b7⟩; have bb7 := bt bb6a b7; obtain ⟨t7a, t7b, t7c, t7d⟩ := cells _ bb7; have z7 : B < w7.heap.size := Nat.lt_of_lt_of_le hz bb7.size; obtain ⟨ro7, rc7, hr7⟩ := sr7.slice; subst hr7; have sr5' := ((sr5.below b6).below (box_below w6 _)).below b7; have sr3'' := ((sr3'.below b6).below (box_below w6 _)).below b7)
            | (have _ := b4; go_at_call 12; go_must (refine (cRX _ _ sv4).mono ?_); rintro e w5 ⟨vr5, rfl, sr5, b5⟩; have bb5 := bt bb4a b5; obtain ⟨t5a, t5b, t5c, t5d⟩ := cells _ bb5; have z5 : B < w5.heap.size := Nat.lt_of_lt_of_le hz bb5.size; obtain ⟨ro5, rc5, hr5⟩ := sr5.slice; subst hr5; obtain ⟨q1, q2, q3, q4⟩ := four_cells (keep b5 hv4); have zz5 : w4.heap.size < w5.heap.size := lt_of_block (keep b5 hv4); have sr3' := ((sr3.below b4).below (box_below w4 _)).below b5; have sv4' := sv4.below b5)
            | (go_at_call 12; go_must (refine (cR' _ bb2).mono ?_); rintro e w3 ⟨vr3, rfl, sr3, b3⟩; have bb3 := bt bb2 b3; obtain ⟨t3a, t3b, t3c, t3d⟩ := cells _ bb3; have z3 : B < w3.heap.size := Nat.lt_of_lt_of_le hz bb3.size; obtain ⟨ro3, rc3, rfl⟩ := sr3.slice)
            | (have _ := b5; go_at_call 14; go_must (refine (cWX _ bb5 _ sv4').mono ?_); rintro e w6 ⟨v6, rfl, s6, b6⟩; have bb6 := bt bb5 b6; obtain ⟨t6a, t6b, t6c, t6d⟩ := cells _ bb6; have z6 : B < w6.heap.size := Nat.lt_of_lt_of_le hz bb6.size; obtain ⟨x6, y6, rfl, sx6, sy6, _, _⟩ := s6; obtain ⟨xo6, xc6, rfl⟩ := sx6.slice; obtain ⟨yo6, yc6, rfl⟩ := sy6.slice; have bb6a := bt bb6 (box_below w6 (.cells #[.slice xo6 Y.a.length xc6, .int .i64 Y.c, .slice yo6 Y.b.length yc6, .int .i64 Y.d] 27)); have z6a := bb6a.size; have hv6 := heap_new w6 (.cells #[.slice xo6 Y.a.length xc6, .int .i64 Y.c, .slice yo6 Y.b.length yc6, .int .i64 Y.d] 27); have sv6 : SeesN (w6.alloc (.cells #[.slice xo6 Y.a.length xc6, .int .i64 Y.c, .slice yo6 Y.b.length yc6, .int .i64 Y.d] 27)) (.agg #[.slice xo6 Y.a.length xc6, .int .i64 Y.c, .slice yo6 Y.b.length yc6, .int .i64 Y.d]) Y := ⟨_, _, rfl, sx6.below (box_below _ _), sy6.below (box_below _ _)⟩)
            | (go_at_call 16; go_must (refine (cT _ bb3).mono ?_); rintro e w4 ⟨v4, rfl, s4, b4⟩; have bb4 := bt bb3 b4; obtain ⟨t4a, t4b, t4c, t4d⟩ := cells _ bb4; have z4 : B < w4.heap.size := Nat.lt_of_lt_of_le hz bb4.size; obtain ⟨x4, y4, rfl, sx4, sy4, _, _⟩ := s4; obtain ⟨xo4, xc4, rfl⟩ := sx4.slice; obtain ⟨yo4, yc4, rfl⟩ := sy4.slice; have bb4a := bt bb4 (box_below w4 (.cells #[.slice xo4 X.a.length xc4, .int .i64 X.c, .slice yo4 X.b.length yc4, .int .i64 X.d] 27)); have z4a := bb4a.size; have hv4 := heap_new w4 (.cells #[.slice xo4 X.a.length xc4, .int .i64 X.c, .slice yo4 X.b.length yc4, .int .i64 X.d] 27); have sv4 : SeesN (w4.alloc (.cells #[.slice xo4 X.a.length xc4, .int .i64 X.c, .slice yo4 X.b.length yc4, .int .i64 X.d] 27)) (.agg #[.slice xo4 X.a.length xc4, .int .i64 X.c, .slice yo4 X.b.length yc4, .int .i64 X.d]) X := ⟨_, _, rfl, sx4.below (box_below _ _), sy4.below (box_below _ _)⟩)
            | (go_at_call 18; go_must (refine (cK _ _ _ sr3'' sr5').mono ?_); rintro e w10 ⟨rfl, b10⟩; have bb10 := bt bb7 b10; obtain ⟨t10a, t10b, t10c, t10d⟩ := cells _ bb10; have z10 : B < w10.heap.size := Nat.lt_of_lt_of_le hz bb10.size)
            | (go_at_call 23; go_must (refine (cS _ bb7).mono ?_); rintro e w9 ⟨rfl, rfl⟩))
          go_ret
          exact ⟨by simp, HXX.out.fin bb10⟩
          --]e
    · have e1 : errS s ws = 5 := by unfold errS; rw [hb]; rfl
      have e2 : tornS s ws D = s := torn_big hb D
      rw [e1, e2] at cT
      rw [e2] at l1 l2
      have cRX := fun (u : World) (v : Value) (h : SeesN u v s) => read_any v s u l1 l2 h
      clear hb e1 e2 hX hY hZ hw l1 l2 hkl f1 f2
      generalize numS s = I at *
      generalize isS s = P at *
      generalize keptS s = K at *
      generalize ws.length = n at *
      --[f
      go_enter Try.func5, Try.ntmps5
      go_wp2_with (first
        | (go_at_call 10; refine (shown10 _).mono ?_; rintro e w1 ⟨rfl, bb1⟩; obtain ⟨t1a, t1b, t1c, t1d⟩ := cells _ bb1; have z1 : B < w1.heap.size := Nat.lt_of_lt_of_le hz bb1.size)
        | (go_at_call 11; go_must (refine (cF _ bb1).mono ?_); rintro e w2 ⟨rfl, b2⟩; have bb2 := bt bb1 b2; obtain ⟨t2a, t2b, t2c, t2d⟩ := cells _ bb2; have z2 : B < w2.heap.size := Nat.lt_of_lt_of_le hz bb2.size)
        | (have _ := b4; go_at_call 12; go_must (refine (cRX _ _ sv4).mono ?_); rintro e w5 ⟨vr5, rfl, sr5, b5⟩; have bb5 := bt bb4a b5; obtain ⟨t5a, t5b, t5c, t5d⟩ := cells _ bb5; have z5 : B < w5.heap.size := Nat.lt_of_lt_of_le hz bb5.size; obtain ⟨ro5, rc5, hr5⟩ := sr5.slice; subst hr5; obtain ⟨q1, q2, q3, q4⟩ := four_cells (keep b5 hv4); have zz5 : w4.heap.size < w5.heap.size := lt_of_block (keep b5 hv4); have sr3' := ((sr3.below b4).below (box_below w4 _)).below b5; have sv4' := sv4.below b5)
        | (go_at_call 12; go_must (refine (cR' _ bb2).mono ?_); rintro e w3 ⟨vr3, rfl, sr3, b3⟩; have bb3 := bt bb2 b3; obtain ⟨t3a, t3b, t3c, t3d⟩ := cells _ bb3; have z3 : B < w3.heap.size := Nat.lt_of_lt_of_le hz bb3.size; obtain ⟨ro3, rc3, rfl⟩ := sr3.slice)
        | (go_at_call 16; go_must (refine (cT _ bb3).mono ?_); rintro e w4 ⟨v4, rfl, s4, b4⟩; have bb4 := bt bb3 b4; obtain ⟨t4a, t4b, t4c, t4d⟩ := cells _ bb4; have z4 : B < w4.heap.size := Nat.lt_of_lt_of_le hz bb4.size; obtain ⟨x4, y4, rfl, sx4, sy4, _, _⟩ := s4; obtain ⟨xo4, xc4, rfl⟩ := sx4.slice; obtain ⟨yo4, yc4, rfl⟩ := sy4.slice; have bb4a := bt bb4 (box_below w4 (.cells #[.slice xo4 s.a.length xc4, .int .i64 s.c, .slice yo4 s.b.length yc4, .int .i64 s.d] 27)); have z4a := bb4a.size; have hv4 := heap_new w4 (.cells #[.slice xo4 s.a.length xc4, .int .i64 s.c, .slice yo4 s.b.length yc4, .int .i64 s.d] 27); have sv4 : SeesN (w4.alloc (.cells #[.slice xo4 s.a.length xc4, .int .i64 s.c, .slice yo4 s.b.length yc4, .int .i64 s.d] 27)) (.agg #[.slice xo4 s.a.length xc4, .int .i64 s.c, .slice yo4 s.b.length yc4, .int .i64 s.d]) s := ⟨_, _, rfl, sx4.below (box_below _ _), sy4.below (box_below _ _)⟩)
        | (go_at_call 18; go_must (refine (cK _ _ _ sr3' sr5).mono ?_); rintro e w6 ⟨rfl, b6⟩; have bb6 := bt bb5 b6; obtain ⟨t6a, t6b, t6c, t6d⟩ := cells _ bb6; have z6 : B < w6.heap.size := Nat.lt_of_lt_of_le hz bb6.size))
      go_ret
      exact ⟨by simp, HXX.out.fin bb6⟩
      --]f
end Go.Proofs.Ytcfobifldlkfnaa.Gr
