/-
  The walk of NvramTells.
-/
import Derived.Test.YtcfobifldlkfnaaNLn
import Derived.Test.YtcfobifldlkfnaaNWw
import Derived.Test.YtcfobifldlkfnaaNRr
namespace Go.Proofs.Ytcfobifldlkfnaa.Gr
open Go.RowKit Go.Sort Qm Nm
set_option linter.unusedVariables false
set_option linter.unusedSimpArgs false

theorem Nm.kept_lenT {s : Nv} (h1 : s.a.length ≤ 1000) (h2 : s.b.length ≤ 1000) : (keptS s).length ≤ 1000 := by
  unfold keptS
  split
  · rw [List.length_drop]; omega
  · split
    · rw [List.length_drop]; omega
    · simp
set_option maxRecDepth 20000 in
set_option maxHeartbeats 4000000 in
theorem nvramTells_walk (v : Value) (s : Nv) (vw' : Value) (ws : List Int) (D : Int) (w : World) (sv : SeesN w v s) (la : s.a.length ≤ 100000000000000) (lb : s.b.length ≤ 100000000000000) (sw : SeesI w vw' ws) (lw : ws.length ≤ 100000000000000) (rw' : ∀ x ∈ ws, -9223372036854775808 ≤ x ∧ x ≤ 9223372036854775807) :
    Calls Try.prog 3 #[v, vw', .int .i64 D] w fun e w' => e = .returned (.bool true) ∧ Below w.heap.size w w' := by
  clear rw'
  obtain ⟨va, vb', rfl, sa, sb⟩ := sv
  obtain ⟨ao, acap, rfl⟩ := sa.slice
  obtain ⟨bo, bcap, rfl⟩ := sb.slice
  obtain ⟨wo, wcap, rfl⟩ := sw.slice
  have HX := bx_mk w _ _ s sa sb
  obtain ⟨W, hW⟩ : ∃ W, w.alloc (.cells #[.slice ao s.a.length acap, .int .i64 s.c, .slice bo s.b.length bcap, .int .i64 s.d] 27) = W := ⟨_, rfl⟩
  rw [hW] at HX
  have sW := fun (u : World) (h : Below W.heap.size W u) => (sw.below HX.below).below h
  have sV := HX.sees
  have cF := fun (u : World) (h : Below W.heap.size W u) => few_any _ _ s ws u la lb lw (sV u h) (sW u h)
  obtain ⟨B, hBe⟩ : ∃ B, w.heap.size = B := ⟨_, rfl⟩
  rw [hBe] at HX ⊢
  have hz := lt_of_block (HX.cells W (Below.refl _ _))
  obtain ⟨p1, p2, p3, p4⟩ := four_cells (HX.cells W (Below.refl _ _))
  have HXX : Hid (Bx w W B _ _ s) := HX
  have cells := fun (u : World) (h : Below W.heap.size W u) => four_cells (HX.cells u h)
  clear HX sa sb sw
  have cR := fun (u : World) (h : Below W.heap.size W u) (h1 : s.a.length ≤ 1000) (h2 : s.b.length ≤ 1000) => read_any _ s u h1 h2 (sV u h)
  cases hf : fewN s ws
  · rw [hf] at cF
    clear hf cR
    generalize ws.length = n at *
    --[a
    go_enter Try.func3, Try.ntmps3
    go_wp2_with (first
      | (go_at_call 10; refine (shown10 _).mono ?_; rintro e w1 ⟨rfl, bb1⟩; obtain ⟨t1a, t1b, t1c, t1d⟩ := cells _ bb1; have z1 : B < w1.heap.size := Nat.lt_of_lt_of_le hz bb1.size)
      | (go_at_call 11; go_must (refine (cF _ bb1).mono ?_); rintro e w2 ⟨rfl, b2⟩; have bb2 := bt bb1 b2; obtain ⟨t2a, t2b, t2c, t2d⟩ := cells _ bb2; have z2 : B < w2.heap.size := Nat.lt_of_lt_of_le hz bb2.size))
    go_ret
    exact ⟨rfl, HXX.out.fin bb2⟩
    --]a
  · rw [hf] at cF
    obtain ⟨f1, f2, f3⟩ := few_yes hf
    have cR' := fun (u : World) (h : Below W.heap.size W u) => cR u h (by omega) (by omega)
    have cRr := fun (u : World) (h : Below W.heap.size W u) => rread_any _ s u (by omega) (by omega) (sV u h)
    have cW := fun (u : World) (h : Below W.heap.size W u) => write_any _ _ s ws u (by omega) (by omega) (by omega) (sV u h) (sW u h)
    have cWr := fun (u : World) (h : Below W.heap.size W u) => rwrite_any _ _ s ws u (by omega) (by omega) (by omega) (sV u h) (sW u h)
    have cT := fun (u : World) (h : Below W.heap.size W u) => torn_any _ _ s ws D u (by omega) (by omega) (by omega) (sV u h) (sW u h)
    have cTr := fun (u : World) (h : Below W.heap.size W u) => rtornN _ _ s ws D u (by omega) (by omega) (by omega) (sV u h) (sW u h)
    obtain ⟨l1, l2⟩ := torn_len (s := s) (ws := ws) (D := D) (by omega) (by omega) (by omega)
    obtain ⟨k1, k2⟩ := write_len (s := s) (ws := ws) (by omega) (by omega) (by omega)
    have hkl := kept_lenT (s := s) (by omega) (by omega)
    have cK := fun (u : World) (va' vb' : Value) (h1 : SeesI u va' (keptS s)) (h2 : SeesI u vb' (keptS s)) => ints_any va' vb' (keptS s) (keptS s) u (by omega) (by omega) h1 h2
    rw [decide_eq_true rfl] at cK
    have cC := fun (u : World) (h : Below W.heap.size W u) => commit_any _ ws u (by omega) (sW u h)
    have cCr := fun (u : World) (h : Below W.heap.size W u) => rcommit_any _ ws u (by omega) (sW u h)
    have cS := fun (u : World) (h : Below W.heap.size W u) => steps_any _ ws u (by omega) (sW u h)
    have cSr := fun (u : World) (h : Below W.heap.size W u) => rsteps_any _ ws u (by omega) (sW u h)
    obtain ⟨Y, hY⟩ : ∃ Y, writeS s ws = Y := ⟨_, rfl⟩
    obtain ⟨X, hX⟩ : ∃ X, tornS s ws D = X := ⟨_, rfl⟩
    rw [hY] at cW cWr k1 k2
    rw [hX] at cT cTr l1 l2
    have cE := fun (u : World) (h : Below W.heap.size W u) (v : Value) (sv : SeesN u v Y) => same_any v _ Y s u k1 k2 (by omega) (by omega) sv (sV u h)
    have cEr := fun (u : World) (h : Below W.heap.size W u) (v : Value) (sv : SeesN u v Y) => rsameN_any v _ Y s u k1 k2 (by omega) (by omega) sv (sV u h)
    have cYY := fun (u : World) (v v' : Value) (sv : SeesN u v Y) (sv' : SeesN u v' Y) => rsameN_any v v' Y Y u k1 k2 k1 k2 sv sv'
    have cXX := fun (u : World) (v v' : Value) (sv : SeesN u v X) (sv' : SeesN u v' X) => rsameN_any v v' X X u l1 l2 l1 l2 sv sv'
    rw [sameN_refl] at cYY cXX
    clear hY hX k1 k2 l1 l2 hkl cR la lb lw hf f1 f2
    generalize errS s ws = F at *
    generalize sameN Y s = E at *
    generalize comS ws = CM at *
    generalize numS s = I at *
    generalize isS s = P at *
    generalize keptS s = K at *
    generalize ws.length = n at *
    --[b
    go_enter Try.func3, Try.ntmps3
    go_upto_region 10 with (first
      | (go_at_call 10; refine (shown10 _).mono ?_; rintro e w1 ⟨rfl, bb1⟩; obtain ⟨t1a, t1b, t1c, t1d⟩ := cells _ bb1; have z1 : B < w1.heap.size := Nat.lt_of_lt_of_le hz bb1.size)
      | (go_at_call 11; go_must (refine (cF _ bb1).mono ?_); rintro e w2 ⟨rfl, b2⟩; have bb2 := bt bb1 b2; obtain ⟨t2a, t2b, t2c, t2d⟩ := cells _ bb2; have z2 : B < w2.heap.size := Nat.lt_of_lt_of_le hz bb2.size)
      | (go_at_call 12; go_must (refine (cR' _ bb2).mono ?_); rintro e w3 ⟨vr3, rfl, sr3, b3⟩; have bb3 := bt bb2 b3; obtain ⟨t3a, t3b, t3c, t3d⟩ := cells _ bb3; have z3 : B < w3.heap.size := Nat.lt_of_lt_of_le hz bb3.size; obtain ⟨ro3, rc3, rfl⟩ := sr3.slice)
      | (go_at_call 13; go_must (refine (cRr _ bb3).mono ?_); rintro e w4 ⟨vr4, rfl, sr4, b4⟩; have bb4 := bt bb3 b4; obtain ⟨t4a, t4b, t4c, t4d⟩ := cells _ bb4; have z4 : B < w4.heap.size := Nat.lt_of_lt_of_le hz bb4.size; obtain ⟨ro4, rc4, rfl⟩ := sr4.slice; have sr3a := sr3.below b4)
      | (go_at_call 14; go_must (refine (cW _ bb4).mono ?_); rintro e w5 ⟨v5, rfl, s5, b5⟩; have bb5 := bt bb4 b5; obtain ⟨t5a, t5b, t5c, t5d⟩ := cells _ bb5; have z5 : B < w5.heap.size := Nat.lt_of_lt_of_le hz bb5.size; obtain ⟨x5, y5, rfl, sx5, sy5, _, _⟩ := s5; obtain ⟨xo5, xc5, rfl⟩ := sx5.slice; obtain ⟨yo5, yc5, rfl⟩ := sy5.slice; have bb5a := bt bb5 (box_below w5 (.cells #[.slice xo5 Y.a.length xc5, .int .i64 Y.c, .slice yo5 Y.b.length yc5, .int .i64 Y.d] 27)); have z5a := bb5a.size; have bx5 := box_below w5 (.cells #[.slice xo5 Y.a.length xc5, .int .i64 Y.c, .slice yo5 Y.b.length yc5, .int .i64 Y.d] 27); have hv5 := heap_new w5 (.cells #[.slice xo5 Y.a.length xc5, .int .i64 Y.c, .slice yo5 Y.b.length yc5, .int .i64 Y.d] 27); have sv5 : SeesN (w5.alloc (.cells #[.slice xo5 Y.a.length xc5, .int .i64 Y.c, .slice yo5 Y.b.length yc5, .int .i64 Y.d] 27)) (.agg #[.slice xo5 Y.a.length xc5, .int .i64 Y.c, .slice yo5 Y.b.length yc5, .int .i64 Y.d]) Y := ⟨_, _, rfl, sx5.below (box_below _ _), sy5.below (box_below _ _)⟩)
      | (go_at_call 15; go_must (refine (cWr _ bb5a).mono ?_); rintro e w6 ⟨v6, rfl, s6, b6⟩; have bb6 := bt bb5a b6; obtain ⟨t6a, t6b, t6c, t6d⟩ := cells _ bb6; have z6 : B < w6.heap.size := Nat.lt_of_lt_of_le hz bb6.size; obtain ⟨x6, y6, rfl, sx6, sy6⟩ := s6; obtain ⟨xo6, xc6, rfl⟩ := sx6.slice; obtain ⟨yo6, yc6, rfl⟩ := sy6.slice; have bb6a := bt bb6 (box_below w6 (.cells #[.slice xo6 Y.a.length xc6, .int .i64 Y.c, .slice yo6 Y.b.length yc6, .int .i64 Y.d] 27)); have z6a := bb6a.size; have bx6 := box_below w6 (.cells #[.slice xo6 Y.a.length xc6, .int .i64 Y.c, .slice yo6 Y.b.length yc6, .int .i64 Y.d] 27); have hv6 := heap_new w6 (.cells #[.slice xo6 Y.a.length xc6, .int .i64 Y.c, .slice yo6 Y.b.length yc6, .int .i64 Y.d] 27); have sv6 : SeesN (w6.alloc (.cells #[.slice xo6 Y.a.length xc6, .int .i64 Y.c, .slice yo6 Y.b.length yc6, .int .i64 Y.d] 27)) (.agg #[.slice xo6 Y.a.length xc6, .int .i64 Y.c, .slice yo6 Y.b.length yc6, .int .i64 Y.d]) Y := ⟨_, _, rfl, sx6.below (box_below _ _), sy6.below (box_below _ _)⟩)
      | (go_at_call 16; go_must (refine (cT _ bb6a).mono ?_); rintro e w7 ⟨v7, rfl, s7, b7⟩; have bb7 := bt bb6a b7; obtain ⟨t7a, t7b, t7c, t7d⟩ := cells _ bb7; have z7 : B < w7.heap.size := Nat.lt_of_lt_of_le hz bb7.size; obtain ⟨x7, y7, rfl, sx7, sy7, _, _⟩ := s7; obtain ⟨xo7, xc7, rfl⟩ := sx7.slice; obtain ⟨yo7, yc7, rfl⟩ := sy7.slice; have bb7a := bt bb7 (box_below w7 (.cells #[.slice xo7 X.a.length xc7, .int .i64 X.c, .slice yo7 X.b.length yc7, .int .i64 X.d] 27)); have z7a := bb7a.size; have bx7 := box_below w7 (.cells #[.slice xo7 X.a.length xc7, .int .i64 X.c, .slice yo7 X.b.length yc7, .int .i64 X.d] 27); have hv7 := heap_new w7 (.cells #[.slice xo7 X.a.length xc7, .int .i64 X.c, .slice yo7 X.b.length yc7, .int .i64 X.d] 27); have sv7 : SeesN (w7.alloc (.cells #[.slice xo7 X.a.length xc7, .int .i64 X.c, .slice yo7 X.b.length yc7, .int .i64 X.d] 27)) (.agg #[.slice xo7 X.a.length xc7, .int .i64 X.c, .slice yo7 X.b.length yc7, .int .i64 X.d]) X := ⟨_, _, rfl, sx7.below (box_below _ _), sy7.below (box_below _ _)⟩)
      | (go_at_call 17; go_must (refine (cTr _ bb7a).mono ?_); rintro e w8 ⟨v8, rfl, s8, b8⟩; have bb8 := bt bb7a b8; obtain ⟨t8a, t8b, t8c, t8d⟩ := cells _ bb8; have z8 : B < w8.heap.size := Nat.lt_of_lt_of_le hz bb8.size; obtain ⟨x8, y8, rfl, sx8, sy8⟩ := s8; obtain ⟨xo8, xc8, rfl⟩ := sx8.slice; obtain ⟨yo8, yc8, rfl⟩ := sy8.slice; have bb8a := bt bb8 (box_below w8 (.cells #[.slice xo8 X.a.length xc8, .int .i64 X.c, .slice yo8 X.b.length yc8, .int .i64 X.d] 27)); have z8a := bb8a.size; have bx8 := box_below w8 (.cells #[.slice xo8 X.a.length xc8, .int .i64 X.c, .slice yo8 X.b.length yc8, .int .i64 X.d] 27); have hv8 := heap_new w8 (.cells #[.slice xo8 X.a.length xc8, .int .i64 X.c, .slice yo8 X.b.length yc8, .int .i64 X.d] 27); have sv8 : SeesN (w8.alloc (.cells #[.slice xo8 X.a.length xc8, .int .i64 X.c, .slice yo8 X.b.length yc8, .int .i64 X.d] 27)) (.agg #[.slice xo8 X.a.length xc8, .int .i64 X.c, .slice yo8 X.b.length yc8, .int .i64 X.d]) X := ⟨_, _, rfl, sx8.below (box_below _ _), sy8.below (box_below _ _)⟩))
    have e7 := bt b8 bx8
    have e6 := bt (bt b7 bx7) e7
    have e5 := bt (bt b6 bx6) e6
    have h5 := keep e5 hv5
    have h6 := keep e6 hv6
    have h7 := keep e7 hv7
    have h8 := hv8
    have s5 := sv5.below e5
    have s6 := sv6.below e6
    have s7 := sv7.below e7
    have s8 := sv8
    have rk3 := sr3a.below (bt (bt b5 bx5) e5)
    have rk4 := sr4.below (bt (bt b5 bx5) e5)
    have bbV := bb8a
    obtain ⟨V, hV⟩ : ∃ V, w8.alloc (.cells #[.slice xo8 X.a.length xc8, .int .i64 X.c, .slice yo8 X.b.length yc8, .int .i64 X.d] 27) = V := ⟨_, rfl⟩
    rw [hV] at h5 h6 h7 h8 s5 s6 s7 s8 rk3 rk4 bbV ⊢
    obtain ⟨n1, n2, n3, n4⟩ := cells _ bbV
    obtain ⟨o1, o2, o3, o4⟩ := four_cells h5
    have q1 := cell_regrown n1
    have q2 := cell_regrown n2
    have q3 := cell_regrown n3
    have q4 := cell_regrown n4
    have q5 := cell_regrown o1
    have q6 := cell_regrown o2
    have q7 := cell_regrown o3
    have q8 := cell_regrown o4
    have gK := fun d os => Calls.regrown_of (cK (grow (redrawn V d) os) _ _ (rk3.below (below_regrown V d os)) (rk4.below (below_regrown V d os)))
    have gC := fun d os => Calls.regrown_of (cC (grow (redrawn V d) os) (bt bbV (below_regrown V d os)))
    have gCr := fun d os => Calls.regrown_of (cCr (grow (redrawn V d) os) (bt bbV (below_regrown V d os)))
    have gE := fun d os => Calls.regrown_of (cE (grow (redrawn V d) os) (bt bbV (below_regrown V d os)) _ (s5.below (below_regrown V d os)))
    have gEr := fun d os => Calls.regrown_of (cEr (grow (redrawn V d) os) (bt bbV (below_regrown V d os)) _ (s5.below (below_regrown V d os)))
    have HK : Hid (_ ∧ _ ∧ _ ∧ _ ∧ _ ∧ _ ∧ _ ∧ _ ∧ _) := ⟨h5, h6, h7, h8, s5, s6, s7, s8, bbV⟩
    clear h5 h6 h7 h8 s5 s6 s7 s8 bbV rk3 rk4 e5 e6 e7 n1 n2 n3 n4 o1 o2 o3 o4 hV cK cC cCr cE cEr
    clear hv5 hv6 hv7 hv8 sv5 sv6 sv7 sv8 sr3a sr4 cT cTr cW cWr cRr cR' cF
    refine wp_region_quiet_below (by kernel_rfl) (by kernel_rfl) ?_
    repeat (go_big_quiet_step (first
      | (go_at_call 18; exact gK _ _)
      | (go_at_call 19; exact gC _ _)
      | (go_at_call 20; exact gCr _ _)
      | (go_at_call 21; exact gE _ _)
      | (go_at_call 22; exact gEr _ _)))
    refine wpQuiet_nil ?_
    intro _ hw'
    obtain ⟨⟨dq, osq⟩, hw''⟩ := hw'
    subst hw''
    have bz := below_regrown V dq osq
    obtain ⟨h5, h6, h7, h8, s5, s6, s7, s8, bbV⟩ := HK.out
    have g5 := keep bz h5
    have g6 := keep bz h6
    have g7 := keep bz h7
    have g8 := keep bz h8
    have r5 := s5.below bz
    have r6 := s6.below bz
    have r7 := s7.below bz
    have r8 := s8.below bz
    have bbU := bt bbV bz
    clear h5 h6 h7 h8 s5 s6 s7 s8 bbV bz HK q1 q2 q3 q4 q5 q6 q7 q8 gK gC gCr gE gEr
    generalize grow (redrawn V dq) osq = u at g5 g6 g7 g8 r5 r6 r7 r8 bbU ⊢
    obtain ⟨m1, m2, m3, m4⟩ := four_cells g5
    obtain ⟨m5, m6, m7, m8⟩ := four_cells g6
    have y7 : Hid (_) := g7
    have y8 : Hid (_) := g8
    clear g5 g6 g7 g8
    go_wp2_with (first
      | (have _ := b9; go_at_call 22; go_must (refine (cXX _ _ _ (r7.below b9) (r8.below b9)).mono ?_); rintro e w10 ⟨rfl, b10⟩; have bb10 := bt bb9 b10)
      | (go_at_call 22; go_must (refine (cYY _ _ _ r5 r6).mono ?_); rintro e w9 ⟨rfl, b9⟩; have bb9 := bt bbU b9; obtain ⟨i1, i2, i3, i4⟩ := four_cells (keep b9 y7.out); obtain ⟨i5, i6, i7, i8⟩ := four_cells (keep b9 y8.out))
      | (go_at_call 23; go_must (refine (cS _ bb10).mono ?_); rintro e w11 ⟨rfl, rfl⟩)
      | (go_at_call 24; go_must (refine (cSr _ bb10).mono ?_); rintro e w12 ⟨rfl, rfl⟩))
    go_ret
    exact ⟨by simp, HXX.out.fin bb10⟩
    --]b
end Go.Proofs.Ytcfobifldlkfnaa.Gr
