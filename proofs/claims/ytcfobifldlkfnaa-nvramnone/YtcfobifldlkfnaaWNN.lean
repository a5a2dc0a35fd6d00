/-
  The walk of NvramNone.
-/
import Derived.Test.YtcfobifldlkfnaaNLn
import Derived.Test.YtcfobifldlkfnaaNWw
import Derived.Test.YtcfobifldlkfnaaNRr
namespace Go.Proofs.Ytcfobifldlkfnaa.Gr
open Go.RowKit Go.Sort Qm Nm
set_option linter.unusedVariables false
set_option linter.unusedSimpArgs false

set_option maxRecDepth 20000 in
set_option maxHeartbeats 4000000 in
theorem nvramNone_walk (v : Value) (s : Nv) (vw' : Value) (ws : List Int) (w : World) (sv : SeesN w v s) (la : s.a.length ≤ 100000000000000) (lb : s.b.length ≤ 100000000000000) (sw : SeesI w vw' ws) (lw : ws.length ≤ 100000000000000) (rw' : ∀ x ∈ ws, -9223372036854775808 ≤ x ∧ x ≤ 9223372036854775807) :
    Calls Try.prog 9 #[v, vw'] w fun e w' => e = .returned (.bool true) ∧ Below w.heap.size w w' := by
  clear rw'
  obtain ⟨va, vb', rfl, sa, sb⟩ := sv
  obtain ⟨ao, acap, rfl⟩ := sa.slice
  obtain ⟨bo, bcap, rfl⟩ := sb.slice
  obtain ⟨wo, wcap, rfl⟩ := sw.slice
  have HX := bx_mk w _ _ s sa sb
  obtain ⟨W, hW⟩ : ∃ W, w.alloc (.cells #[.slice ao s.a.length acap, .int .i64 s.c, .slice bo s.b.length bcap, .int .i64 s.d] 27) = W := ⟨_, rfl⟩
  rw [hW] at HX
  have sW := fun (u : World) (h : Below W.heap.size W u) => (sw.below HX.below).below h
  have sV := HX.sees
  have cF := fun (u : World) (h : Below W.heap.size W u) => few_any _ _ s ws u la lb lw (sV u h) (sW u h)
  obtain ⟨B, hBe⟩ : ∃ B, w.heap.size = B := ⟨_, rfl⟩
  rw [hBe] at HX ⊢
  have hz := lt_of_block (HX.cells W (Below.refl _ _))
  obtain ⟨p1, p2, p3, p4⟩ := four_cells (HX.cells W (Below.refl _ _))
  have HXX : Hid (Bx w W B _ _ s) := HX
  have cells := fun (u : World) (h : Below W.heap.size W u) => four_cells (HX.cells u h)
  clear HX sa sb sw
  have cR := fun (u : World) (h : Below W.heap.size W u) (h1 : s.a.length ≤ 1000) (h2 : s.b.length ≤ 1000) => read_any _ s u h1 h2 (sV u h)
  cases hf : fewN s ws
  · rw [hf] at cF
    clear hf cR
    generalize ws.length = n at *
    --[a
    go_enter Try.func9, Try.ntmps9
    go_wp2_with (first
      | (go_at_call 10; refine (shown10 _).mono ?_; rintro e w1 ⟨rfl, bb1⟩; obtain ⟨t1a, t1b, t1c, t1d⟩ := cells _ bb1; have z1 : B < w1.heap.size := Nat.lt_of_lt_of_le hz bb1.size)
      | (go_at_call 11; go_must (refine (cF _ bb1).mono ?_); rintro e w2 ⟨rfl, b2⟩; have bb2 := bt bb1 b2; obtain ⟨t2a, t2b, t2c, t2d⟩ := cells _ bb2; have z2 : B < w2.heap.size := Nat.lt_of_lt_of_le hz bb2.size))
    go_ret
    exact ⟨rfl, HXX.out.fin bb2⟩
    --]a
  · rw [hf] at cF
    obtain ⟨f1, f2, f3⟩ := few_yes hf
    by_cases h6 : 600 < ws.length
    · have d6 : decide ((600 : Int) < (ws.length : Int)) = true := decide_eq_true (by omega)
      clear cR la lb lw f1 f2 f3
      generalize ws.length = n at *
      --[b
      go_enter Try.func9, Try.ntmps9
      go_wp2_with (first
        | (go_at_call 10; refine (shown10 _).mono ?_; rintro e w1 ⟨rfl, bb1⟩; obtain ⟨t1a, t1b, t1c, t1d⟩ := cells _ bb1; have z1 : B < w1.heap.size := Nat.lt_of_lt_of_le hz bb1.size)
        | (go_at_call 11; go_must (refine (cF _ bb1).mono ?_); rintro e w2 ⟨rfl, b2⟩; have bb2 := bt bb1 b2; obtain ⟨t2a, t2b, t2c, t2d⟩ := cells _ bb2; have z2 : B < w2.heap.size := Nat.lt_of_lt_of_le hz bb2.size))
      go_ret
      exact ⟨rfl, HXX.out.fin bb2⟩
      --]b
    · have d6 : decide ((600 : Int) < (ws.length : Int)) = false := decide_eq_false (by omega)
      have cR' := fun (u : World) (h : Below W.heap.size W u) => cR u h (by omega) (by omega)
      have hnr := numS_range s
      clear cR la lb lw
      cases hp : isS s
      · obtain ⟨h0, hn0, hk0⟩ := isS_no hp
        rw [hp, hn0, hk0] at cR'
        have hbig : bigS s ws = false := by unfold bigS; rw [hn0, decide_eq_false h6]; rfl
        have e1 : errS s ws = 0 := by unfold errS; rw [hbig]; rfl
        have eW : writeS s ws = ⟨1 :: ws, comS (1 :: ws), s.b, s.d⟩ := by
          unfold writeS
          rw [hbig]
          unfold putS toS recS
          rw [hn0, h0]
          rfl
        obtain ⟨r1, r2, r3⟩ := read_write hbig
        rw [hn0] at r2
        have cW := fun (u : World) (h : Below W.heap.size W u) => write_any _ _ s ws u (by omega) (by omega) (by omega) (sV u h) (sW u h)
        obtain ⟨l1, l2⟩ := write_len (s := s) (ws := ws) (by omega) (by omega) (by omega)
        rw [e1] at cW
        rw [eW] at cW r1 r2 r3 l1 l2
        have hlb : s.b.length ≤ 1000 := by omega
        generalize comS (1 :: ws) = CM at *
        obtain ⟨L, hL⟩ : ∃ L, 1 :: ws = L := ⟨_, rfl⟩
        rw [hL] at cW r1 r2 r3 l1 l2
        clear hL eW
        have hla : L.length ≤ 1000 := l1
        have cR2 := fun (u : World) (v : Value) (h : SeesN u v ⟨L, CM, s.b, s.d⟩) => read_any v ⟨L, CM, s.b, s.d⟩ u l1 l2 h
        rw [r1, r2, r3] at cR2
        have e01 : (0 : Int) + 1 = 1 := rfl
        rw [e01] at cR2
        have cI := fun (u : World) (h : Below W.heap.size W u) (v : Value) (sv : SeesI u v ws) => ints_any v _ ws ws u (by omega) (by omega) sv (sW u h)
        rw [decide_eq_true rfl] at cI
        have cE := fun (u : World) (v v' : Value) (sv : SeesN u v ⟨L, CM, s.b, s.d⟩) (sv' : SeesN u v' ⟨L, CM, s.b, s.d⟩) => same_any v v' ⟨L, CM, s.b, s.d⟩ ⟨L, CM, s.b, s.d⟩ u l1 l2 l1 l2 sv sv'
        rw [sameN_refl] at cE
        have sBB : Hid (∀ u, Below W.heap.size W u → SeesI u (.slice bo s.b.length bcap) s.b) := fun u h => by
          obtain ⟨_, _, e, _, s2⟩ := sV u h
          cases e
          exact s2
        have HL : Hid (∀ u v, SeesI u v [] → ∃ ao cap, v = .slice ao 0 cap) := fun u v h => h.slice
        clear r1 r2 r3 l1 l2 hp h0 hk0 hbig e1 e01 hla hlb hf hn0 hnr f1 f2 h6
        generalize ws.length = n at *
        --[c
        go_enter Try.func9, Try.ntmps9
        go_wp2_with (first
          | (go_at_call 10; refine (shown10 _).mono ?_; rintro e w1 ⟨rfl, bb1⟩; obtain ⟨t1a, t1b, t1c, t1d⟩ := cells _ bb1; have z1 : B < w1.heap.size := Nat.lt_of_lt_of_le hz bb1.size)
          | (go_at_call 11; go_must (refine (cF _ bb1).mono ?_); rintro e w2 ⟨rfl, b2⟩; have bb2 := bt bb1 b2; obtain ⟨t2a, t2b, t2c, t2d⟩ := cells _ bb2; have z2 : B < w2.heap.size := Nat.lt_of_lt_of_le hz bb2.size)
          | (have _ := b4; go_at_call 12; go_must (refine (cR2 _ _ sv4).mono ?_); rintro e w5 ⟨vr5, rfl, sr5, b5⟩; have bb5 := bt bb4a b5; obtain ⟨t5a, t5b, t5c, t5d⟩ := cells _ bb5; have z5 : B < w5.heap.size := Nat.lt_of_lt_of_le hz bb5.size; obtain ⟨ro5, rc5, hr5⟩ := sr5.slice; subst hr5; obtain ⟨q1, q2, q3, q4⟩ := four_cells (keep b5 hv4); have zz5 : w4.heap.size < w5.heap.size := lt_of_block (keep b5 hv4))
          | (go_at_call 12; go_must (refine (cR' _ bb2).mono ?_); rintro e w3 ⟨vr3, rfl, sr3, b3⟩; have bb3 := bt bb2 b3; obtain ⟨t3a, t3b, t3c, t3d⟩ := cells _ bb3; have z3 : B < w3.heap.size := Nat.lt_of_lt_of_le hz bb3.size; obtain ⟨ro3, rc3, rfl⟩ := HL.out _ _ sr3)
          | (go_at_call 14; go_must (refine (cW _ bb3).mono ?_); rintro e w4 ⟨v4, rfl, s4, b4⟩; have bb4 := bt bb3 b4; obtain ⟨t4a, t4b, t4c, t4d⟩ := cells _ bb4; have z4 : B < w4.heap.size := Nat.lt_of_lt_of_le hz bb4.size; obtain ⟨x4, y4, rfl, sx4', sy4', _, _⟩ := s4; have sx4 : SeesI w4 x4 L := sx4'; have sy4 : SeesI w4 y4 s.b := sy4'; obtain ⟨xo4, xc4, rfl⟩ := sx4.slice; obtain ⟨yo4, yc4, rfl⟩ := sy4.slice; have bb4a := bt bb4 (box_below w4 (.cells #[.slice xo4 L.length xc4, .int .i64 CM, .slice yo4 s.b.length yc4, .int .i64 s.d] 27)); have z4a := bb4a.size; have hv4 := heap_new w4 (.cells #[.slice xo4 L.length xc4, .int .i64 CM, .slice yo4 s.b.length yc4, .int .i64 s.d] 27); have sv4 : SeesN (w4.alloc (.cells #[.slice xo4 L.length xc4, .int .i64 CM, .slice yo4 s.b.length yc4, .int .i64 s.d] 27)) (.agg #[.slice xo4 L.length xc4, .int .i64 CM, .slice yo4 s.b.length yc4, .int .i64 s.d]) (⟨L, CM, s.b, s.d⟩ : Nv) := ⟨_, _, rfl, sx4.below (box_below _ _), sy4.below (box_below _ _)⟩)
          | (go_at_call 18; go_must (refine (cI _ bb5 _ sr5).mono ?_); rintro e w6 ⟨rfl, b6⟩; have bb6 := bt bb5 b6; obtain ⟨t6a, t6b, t6c, t6d⟩ := cells _ bb6; have z6 : B < w6.heap.size := Nat.lt_of_lt_of_le hz bb6.size; obtain ⟨o1, o2, o3, o4⟩ := four_cells (keep b6 (keep b5 hv4)); have zz6 : w4.heap.size < w6.heap.size := lt_of_block (keep b6 (keep b5 hv4)); have sLL := ((sx4.below (box_below w4 _)).below b5).below b6; have sLB := ((sy4.below (box_below w4 _)).below b5).below b6)
          | (go_at_call 21; go_must (refine (cE _ _ _ ⟨_, _, rfl, sLL, sBB.out _ bb6⟩ ⟨_, _, rfl, sLL, sLB⟩).mono ?_); rintro e w7 ⟨rfl, b7⟩; have bb7 := bt bb6 b7; obtain ⟨t7a, t7b, t7c, t7d⟩ := cells _ bb7; have z7 : B < w7.heap.size := Nat.lt_of_lt_of_le hz bb7.size))
        go_ret
        exact ⟨rfl, HXX.out.fin bb7⟩
        --]c
      · rw [hp] at cR'
        have d0 : decide (0 ≤ numS s) = true := decide_eq_true hnr.1
        clear hp
        generalize numS s = I at *
        clear hf h6
        generalize ws.length = n at *
        --[d
        go_enter Try.func9, Try.ntmps9
        go_wp2_with (first
          | (go_at_call 10; refine (shown10 _).mono ?_; rintro e w1 ⟨rfl, bb1⟩; obtain ⟨t1a, t1b, t1c, t1d⟩ := cells _ bb1; have z1 : B < w1.heap.size := Nat.lt_of_lt_of_le hz bb1.size)
          | (go_at_call 11; go_must (refine (cF _ bb1).mono ?_); rintro e w2 ⟨rfl, b2⟩; have bb2 := bt bb1 b2; obtain ⟨t2a, t2b, t2c, t2d⟩ := cells _ bb2; have z2 : B < w2.heap.size := Nat.lt_of_lt_of_le hz bb2.size)
          | (go_at_call 12; go_must (refine (cR' _ bb2).mono ?_); rintro e w3 ⟨vr3, rfl, sr3, b3⟩; have bb3 := bt bb2 b3; obtain ⟨t3a, t3b, t3c, t3d⟩ := cells _ bb3; have z3 : B < w3.heap.size := Nat.lt_of_lt_of_le hz bb3.size; obtain ⟨ro3, rc3, rfl⟩ := sr3.slice))
        go_ret
        exact ⟨rfl, HXX.out.fin bb3⟩
        --]d
end Go.Proofs.Ytcfobifldlkfnaa.Gr
