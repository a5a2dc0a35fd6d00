/-
  The walk of NvramTwice.
-/
import Derived.Test.YtcfobifldlkfnaaWNO
import Derived.Deep.RegionWith
namespace Go.Proofs.Ytcfobifldlkfnaa.Gr
open Go.RowKit Go.Sort Qm Nm
set_option linter.unusedVariables false
namespace Nm
theorem big_both {a b c : List Int} (hb : b.length ≤ 600) (hc : c.length ≤ 600) : bigS (both a b) c = false := by
  unfold bigS
  rw [(read_both hb).2.1, decide_eq_false (by omega)]
  rfl
theorem torn_both {a b c : List Int} {D : Int} (hb : b.length ≤ 600) (hc : c.length ≤ 600) (hD : D < 3 + (c.length : Int)) :
    errS (both a b) c = 0 ∧ isS (tornS (both a b) c D) = true ∧ numS (tornS (both a b) c D) = 2 ∧ keptS (tornS (both a b) c D) = b := by
  have h := read_torn (s := both a b) hD
  have h2 := read_both (a := a) hb
  refine ⟨?_, h.1.trans h2.1, h.2.1.trans h2.2.1, h.2.2.trans h2.2.2⟩
  unfold errS; rw [big_both hb hc]; rfl
end Nm
theorem four_u8 {w : World} {b : Nat} {x y z u : Value} {t : TypeId} (h : w.heap[b]? = some (.cells #[x, y, z, u] t (0, 0))) : w.cell? ⟨b, 0, none⟩ = some x ∧ w.cell? ⟨b, 1, none⟩ = some y ∧ w.cell? ⟨b, 2, none⟩ = some z ∧ w.cell? ⟨b, 3, none⟩ = some u := four_cells h
set_option maxRecDepth 20000 in
set_option maxHeartbeats 4000000 in
theorem nvramTwice_walk (va vb' vc : Value) (a b c : List Int) (k : Int) (w : World) (sa : SeesI w va a) (sb : SeesI w vb' b) (sc : SeesI w vc c) (la : a.length ≤ 100000000000000) (lb : b.length ≤ 100000000000000) (lc : c.length ≤ 100000000000000) (k0 : 0 ≤ k) (k1 : k ≤ 255) :
    Calls Try.prog 6 #[.agg #[va, vb', vc, .int .u8 k]] w fun e w' => e = .returned (.bool true) ∧ Below w.heap.size w w' := by
  obtain ⟨ao, acap, rfl⟩ := sa.slice
  obtain ⟨bo, bcap, rfl⟩ := sb.slice
  obtain ⟨co, ccap, rfl⟩ := sc.slice
  have bx0 := box_below w (.cells #[.slice ao a.length acap, .slice bo b.length bcap, .slice co c.length ccap, .int .u8 k] 45)
  have hB := heap_new w (.cells #[.slice ao a.length acap, .slice bo b.length bcap, .slice co c.length ccap, .int .u8 k] 45)
  obtain ⟨W, hW⟩ : ∃ W, w.alloc (.cells #[.slice ao a.length acap, .slice bo b.length bcap, .slice co c.length ccap, .int .u8 k] 45) = W := ⟨_, rfl⟩
  rw [hW] at bx0 hB
  obtain ⟨p1, p2, p3, p4⟩ := four_u8 hB
  clear hB
  by_cases h5 : 500 < a.length + b.length + c.length
  · have d5 : decide ((500 : Int) < (a.length : Int) + (b.length : Int) + (c.length : Int)) = true := decide_eq_true (by omega)
    clear sa sb sc
    generalize a.length = n at *
    generalize b.length = m at *
    generalize c.length = q at *
    --[a
    go_enter Try.func6, Try.ntmps6
    go_wp2_with (go_at_call 10; refine (shown10 _).mono ?_; rintro e w1 ⟨rfl, b1⟩)
    go_ret
    exact ⟨rfl, bt bx0 b1⟩
    --]a
  · have s0 := fun (u : World) (h : Below W.heap.size W u) => (sa.below bx0).below h
    have s0' := fun (u : World) (h : Below W.heap.size W u) => (sb.below bx0).below h
    have s0c := fun (u : World) (h : Below W.heap.size W u) => (sc.below bx0).below h
    have cX := fun (u : World) (h : Below W.heap.size W u) => write_any _ _ nvz0 a u (by decide) (by decide) (by omega) (sees_z u) (s0 u h)
    rw [(write_z (ws := a) (by omega)).1, (write_z (ws := a) (by omega)).2] at cX
    have lf1 : (first a).a.length ≤ 1000 := by show a.length + 1 ≤ 1000; omega
    have lf2 : (first a).b.length ≤ 1000 := by show 0 ≤ 1000; omega
    have cY := fun (u : World) (h : Below W.heap.size W u) (v : Value) (sv : SeesN u v (first a)) => write_any v _ (first a) b u lf1 lf2 (by omega) sv (s0' u h)
    rw [(write_first (a := a) (b := b) (by omega)).1, (write_first (a := a) (b := b) (by omega)).2] at cY
    have lb1 : (both a b).a.length ≤ 1000 := by show a.length + 1 ≤ 1000; omega
    have lb2 : (both a b).b.length ≤ 1000 := by show b.length + 1 ≤ 1000; omega
    have cS := fun (u : World) (h : Below W.heap.size W u) => steps_any _ c u (by omega) (s0c u h)
    have hwk : IntKind.i64.wrap k = k := wrap_i k (by omega) (by omega)
    obtain ⟨D, hD⟩ : ∃ D, (IntKind.i64.wrap k).tmod (3 + (c.length : Int)) = D := ⟨_, rfl⟩
    have hD1 : D < 3 + (c.length : Int) := by rw [← hD, hwk]; exact Int.tmod_lt_of_pos k (by omega)
    have hD0 : 0 ≤ D := by rw [← hD, hwk]; exact Int.tmod_nonneg _ k0
    clear hwk
    have hDk : D ≤ 600 := by omega
    obtain ⟨t0, t1, t2, t3⟩ := torn_both (a := a) (b := b) (c := c) (D := D) (by omega) (by omega) hD1
    have cT := fun (u : World) (h : Below W.heap.size W u) (v : Value) (sv : SeesN u v (both a b)) => torn_any v _ (both a b) c D u lb1 lb2 (by omega) sv (s0c u h)
    rw [t0] at cT
    obtain ⟨l1, l2⟩ := torn_len (s := both a b) (ws := c) (D := D) lb1 lb2 (by omega)
    obtain ⟨Z, hZ⟩ : ∃ Z, tornS (both a b) c D = Z := ⟨_, rfl⟩
    rw [hZ] at cT t1 t2 t3 l1 l2
    rw [← hD] at cT
    clear hD1 hD0 hDk
    have cR := fun (u : World) (v : Value) (h : SeesN u v Z) => read_any v Z u l1 l2 h
    rw [t1, t2, t3] at cR
    have hF : first a = ⟨1 :: a, comS (1 :: a), [], 0⟩ := rfl
    have hG : both a b = ⟨1 :: a, comS (1 :: a), 2 :: b, comS (2 :: b)⟩ := rfl
    rw [hF] at cX cY
    rw [hG] at cY cT
    have cIb := fun (u : World) (h : Below W.heap.size W u) (v : Value) (sv : SeesI u v b) => ints_any v _ b b u (by omega) (by omega) sv (s0' u h)
    have cIa := fun (u : World) (h : Below W.heap.size W u) (v : Value) (sv : SeesI u v a) => ints_any v _ a a u (by omega) (by omega) sv (s0 u h)
    rw [decide_eq_true rfl] at cIa cIb
    generalize comS (1 :: a) = CA at *
    generalize comS (2 :: b) = CB at *
    have HA : Hid (∀ (u : World) (ad : Addr) (l cap : Nat), SeesI u (.slice (some ad) l cap) (1 :: a) → (¬ cap = 1 → SeesI u (.slice (some ⟨ad.block, ad.off + 1, none⟩) (l - 1) (cap - 1)) a) ∧ (cap = 1 → SeesI u (.slice (some ad) (l - 1) 0) a)) := fun u ad l cap h => drop_one h (by simp)
    have HH : Hid (∀ (u : World) (ao : Option Addr) (l cap : Nat), SeesI u (.slice ao l cap) (1 :: a) → ∃ ad, ao = some ad) := fun u ao l cap h => by
      obtain ⟨ad, e, _⟩ := hd_cell h (by simp)
      exact ⟨ad, e⟩
    have hAl : Hid ((1 :: a).length = a.length + 1) := rfl
    generalize (1 :: a : List Int) = A at *
    generalize (2 :: b : List Int) = Q at *
    have h5n : (a.length : Int) + (b.length : Int) + (c.length : Int) ≤ 500 := by omega
    clear hF hG lf1 lf2 sa sb sc lb1 lb2 t0 t1 t2 t3 l1 l2 la lb lc hZ h5 hD
    generalize a.length = n at *
    generalize b.length = m at *
    generalize c.length = q at *
    have hq0 : ¬ (3 + (q : Int)) = 0 := by omega
    have hq1 : ((3 + (q : Int)) == 0) = false := by simp; omega
    --[b
    go_enter Try.func6, Try.ntmps6
    go_upto_region 13 with (first
      | (go_at_call 10; refine (shown10 _).mono ?_; rintro e w1 ⟨rfl, bb1⟩)
      | (go_at_call 23; go_must (refine (cS _ bb1).mono ?_); rintro e w9 ⟨rfl, rfl⟩)
      | (have _ := b2; go_at_call 14; go_must (refine (cY _ bb2a _ sv2).mono ?_); rintro e w4 ⟨v4, rfl, s4, b4⟩; have bb4 := bt bb2a b4; obtain ⟨x4, y4, rfl, sx4', sy4', _, _⟩ := s4; have sx4 : SeesI w4 x4 A := sx4'; have sy4 : SeesI w4 y4 Q := sy4'; obtain ⟨xo4, xc4, rfl⟩ := sx4.slice; obtain ⟨yo4, yc4, rfl⟩ := sy4.slice; obtain ⟨ad, rfl⟩ := HH.out _ _ _ _ sx4; have bx4 := box_below w4 (.cells #[.slice (some ad) A.length xc4, .int .i64 CA, .slice yo4 Q.length yc4, .int .i64 CB] 27); have bb4a := bt bb4 bx4; have hv4 := heap_new w4 (.cells #[.slice (some ad) A.length xc4, .int .i64 CA, .slice yo4 Q.length yc4, .int .i64 CB] 27); have sv4 : SeesN (w4.alloc (.cells #[.slice (some ad) A.length xc4, .int .i64 CA, .slice yo4 Q.length yc4, .int .i64 CB] 27)) (.agg #[.slice (some ad) A.length xc4, .int .i64 CA, .slice yo4 Q.length yc4, .int .i64 CB]) ⟨A, CA, Q, CB⟩ := ⟨_, _, rfl, sx4.below bx4, sy4.below bx4⟩)
      | (go_at_call 14; go_must (refine (cX _ bb1).mono ?_); rintro e w2 ⟨v2, rfl, s2, b2⟩; have bb2 := bt bb1 b2; obtain ⟨x2, y2, rfl, sx2', sy2', _, _⟩ := s2; have sx2 : SeesI w2 x2 A := sx2'; have sy2 : SeesI w2 y2 [] := sy2'; obtain ⟨xo2, xc2, rfl⟩ := sx2.slice; obtain ⟨yo2, yc2, hy2⟩ := sy2.slice; have hy2' : y2 = .slice yo2 0 yc2 := hy2; clear hy2; subst hy2'; have bx2 := box_below w2 (.cells #[.slice xo2 A.length xc2, .int .i64 CA, .slice yo2 0 yc2, .int .i64 0] 27); have bb2a := bt bb2 bx2; have sv2 : SeesN (w2.alloc (.cells #[.slice xo2 A.length xc2, .int .i64 CA, .slice yo2 0 yc2, .int .i64 0] 27)) (.agg #[.slice xo2 A.length xc2, .int .i64 CA, .slice yo2 0 yc2, .int .i64 0]) ⟨A, CA, [], 0⟩ := ⟨_, _, rfl, sx2.below bx2, sy2.below bx2⟩))
    have bb4d := bb4a.drew
    have bx4d := bx4.drew
    have hv4d : ((w4.alloc (.cells #[.slice (some ad) A.length xc4, .int .i64 CA, .slice yo4 Q.length yc4, .int .i64 CB] 27))).drew.heap[w4.heap.size]? = _ := hv4
    have bx5 := box_below (w4.alloc (.cells #[.slice (some ad) A.length xc4, .int .i64 CA, .slice yo4 Q.length yc4, .int .i64 CB] 27)) (.cells #[.slice none 0 0, .int .i64 0, .slice none 0 0, .int .i64 0] 27)
    have bb4e := (bt bb4a bx5).drew
    have hv4e : (((w4.alloc (.cells #[.slice (some ad) A.length xc4, .int .i64 CA, .slice yo4 Q.length yc4, .int .i64 CB] 27))).alloc (.cells #[.slice none 0 0, .int .i64 0, .slice none 0 0, .int .i64 0] 27)).drew.heap[w4.heap.size]? = _ := keep bx5.drew hv4
    have hv5e : (((w4.alloc (.cells #[.slice (some ad) A.length xc4, .int .i64 CA, .slice yo4 Q.length yc4, .int .i64 CB] 27))).alloc (.cells #[.slice none 0 0, .int .i64 0, .slice none 0 0, .int .i64 0] 27)).drew.heap[w4.heap.size + 1]? = _ := (heaps2 w4 (.cells #[.slice (some ad) A.length xc4, .int .i64 CA, .slice yo4 Q.length yc4, .int .i64 CB] 27) (.cells #[.slice none 0 0, .int .i64 0, .slice none 0 0, .int .i64 0] 27)).2
    have hA1 : 1 ≤ A.length := by have := hAl.out; omega
    have hA2 : (1 : Int) ≤ (A.length : Int) := by omega
    have hA3 : A.length ≤ xc4 := sx4.le.1
    have hA4 : (A.length : Int) ≤ (xc4 : Int) := by omega
    have hA5 : (1 : Int) ≤ (xc4 : Int) := by omega
    by_cases hc : xc4 = 1
    · subst hc
      have hz : A.length - 1 = 0 := by omega
      have HD := fun (u : World) (h : Below w4.heap.size w4 u) => (HA.out _ _ _ _ (sx4.below h)).2 rfl
      simp only [hz] at HD
      clear HA HH
      go_region_with (first
        | (go_at_call 16; refine (cT (w4.alloc (.cells #[.slice (some ad) A.length 1, .int .i64 CA, .slice yo4 Q.length yc4, .int .i64 CB] 27)).drew bb4d _ ⟨_, _, rfl, (sx4.below bx4).drew, (sy4.below bx4).drew⟩).mono ?_; rintro e w6 ⟨v6, rfl, s6, b6⟩; have bb6 := bt bb4d b6; obtain ⟨x6, y6, rfl, sx6, sy6, nx6, ny6⟩ := s6; obtain ⟨xo6, xc6, rfl⟩ := sx6.slice; obtain ⟨yo6, yc6, rfl⟩ := sy6.slice; have bx6 := box_below w6 (.cells #[.slice xo6 Z.a.length xc6, .int .i64 Z.c, .slice yo6 Z.b.length yc6, .int .i64 Z.d] 27); have bbU := bt bb6 bx6; have b4U := bt bx4d (bt b6 bx6); have hv4U := keep (bt b6 bx6) hv4d; have sU : SeesN (w6.alloc (.cells #[.slice xo6 Z.a.length xc6, .int .i64 Z.c, .slice yo6 Z.b.length yc6, .int .i64 Z.d] 27)) (.agg #[.slice xo6 Z.a.length xc6, .int .i64 Z.c, .slice yo6 Z.b.length yc6, .int .i64 Z.d]) Z := ⟨_, _, rfl, sx6.below bx6, sy6.below bx6⟩; have zz6 : w4.heap.size < w6.heap.size := lt_of_block (keep b6 hv4d))
        | (go_at_call 16; refine (cT ((w4.alloc (.cells #[.slice (some ad) A.length 1, .int .i64 CA, .slice yo4 Q.length yc4, .int .i64 CB] 27)).alloc (.cells #[.slice none 0 0, .int .i64 0, .slice none 0 0, .int .i64 0] 27)).drew bb4e _ ⟨_, _, rfl, (sx4.below (bt bx4 bx5)).drew, (sy4.below (bt bx4 bx5)).drew⟩).mono ?_; rintro e w6 ⟨v6, rfl, s6, b6⟩; have bb6 := bt bb4e b6; obtain ⟨x6, y6, rfl, sx6, sy6, nx6, ny6⟩ := s6; obtain ⟨xo6, xc6, rfl⟩ := sx6.slice; obtain ⟨yo6, yc6, rfl⟩ := sy6.slice; have hz6 := keep b6 hv5e; obtain ⟨g1, g2, g3, g4⟩ := four_cells hz6; have f0 := not_frozen hz6 0; have f1 := not_frozen hz6 1; have f2 := not_frozen hz6 2; have f3 := not_frozen hz6 3; have hg := gb_all4 w6 (w4.heap.size + 1) (.slice xo6 Z.a.length xc6) (.int .i64 Z.c) (.slice yo6 Z.b.length yc6) (.int .i64 Z.d); have z6 : w4.heap.size + 1 < w6.heap.size := lt_of_block hz6; have b46 := bt (bt bx4 bx5).drew b6; have b4U := b46.grown hg b46.size (fun k e => by cases e; omega); have bbU := bb6.grown hg bb6.size (fun k e => by cases e; have h := bb4.size; omega); have hv4U := (hg.block w4.heap.size (by omega) (by simp)).trans (keep b6 hv4e); have z5 : ((w4.alloc (.cells #[.slice (some ad) A.length 1, .int .i64 CA, .slice yo4 Q.length yc4, .int .i64 CB] 27)).alloc (.cells #[.slice none 0 0, .int .i64 0, .slice none 0 0, .int .i64 0] 27)).drew.heap.size = w4.heap.size + 1 + 1 := (by simp); have sU : SeesN ((((w6.setCell ⟨w4.heap.size + 1, 0, none⟩ (.slice xo6 Z.a.length xc6)).setCell ⟨w4.heap.size + 1, 1, none⟩ (.int .i64 Z.c)).setCell ⟨w4.heap.size + 1, 2, none⟩ (.slice yo6 Z.b.length yc6)).setCell ⟨w4.heap.size + 1, 3, none⟩ (.int .i64 Z.d)) (.agg #[.slice xo6 Z.a.length xc6, .int .i64 Z.c, .slice yo6 Z.b.length yc6, .int .i64 Z.d]) Z := ⟨_, _, rfl, SeesI.grown sx6 nx6 hg (fun k e => by cases e; rw [z5]; omega), SeesI.grown sy6 ny6 hg (fun k e => by cases e; rw [z5]; omega)⟩))
      all_goals (try go_wp2_with (first
        | (have _ := b8; go_at_call 18; go_must (refine (cIa _ bb8 _ (HD _ (bt (bt b4U b7) b8))).mono ?_); rintro e w9 ⟨rfl, b9⟩; have bb9 := bt bb8 b9)
        | (go_at_call 12; go_must (refine (cR _ _ sU).mono ?_); rintro e w7 ⟨v7, rfl, s7, b7⟩; have bb7 := bt bbU b7; obtain ⟨ro7, rc7, hr7⟩ := s7.slice; subst hr7)
        | (go_at_call 18; go_must (refine (cIb _ bb7 _ s7).mono ?_); rintro e w8 ⟨rfl, b8⟩; have bb8 := bt bb7 b8; obtain ⟨m1, m2, m3, m4⟩ := four_cells (keep b8 (keep b7 hv4U)))))
      all_goals go_ret
      all_goals exact ⟨rfl, bt bx0 bb9⟩
    · have HD := fun (u : World) (h : Below w4.heap.size w4 u) => (HA.out _ _ _ _ (sx4.below h)).1 hc
      clear HA HH
      go_region_with (first
        | (go_at_call 16; refine (cT (w4.alloc (.cells #[.slice (some ad) A.length xc4, .int .i64 CA, .slice yo4 Q.length yc4, .int .i64 CB] 27)).drew bb4d _ ⟨_, _, rfl, (sx4.below bx4).drew, (sy4.below bx4).drew⟩).mono ?_; rintro e w6 ⟨v6, rfl, s6, b6⟩; have bb6 := bt bb4d b6; obtain ⟨x6, y6, rfl, sx6, sy6, nx6, ny6⟩ := s6; obtain ⟨xo6, xc6, rfl⟩ := sx6.slice; obtain ⟨yo6, yc6, rfl⟩ := sy6.slice; have bx6 := box_below w6 (.cells #[.slice xo6 Z.a.length xc6, .int .i64 Z.c, .slice yo6 Z.b.length yc6, .int .i64 Z.d] 27); have bbU := bt bb6 bx6; have b4U := bt bx4d (bt b6 bx6); have hv4U := keep (bt b6 bx6) hv4d; have sU : SeesN (w6.alloc (.cells #[.slice xo6 Z.a.length xc6, .int .i64 Z.c, .slice yo6 Z.b.length yc6, .int .i64 Z.d] 27)) (.agg #[.slice xo6 Z.a.length xc6, .int .i64 Z.c, .slice yo6 Z.b.length yc6, .int .i64 Z.d]) Z := ⟨_, _, rfl, sx6.below bx6, sy6.below bx6⟩; have zz6 : w4.heap.size < w6.heap.size := lt_of_block (keep b6 hv4d))
        | (go_at_call 16; refine (cT ((w4.alloc (.cells #[.slice (some ad) A.length xc4, .int .i64 CA, .slice yo4 Q.length yc4, .int .i64 CB] 27)).alloc (.cells #[.slice none 0 0, .int .i64 0, .slice none 0 0, .int .i64 0] 27)).drew bb4e _ ⟨_, _, rfl, (sx4.below (bt bx4 bx5)).drew, (sy4.below (bt bx4 bx5)).drew⟩).mono ?_; rintro e w6 ⟨v6, rfl, s6, b6⟩; have bb6 := bt bb4e b6; obtain ⟨x6, y6, rfl, sx6, sy6, nx6, ny6⟩ := s6; obtain ⟨xo6, xc6, rfl⟩ := sx6.slice; obtain ⟨yo6, yc6, rfl⟩ := sy6.slice; have hz6 := keep b6 hv5e; obtain ⟨g1, g2, g3, g4⟩ := four_cells hz6; have f0 := not_frozen hz6 0; have f1 := not_frozen hz6 1; have f2 := not_frozen hz6 2; have f3 := not_frozen hz6 3; have hg := gb_all4 w6 (w4.heap.size + 1) (.slice xo6 Z.a.length xc6) (.int .i64 Z.c) (.slice yo6 Z.b.length yc6) (.int .i64 Z.d); have z6 : w4.heap.size + 1 < w6.heap.size := lt_of_block hz6; have b46 := bt (bt bx4 bx5).drew b6; have b4U := b46.grown hg b46.size (fun k e => by cases e; omega); have bbU := bb6.grown hg bb6.size (fun k e => by cases e; have h := bb4.size; omega); have hv4U := (hg.block w4.heap.size (by omega) (by simp)).trans (keep b6 hv4e); have z5 : ((w4.alloc (.cells #[.slice (some ad) A.length xc4, .int .i64 CA, .slice yo4 Q.length yc4, .int .i64 CB] 27)).alloc (.cells #[.slice none 0 0, .int .i64 0, .slice none 0 0, .int .i64 0] 27)).drew.heap.size = w4.heap.size + 1 + 1 := (by simp); have sU : SeesN ((((w6.setCell ⟨w4.heap.size + 1, 0, none⟩ (.slice xo6 Z.a.length xc6)).setCell ⟨w4.heap.size + 1, 1, none⟩ (.int .i64 Z.c)).setCell ⟨w4.heap.size + 1, 2, none⟩ (.slice yo6 Z.b.length yc6)).setCell ⟨w4.heap.size + 1, 3, none⟩ (.int .i64 Z.d)) (.agg #[.slice xo6 Z.a.length xc6, .int .i64 Z.c, .slice yo6 Z.b.length yc6, .int .i64 Z.d]) Z := ⟨_, _, rfl, SeesI.grown sx6 nx6 hg (fun k e => by cases e; rw [z5]; omega), SeesI.grown sy6 ny6 hg (fun k e => by cases e; rw [z5]; omega)⟩))
      all_goals (try go_wp2_with (first
        | (have _ := b8; go_at_call 18; go_must (refine (cIa _ bb8 _ (HD _ (bt (bt b4U b7) b8))).mono ?_); rintro e w9 ⟨rfl, b9⟩; have bb9 := bt bb8 b9)
        | (go_at_call 12; go_must (refine (cR _ _ sU).mono ?_); rintro e w7 ⟨v7, rfl, s7, b7⟩; have bb7 := bt bbU b7; obtain ⟨ro7, rc7, hr7⟩ := s7.slice; subst hr7)
        | (go_at_call 18; go_must (refine (cIb _ bb7 _ s7).mono ?_); rintro e w8 ⟨rfl, b8⟩; have bb8 := bt bb7 b8; obtain ⟨m1, m2, m3, m4⟩ := four_cells (keep b8 (keep b7 hv4U)))))
      all_goals go_ret
      all_goals exact ⟨rfl, bt bx0 bb9⟩
    --]b
end Go.Proofs.Ytcfobifldlkfnaa.Gr
