/-
  The walk of MatDiags.
-/
import Derived.Test.YteohdhmimpajmaaWTwo
import Derived.Test.YteohdhmimpajmaaFactD
import Derived.Test.YteohdhmimpajmaaFactO
import Derived.Test.YteohdhmimpajmaaDgR
import Derived.Maps.AppendAt
import Derived.StillTailTactics
import Derived.Deep.RegionWith
import Derived.Deep.CutRange
namespace Go.Proofs.Yteohdhmimpajmaa
open Go.RowKit Go.Sort Qm

/-- the four rows of MatDiags, k numbers each -/
structure Four (B : Nat) (a b : Nat → Int) (k : Nat) (l m n o : Value) (w : World) : Prop where
  h1 : w.ownsRow B 33 1 l k ((tab (fun i => a i * 16777216) k).map (Value.int .i64))
  h2 : w.ownsRow B 33 1 m k ((tab (fun i => b i * 16777216) k).map (Value.int .i64))
  h3 : w.ownsRow B 33 1 n k ((tab (fun i => a i * b i * 16777216) k).map (Value.int .i64))
  h4 : w.ownsRow B 33 1 o k ((tab (fun _ => (16777216 : Int)) k).map (Value.int .i64))
  p12 : Apart l m
  p13 : Apart l n
  p14 : Apart l o
  p23 : Apart m n
  p24 : Apart m o
  p34 : Apart n o

theorem arr_cell {V y : World} {B p k : Nat} {f : Nat → Int} (x : V.heap[p]? = some (.cells #[.int .i8 (f 0), .int .i8 (f 1), .int .i8 (f 2)] 49 (0, 0))) (hb : Below B V y) (hp : p < B) (hk : k < 3) : y.cell? ⟨p, k, none⟩ = some (.int .i8 (f k)) := by
  have e : y.heap[p]? = some (.cells #[.int .i8 (f 0), .int .i8 (f 1), .int .i8 (f 2)] 49 (0, 0)) := (hb.block p hp).trans x
  rcases (by omega : k = 0 ∨ k = 1 ∨ k = 2) with rfl | rfl | rfl <;> simp [World.cell?, e]

theorem dia_ge (u : Nat → Int) : dia (ge (tab u 3)) 3 = dia u 3 := by
  unfold dia
  refine tab_congr fun p hp => ?_
  rw [ge_tab (by omega)]
/-- Diag of three numbers in bounds -/
theorem diag3 (u : Nat → Int) (hu : ∀ i, i < 3 → -70368744177664 ≤ u i ∧ u i ≤ 70368744177663) (v : Value) (w : World) (hs : Sees w v (tab u 3)) :
    Calls Try.prog 22 #[v] w fun e b => ∃ v, e = .returned (.tuple #[.agg #[.int .i64 3, .int .i64 3, v], .int .i64 0]) ∧ Sees b v (dia u 3) ∧ Below w.heap.size w b := by
  have ho : outB (tab u 3) (tab u 3).length = false := by
    rw [tab_len]
    exact anyB_none fun k hk => by rw [ge_tab hk]; exact ob_in (hu k hk).1 (hu k hk).2
  refine (diag_any v (tab u 3) (by rw [tab_len]; omega) (by rw [tab_len]; omega) ho w hs).mono ?_
  rintro e b ⟨v', he, hs', _, hb⟩
  rw [tab_len] at he hs'
  rw [dia_ge] at hs'
  exact ⟨v', he, hs', hb⟩
theorem mul3 {a b : Nat → Int} (ha : Small a) (hb : Small b) (va vb : Value) (w : World) (sa : Sees w va (dia (fun i => a i * 16777216) 3)) (sb : Sees w vb (dia (fun i => b i * 16777216) 3)) :
    Calls Try.prog 16 #[.agg #[.int .i64 3, .int .i64 3, va], .agg #[.int .i64 3, .int .i64 3, vb]] w fun e b' => ∃ v, e = .returned (.tuple #[.agg #[.int .i64 3, .int .i64 3, v], .bool false, .int .i64 0]) ∧ Sees b' v (dia (fun i => a i * b i * 16777216) 3) ∧ Below w.heap.size w b' := by
  obtain ⟨e1, e2⟩ := prd_dia ha hb 3
  have h := mul_mat 3 3 3 (by omega) (by omega) (by omega) (by omega) (by omega) (by omega) va vb _ _ (dia_len _ _) (dia_len _ _) w sa sb
  rw [e1, e2] at h
  refine h.mono ?_
  rintro e b' ⟨v, he, hs, _, hb'⟩
  exact ⟨v, he, hs, hb'⟩
theorem eye3 (w : World) : Calls Try.prog 20 #[.int .i64 3] w fun e b => ∃ v, e = .returned (.tuple #[.agg #[.int .i64 3, .int .i64 3, v], .int .i64 0]) ∧ Sees b v (dia (fun _ => 16777216) 3) ∧ Below w.heap.size w b := by
  refine (eye_any 3 (by omega) (by omega) w).mono ?_
  rintro e b ⟨v, he, hs, _, hb⟩
  exact ⟨v, he, hs, hb⟩
theorem same3 (u : Nat → Int) (va vb : Value) (w : World) (sa : Sees w va (dia u 3)) (sb : Sees w vb (dia u 3)) :
    Calls Try.prog 18 #[.agg #[.int .i64 3, .int .i64 3, va], .agg #[.int .i64 3, .int .i64 3, vb]] w fun e w' => e = .returned (.bool true) ∧ Below w.heap.size w w' := by
  have h := rsame_any 3 3 3 3 va vb _ _ w (by rw [dia_len]; omega) (by rw [dia_len]; omega) sa sb
  rw [sameB_self] at h
  exact h

set_option maxRecDepth 40000 in
set_option maxHeartbeats 4000000 in
theorem matdiags_walk (hsh : ShownOk) (a b : Nat → Int) (ha : Small a) (hb : Small b) (w : World) :
    Calls Try.prog 8 #[.agg #[.int .i8 (a 0), .int .i8 (a 1), .int .i8 (a 2)], .agg #[.int .i8 (b 0), .int .i8 (b 1), .int .i8 (b 2)]] w fun e w' => e = .returned (.bool true) ∧ Below w.heap.size w w' := by
  obtain ⟨i0, hi, hz0, hz1, hz2⟩ := info_parts Try.info33
  unfold ShownOk at hsh
  obtain ⟨V0, hV0⟩ : ∃ V0, (w.alloc (.cells #[.int .i8 (a 0), .int .i8 (a 1), .int .i8 (a 2)] 49)).alloc (.cells #[.int .i8 (b 0), .int .i8 (b 1), .int .i8 (b 2)] 49) = V0 := ⟨_, rfl⟩
  obtain ⟨x1, x2⟩ := allocs2 w (.cells #[.int .i8 (a 0), .int .i8 (a 1), .int .i8 (a 2)] 49) (.cells #[.int .i8 (b 0), .int .i8 (b 1), .int .i8 (b 2)] 49)
  have b0 := ball2 w (.cells #[.int .i8 (a 0), .int .i8 (a 1), .int .i8 (a 2)] 49) (.cells #[.int .i8 (b 0), .int .i8 (b 1), .int .i8 (b 2)] 49)
  have hVs : V0.heap.size = w.heap.size + 2 := by rw [← hV0]; simp
  rw [hV0] at x1 x2 b0
  go_enter Try.func8, Try.ntmps8
  go_wp2_with (go_at_call 10; refine (hsh _).mono ?_; rintro e w1 ⟨rfl, b1⟩)
  rw [hVs] at b1
  clear hV0 hsh
  go_loopw [6, 7, 8, 9, 10] (fun l m n o i wr => ∃ k : Nat, k ≤ 3 ∧ i = .int .i64 k ∧ Four (w.heap.size + 2) a b k l m n o wr ∧ Below (w.heap.size + 2) V0 wr) (fun _ _ _ _ i _ => 3 - (intOf i).toNat)
  case atStart =>
    have nn : Apart (.slice none 0 0) (.slice none 0 0) := fun g h => by cases h
    exact ⟨0, by omega, rfl, ⟨World.ownsRow_nil _ _ _ _, World.ownsRow_nil _ _ _ _, World.ownsRow_nil _ _ _ _, World.ownsRow_nil _ _ _ _, nn, nn, nn, nn, nn, nn⟩, b1⟩
  case round =>
    obtain ⟨k, hk, rfl, hF, hB⟩ := hrel
    have hs0 : w.heap.size + 2 ≤ wr.heap.size := by have := hB.size; omega
    by_cases hlt : k < 3
    · have A := ha k
      have B := hb k
      have ca := arr_cell x1 hB (by omega) hlt
      have hT1 := tab_succ (fun i => a i * 16777216) k
      have hT2 := tab_succ (fun i => b i * 16777216) k
      have hT3 := tab_succ (fun i => a i * b i * 16777216) k
      have hT4 := tab_succ (fun _ => (16777216 : Int)) k
      have hmw := mul_whole A B
      have hZb : -16384 ≤ a k * b k ∧ a k * b k ≤ 16384 := by
        have := cl_bd (mulv (a k * 16777216) (b k * 16777216))
        have e : cl (mulv (a k * 16777216) (b k * 16777216)) = a k * b k * 16777216 := hmw.1
        have h1 : a k * b k ≤ 128 * 128 ∧ -(128 * 128) ≤ a k * b k := by
          have e2 := sg_prod (a k) (b k)
          have hb2 : 0 ≤ ab (a k) * ab (b k) ∧ ab (a k) * ab (b k) ≤ 128 * 128 := by
            have a1 : 0 ≤ ab (a k) ∧ ab (a k) ≤ 128 := by unfold ab; split <;> omega
            have a2 : 0 ≤ ab (b k) ∧ ab (b k) ≤ 128 := by unfold ab; split <;> omega
            exact ⟨Int.mul_nonneg a1.1 a2.1, Int.mul_le_mul a1.2 a2.2 a2.1 (by omega)⟩
          have := sg_bd (flip (flip false (a k)) (b k)) hb2.1 hb2.2
          rw [e2] at this
          omega
        omega
      clear hmw
      obtain ⟨x, hx⟩ : ∃ x, a k = x := ⟨_, rfl⟩
      obtain ⟨y, hy⟩ : ∃ y, b k = y := ⟨_, rfl⟩
      obtain ⟨z, hz⟩ : ∃ z, x * y = z := ⟨_, rfl⟩
      simp only [hx] at hT1 hT3 ca A hZb
      simp only [hy] at hT2 hT3 B hZb
      rw [hz] at hT3 hZb
      have HX : Hid (a k = x ∧ b k = y) := ⟨hx, hy⟩
      have H1 : Hid _ := hT1
      have H2 : Hid _ := hT2
      have H3 : Hid _ := hT3
      have H4 : Hid _ := hT4
      clear hx hy hT1 hT2 hT3 hT4
      go_upto_region 10 with (at_builtin; refine wpList_append_own_at _ rfl _ _ 22 rfl (w.heap.size + 2) 33 i0 (.int .i64 0) 1 8 Try.under22 hi hz0 hz1 hz2 rfl (by decide) u6 _ _ rfl (hF.h1.alloc _) ⟨_, 0, none⟩ 1 1 [.int .i64 (x * 16777216)] rfl rfl c1_one c2_one (by unfold maxLen; omega) (by omega) (by simp; omega) ?_; intro v6 w6 o6 g6 _ q6)
      obtain ⟨m2, p12⟩ := app_keep (v := u6) (hF.h2.alloc _) hF.p12 g6 q6
      obtain ⟨m3, p13⟩ := app_keep (v := u6) (hF.h3.alloc _) hF.p13 g6 q6
      obtain ⟨m4, p14⟩ := app_keep (v := u6) (hF.h4.alloc _) hF.p14 g6 q6
      have B6 : Below (w.heap.size + 2) V0 w6 := (hB.alloc hs0 _).grown g6 (by simp; omega) (fun g e => (hF.h1.lt g e).1)
      have l6 : w6.ownsRow (w.heap.size + 2) 33 1 v6 (k + 1) ((tab (fun i => a i * 16777216) (k + 1)).map (Value.int .i64)) := by rw [H1.out, List.map_append]; exact o6
      have s6 : w.heap.size + 2 ≤ w6.heap.size := by have := B6.size; omega
      have p23 := hF.p23
      have p24 := hF.p24
      have p34 := hF.p34
      clear o6 g6 q6 ca hF hB hs0
      have cb := arr_cell x2 B6 (by omega) hlt
      simp only [HX.out.2] at cb
      go_upto_region 11 with (at_builtin; refine wpList_append_own_at _ rfl _ _ 22 rfl (w.heap.size + 2) 33 i0 (.int .i64 0) 1 8 Try.under22 hi hz0 hz1 hz2 rfl (by decide) u7 _ _ rfl (m2.alloc _) ⟨_, 0, none⟩ 1 1 [.int .i64 (y * 16777216)] rfl rfl c1_one c2_one (by unfold maxLen; omega) (by omega) (by simp; omega) ?_; intro v7 w7 o7 g7 _ q7)
      obtain ⟨l7, p12'⟩ := app_keep (v := u7) (l6.alloc _) p12.symm g7 q7
      obtain ⟨n7, p23'⟩ := app_keep (v := u7) (m3.alloc _) p23 g7 q7
      obtain ⟨r7, p24'⟩ := app_keep (v := u7) (m4.alloc _) p24 g7 q7
      have B7 : Below (w.heap.size + 2) V0 w7 := (B6.alloc s6 _).grown g7 (by simp; omega) (fun g e => (m2.lt g e).1)
      have t7 : w7.ownsRow (w.heap.size + 2) 33 1 v7 (k + 1) ((tab (fun i => b i * 16777216) (k + 1)).map (Value.int .i64)) := by rw [H2.out, List.map_append]; exact o7
      have s7 : w.heap.size + 2 ≤ w7.heap.size := by have := B7.size; omega
      clear o7 g7 q7 cb l6 m2 m3 m4 p12 p23 p24 B6 s6
      have ca := arr_cell x1 B7 (by omega) hlt
      have cb := arr_cell x2 B7 (by omega) hlt
      simp only [HX.out.1] at ca
      simp only [HX.out.2] at cb
      obtain ⟨q, hqq⟩ : ∃ q, z * 16777216 = q := ⟨_, rfl⟩
      have iw0 : IntKind.i64.wrap x = x := wrap_in (by omega) (by omega)
      have iw1 : IntKind.i64.wrap y = y := wrap_in (by omega) (by omega)
      have iw2 : IntKind.i64.wrap z = z := wrap_in (by omega) (by omega)
      have iw3 : IntKind.i64.wrap q = q := wrap_in (by omega) (by omega)
      have lk : (k : Int) < 3 := by omega
      have zk : (0 : Int) ≤ (k : Int) := by omega
      refine dg_region (B := w.heap.size + 2) (m := k) hi hz0 hz1 hz2 hlt (by omega) s7 (by omega) (by omega) ca cb iw0 iw1 hz iw2 hqq iw3 n7 l7 t7 r7 p13.symm p23'.symm p34 ?_
      intro vs w8 B8 hU8
      obtain ⟨o8, l8, m8, r8, a1, a2, a3, s8⟩ := hU8
      unfold dgFr
      have n8 : w8.ownsRow (w.heap.size + 2) 33 1 (vs 8) (k + 1) ((tab (fun i => a i * b i * 16777216) (k + 1)).map (Value.int .i64)) := by rw [H3.out, hqq, List.map_append]; exact o8
      have B8' : Below (w.heap.size + 2) V0 w8 := B7.trans B8
      have p12'' := p12'.symm
      clear o8 n7 l7 t7 r7 ca cb B7 s7 iw0 iw1 iw2 iw3 hqq hz A B hZb lk zk
      go_wp2_with (at_builtin; refine wpList_append_own_at _ rfl _ _ 22 rfl (w.heap.size + 2) 33 i0 (.int .i64 0) 1 8 Try.under22 hi hz0 hz1 hz2 rfl (by decide) u9 _ _ rfl (r8.alloc _) ⟨_, 0, none⟩ 1 1 [.int .i64 16777216] rfl rfl c1_one c2_one (by unfold maxLen; omega) (by omega) (by simp; omega) ?_; intro v9 w9 o9 g9 _ q9)
      obtain ⟨l9, q19⟩ := app_keep (v := u9) (l8.alloc _) p14.symm g9 q9
      obtain ⟨m9, q29⟩ := app_keep (v := u9) (m8.alloc _) p24'.symm g9 q9
      obtain ⟨n9, q39⟩ := app_keep (v := u9) (n8.alloc _) a3.symm g9 q9
      have r9 : w9.ownsRow (w.heap.size + 2) 33 1 v9 (k + 1) ((tab (fun _ => (16777216 : Int)) (k + 1)).map (Value.int .i64)) := by rw [H4.out, List.map_append]; exact o9
      have B9 : Below (w.heap.size + 2) V0 w9 := (B8'.alloc s8 _).grown g9 (by simp; omega) (fun g e => (r8.lt g e).1)
      go_roundw
      case rel => exact ⟨k + 1, by omega, by go_num, ⟨l9, m9, n9, r9, p12'', a1.symm, q19.symm, a2.symm, q29.symm, q39.symm⟩, B9⟩
      case measure => simp [intOf]; omega
    · have e : k = 3 := by omega
      subst e
      have S6 := Sees.own hF.h1
      have S7 := Sees.own hF.h2
      have S8 := Sees.own hF.h3
      have S9 := Sees.own hF.h4
      have T6 := fun v w hs => diag3 (fun i => a i * 16777216) (fun i _ => by have := ha i; show _ ≤ a i * 16777216 ∧ a i * 16777216 ≤ _; omega) v w hs
      have T7 := fun v w hs => diag3 (fun i => b i * 16777216) (fun i _ => by have := hb i; show _ ≤ b i * 16777216 ∧ b i * 16777216 ≤ _; omega) v w hs
      have T8 := fun v w hs => diag3 (fun i => a i * b i * 16777216) (fun i _ => by
        have hm := mul_whole (ha i) (hb i)
        have := cl_bd (mulv (a i * 16777216) (b i * 16777216))
        have e : cl (mulv (a i * 16777216) (b i * 16777216)) = a i * b i * 16777216 := hm.1
        rw [e] at this
        exact this) v w hs
      have T9 := fun v w hs => diag3 (fun _ => 16777216) (fun i _ => by show _ ≤ (16777216 : Int) ∧ (16777216 : Int) ≤ _; omega) v w hs
      have TM := fun va vb w sa sb => mul3 ha hb va vb w sa sb
      have TE := eye3
      have TS := same3 (fun i => a i * b i * 16777216)
      have TT := same3 (fun _ => 16777216)
      obtain ⟨zl, hzl⟩ : ∃ z, dia (fun i => a i * 16777216) 3 = z := ⟨_, rfl⟩
      obtain ⟨zm, hzm⟩ : ∃ z, dia (fun i => b i * 16777216) 3 = z := ⟨_, rfl⟩
      obtain ⟨zn, hzn⟩ : ∃ z, dia (fun i => a i * b i * 16777216) 3 = z := ⟨_, rfl⟩
      obtain ⟨zo, hzo⟩ : ∃ z, dia (fun _ => (16777216 : Int)) 3 = z := ⟨_, rfl⟩
      simp only [hzl] at T6 TM
      simp only [hzm] at T7 TM
      simp only [hzn] at T8 TM TS
      simp only [hzo] at T9 TE TT
      have b9 := b0.trans (hB.mono (by omega))
      clear hzl hzm hzn hzo hF hB hs0 ha hb x1 x2
      go_wp2_with (first
        | (go_at_call_of 22 u6; refine (T6 _ _ S6).mono ?_; rintro e y1 ⟨v1, rfl, s1, g1⟩; obtain ⟨ao1, cap1, rfl⟩ := s1.slice; have h1 := box_below y1 (.cells #[.int .i64 3, .int .i64 3, .slice ao1 zl.length cap1] 24); have k1 := bt g1 h1; have m1 := heap_new y1 (.cells #[.int .i64 3, .int .i64 3, .slice ao1 zl.length cap1] 24); have s1 := s1.below h1; clear T6 S6)
        | (go_at_call_of 22 u7; refine (T7 _ _ (S7.below k1)).mono ?_; rintro e y2 ⟨v2, rfl, s2, g2⟩; obtain ⟨ao2, cap2, rfl⟩ := s2.slice; have h2 := box_below y2 (.cells #[.int .i64 3, .int .i64 3, .slice ao2 zm.length cap2] 24); have j2 := bt g2 h2; have k2 := bt k1 j2; have m2 := heap_new y2 (.cells #[.int .i64 3, .int .i64 3, .slice ao2 zm.length cap2] 24); have s2 := s2.below h2; have m1 := keep j2 m1; have s1 := s1.below j2; clear T7 S7)
        | (go_at_call_of 22 u8; refine (T8 _ _ (S8.below k2)).mono ?_; rintro e y3 ⟨v3, rfl, s3, g3⟩; obtain ⟨ao3, cap3, rfl⟩ := s3.slice; have h3 := box_below y3 (.cells #[.int .i64 3, .int .i64 3, .slice ao3 zn.length cap3] 24); have j3 := bt g3 h3; have k3 := bt k2 j3; have m3 := heap_new y3 (.cells #[.int .i64 3, .int .i64 3, .slice ao3 zn.length cap3] 24); have s3 := s3.below h3; have m1 := keep j3 m1; have m2 := keep j3 m2; have s1 := s1.below j3; have s2 := s2.below j3; obtain ⟨c0, c1, c2, _⟩ := mat_cells m1; obtain ⟨d0, d1, d2, _⟩ := mat_cells m2; clear T8 S8)
        | (go_at_call 16; refine (TM _ _ _ s1 s2).mono ?_; rintro e y4 ⟨v4, rfl, s4, g4⟩; obtain ⟨ao4, cap4, rfl⟩ := s4.slice; have h4 := box_below y4 (.cells #[.int .i64 3, .int .i64 3, .slice ao4 zn.length cap4] 24); have j4 := bt g4 h4; have k4 := bt k3 j4; have m4 := heap_new y4 (.cells #[.int .i64 3, .int .i64 3, .slice ao4 zn.length cap4] 24); have s4 := s4.below h4; have m3 := keep j4 m3; have s3 := s3.below j4; clear TM m1 m2 s1 s2)
        | (go_at_call 20; refine (TE _).mono ?_; rintro e y5 ⟨v5, rfl, s5, g5⟩; obtain ⟨ao5, cap5, rfl⟩ := s5.slice; have h5 := box_below y5 (.cells #[.int .i64 3, .int .i64 3, .slice ao5 zo.length cap5] 24); have j5 := bt g5 h5; have k5 := bt k4 j5; have m5 := heap_new y5 (.cells #[.int .i64 3, .int .i64 3, .slice ao5 zo.length cap5] 24); have s5 := s5.below h5; have m3 := keep j5 m3; have m4 := keep j5 m4; have s3 := s3.below j5; have s4 := s4.below j5; clear TE)
        | (go_at_call_of 22 u9; refine (T9 _ _ (S9.below k5)).mono ?_; rintro e y6 ⟨v6, rfl, s6, g6⟩; obtain ⟨ao6, cap6, rfl⟩ := s6.slice; have h6 := box_below y6 (.cells #[.int .i64 3, .int .i64 3, .slice ao6 zo.length cap6] 24); have j6 := bt g6 h6; have k6 := bt k5 j6; have m6 := heap_new y6 (.cells #[.int .i64 3, .int .i64 3, .slice ao6 zo.length cap6] 24); have s6 := s6.below h6; have m3 := keep j6 m3; have m4 := keep j6 m4; have m5 := keep j6 m5; have s3 := s3.below j6; have s4 := s4.below j6; have s5 := s5.below j6; obtain ⟨e0, e1, e2, _⟩ := mat_cells m3; obtain ⟨f0, f1, f2, _⟩ := mat_cells m4; clear T9 S9)
        | (go_at_call_of 18 (Value.slice ao4 zn.length cap4); refine (TS _ _ _ s4 s3).mono ?_; rintro e y7 ⟨rfl, g7⟩; have k7 := bt k6 g7; obtain ⟨p0, p1, p2, _⟩ := mat_cells (keep g7 m5); obtain ⟨q0, q1, q2, _⟩ := mat_cells (keep g7 m6); clear TS)
        | (go_at_call_of 18 (Value.slice ao5 zo.length cap5); refine (TT _ _ _ (s5.below g7) (s6.below g7)).mono ?_; rintro e y8 ⟨rfl, g8⟩; have k8 := bt k7 g8))
      go_ret
      exact ⟨rfl, b9.trans (k8.mono b9.size)⟩
end Go.Proofs.Yteohdhmimpajmaa
