/-
  Are two stores the same: the code's and the document's; how many words are written; are slots and words short.
-/
import Derived.Test.YtcfobifldlkfnaaNS
namespace Go.Proofs.Ytcfobifldlkfnaa.Gr
open Go.RowKit Go.Sort Qm Nm
set_option linter.unusedVariables false
theorem eqfunc_calm (B1 B2 : Nat) (t1 t2 : TypeId) (x1 x2 y1 y2 : Value) (s t : Nv) (w : World) (h1 : s.a.length ≤ 1000) (h2 : s.b.length ≤ 1000) (h3 : t.a.length ≤ 1000) (h4 : t.b.length ≤ 1000)
    (hx : w.heap[B1]? = some (.cells #[x1, .int .i64 s.c, x2, .int .i64 s.d] t1 (0, 0))) (hy : w.heap[B2]? = some (.cells #[y1, .int .i64 t.c, y2, .int .i64 t.d] t2 (0, 0)))
    (sx1 : SeesI w x1 s.a) (sx2 : SeesI w x2 s.b) (sy1 : SeesI w y1 t.a) (sy2 : SeesI w y2 t.b) (d : Nat) (os : Array Obj) :
    Calls Try.prog 33 #[.slice (some ⟨B1, 0, none⟩) 2 2, .slice (some ⟨B2, 0, none⟩) 2 2, .func (.func 34) #[] #[]] (grow (redrawn w d) os) fun e w'' => e = .returned (.bool (sameN s t)) ∧ ∃ p : Regrown, w'' = grow (redrawn w p.d) p.os :=
  Calls.regrown_of (eqfunc_any B1 B2 t1 t2 x1 x2 y1 y2 s t _ h1 h2 h3 h4 (keep (below_regrown w d os) hx) (keep (below_regrown w d os) hy) (sx1.below (below_regrown w d os)) (sx2.below (below_regrown w d os)) (sy1.below (below_regrown w d os)) (sy2.below (below_regrown w d os)))
set_option maxRecDepth 20000 in
set_option maxHeartbeats 1000000 in
theorem same_any (v u : Value) (s t : Nv) (w : World) (h1 : s.a.length ≤ 1000) (h2 : s.b.length ≤ 1000) (h3 : t.a.length ≤ 1000) (h4 : t.b.length ≤ 1000) (sv : SeesN w v s) (su : SeesN w u t) :
    Calls Try.prog 21 #[v, u] w fun e w' => e = .returned (.bool (sameN s t)) ∧ Below w.heap.size w w' := by
  obtain ⟨x1, x2, rfl, sx1, sx2⟩ := sv
  obtain ⟨y1, y2, rfl, sy1, sy2⟩ := su
  obtain ⟨W, hW⟩ : ∃ W, (w.alloc (.cells #[x1, .int .i64 s.c, x2, .int .i64 s.d] 27)).alloc (.cells #[y1, .int .i64 t.c, y2, .int .i64 t.d] 27) = W := ⟨_, rfl⟩
  have bW : Below w.heap.size w W := by rw [← hW]; exact bt (box_below _ _) (box_below _ _)
  obtain ⟨hx, hy⟩ := heaps2 w (.cells #[x1, .int .i64 s.c, x2, .int .i64 s.d] 27) (.cells #[y1, .int .i64 t.c, y2, .int .i64 t.d] 27)
  rw [hW] at hx hy
  have cE := eqfunc_calm _ _ _ _ x1 x2 y1 y2 s t W h1 h2 h3 h4 hx hy (sx1.below bW) (sx2.below bW) (sy1.below bW) (sy2.below bW)
  generalize sameN s t = E at *
  clear sx1 sx2 sy1 sy2 hx hy h1 h2 h3 h4
  go_enter Try.func21, Try.ntmps21
  go_wp2
  refine wp_region_quiet_below (by kernel_rfl) (by kernel_rfl) ?_
  repeat (go_big_quiet_step (first | (go_at_call 33; exact cE _ _)))
  refine wpQuiet_nil ?_
  intro _ hw'
  obtain ⟨⟨dq, osq⟩, hw''⟩ := hw'
  subst hw''
  have bz := below_regrown W dq osq
  generalize grow (redrawn W dq) osq = u at bz ⊢
  go_wp2
  go_ret
  exact ⟨rfl, bt bW bz⟩
theorem rsteps_any (v : Value) (ws : List Int) (w : World) (hn : ws.length ≤ 1000) (hs : SeesI w v ws) :
    Calls Try.prog 24 #[v] w fun e w' => e = .returned (.int .i64 (3 + (ws.length : Int))) ∧ w' = w := by
  obtain ⟨ao, cap, rfl⟩ := hs.slice
  clear hs
  generalize ws.length = n at *
  go_enter Try.func24, Try.ntmps24
  go_wp2
  go_ret
  exact ⟨rfl, rfl⟩
/-- slots and words are short -/
def Nm.fewN (s : Nv) (ws : List Int) : Bool := decide ((s.a.length : Int) + (s.b.length : Int) + (ws.length : Int) ≤ 900)
set_option maxHeartbeats 1000000 in
theorem few_any (v vw' : Value) (s : Nv) (ws : List Int) (w : World) (h1 : s.a.length ≤ 100000000000000) (h2 : s.b.length ≤ 100000000000000) (h3 : ws.length ≤ 100000000000000) (sv : SeesN w v s) (sw : SeesI w vw' ws) :
    Calls Try.prog 11 #[v, vw'] w fun e w' => e = .returned (.bool (fewN s ws)) ∧ Below w.heap.size w w' := by
  obtain ⟨x1, x2, rfl, sx1, sx2⟩ := sv
  obtain ⟨ao, acap, rfl⟩ := sx1.slice
  obtain ⟨bo, bcap, rfl⟩ := sx2.slice
  obtain ⟨wo, wcap, rfl⟩ := sw.slice
  have bW := box_below w (.cells #[.slice ao s.a.length acap, .int .i64 s.c, .slice bo s.b.length bcap, .int .i64 s.d] 27)
  have HE : Hid (fewN s ws = decide ((s.a.length : Int) + (s.b.length : Int) + (ws.length : Int) ≤ 900)) := rfl
  clear sx1 sx2 sw
  generalize s.a.length = na at *
  generalize s.b.length = nb at *
  generalize ws.length = n at *
  generalize fewN s ws = E at *
  go_enter Try.func11, Try.ntmps11
  go_wp2
  go_ret
  exact ⟨by rw [HE.out]; rfl, bW⟩
set_option maxRecDepth 20000 in
set_option maxHeartbeats 2000000 in
theorem rsameN_any (v u : Value) (s t : Nv) (w : World) (h1 : s.a.length ≤ 1000) (h2 : s.b.length ≤ 1000) (h3 : t.a.length ≤ 1000) (h4 : t.b.length ≤ 1000) (sv : SeesN w v s) (su : SeesN w u t) :
    Calls Try.prog 22 #[v, u] w fun e w' => e = .returned (.bool (sameN s t)) ∧ Below w.heap.size w w' := by
  obtain ⟨x1, x2, rfl, sx1, sx2⟩ := sv
  obtain ⟨y1, y2, rfl, sy1, sy2⟩ := su
  obtain ⟨xo1, xc1, rfl⟩ := sx1.slice
  obtain ⟨xo2, xc2, rfl⟩ := sx2.slice
  obtain ⟨yo1, yc1, rfl⟩ := sy1.slice
  obtain ⟨yo2, yc2, rfl⟩ := sy2.slice
  obtain ⟨W, hW⟩ : ∃ W, (w.alloc (.cells #[.slice xo1 s.a.length xc1, .int .i64 s.c, .slice xo2 s.b.length xc2, .int .i64 s.d] 27)).alloc (.cells #[.slice yo1 t.a.length yc1, .int .i64 t.c, .slice yo2 t.b.length yc2, .int .i64 t.d] 27) = W := ⟨_, rfl⟩
  have bW : Below w.heap.size w W := by rw [← hW]; exact bt (box_below _ _) (box_below _ _)
  obtain ⟨hx, hy⟩ := heaps2 w (.cells #[.slice xo1 s.a.length xc1, .int .i64 s.c, .slice xo2 s.b.length xc2, .int .i64 s.d] 27) (.cells #[.slice yo1 t.a.length yc1, .int .i64 t.c, .slice yo2 t.b.length yc2, .int .i64 t.d] 27)
  rw [hW] at hx hy
  have c1 := fun (u : World) (h : Below W.heap.size W u) (d : Nat) (os : Array Obj) => Calls.regrown_of (ints_any _ _ s.a t.a (grow (redrawn u d) os) (by omega) (by omega) (((sx1.below bW).below h).below (below_regrown u d os)) (((sy1.below bW).below h).below (below_regrown u d os)))
  have c2 := fun (u : World) (h : Below W.heap.size W u) (d : Nat) (os : Array Obj) => Calls.regrown_of (ints_any _ _ s.b t.b (grow (redrawn u d) os) (by omega) (by omega) (((sx2.below bW).below h).below (below_regrown u d os)) (((sy2.below bW).below h).below (below_regrown u d os)))
  have HS : Hid (sameN s t = ((decide (s.c = t.c) && decide (s.a = t.a)) && (decide (s.d = t.d) && decide (s.b = t.b)))) := rfl
  have hB1 := fun (u : World) (h : Below W.heap.size W u) => four_cells (keep h hx)
  have hB2 := fun (u : World) (h : Below W.heap.size W u) => four_cells (keep h hy)
  obtain ⟨B, hBe⟩ : ∃ B, w.heap.size = B := ⟨_, rfl⟩
  have HBe : Hid (w.heap.size = B) := hBe
  rw [hBe] at hB1 hB2 bW ⊢
  generalize sameN s t = EE at *
  generalize decide (s.a = t.a) = E0 at *
  generalize decide (s.b = t.b) = E1 at *
  clear sx1 sx2 sy1 sy2 hx hy
  generalize s.a.length = n1 at *
  generalize s.b.length = n2 at *
  generalize t.a.length = m1 at *
  generalize t.b.length = m2 at *
  generalize s.c = c at *
  generalize s.d = d at *
  generalize t.c = c' at *
  generalize t.d = d' at *
  go_enter Try.func22, Try.ntmps22
  go_wp2
  clear hBe hW
  go_loopw [5] (fun i wr => ∃ k : Nat, k ≤ 2 ∧ i = .int .i64 k ∧ (0 < k → E0 = true ∧ c = c') ∧ (1 < k → E1 = true ∧ d = d') ∧ Below W.heap.size W wr) (fun i _ => 2 - (intOf i).toNat)
  case atStart => exact ⟨0, by omega, rfl, fun h => absurd h (by omega), fun h => absurd h (by omega), Below.refl _ _⟩
  case round =>
    obtain ⟨k, hk, rfl, hE0, hE1, hbl⟩ := hrel
    obtain ⟨p1, p2, p3, p4⟩ := hB1 wr hbl
    obtain ⟨r1, r2, r3, r4⟩ := hB2 wr hbl
    have m1' := cell_regrown p1
    have m2' := cell_regrown p2
    have m3' := cell_regrown p3
    have m4' := cell_regrown p4
    have l1' := cell_regrown r1
    have l2' := cell_regrown r2
    have l3' := cell_regrown r3
    have l4' := cell_regrown r4
    have HB : Hid (Below W.heap.size W wr) := hbl
    have fin : ∀ u, Below W.heap.size W u → Below B w u := fun u h => bW.trans (h.mono (by have := bW.size; have := HBe.out; omega))
    rcases (by omega : k = 0 ∨ k = 1 ∨ k = 2) with rfl | rfl | rfl
    · have cw := c1 wr hbl
      clear c1 c2 p1 p2 p3 p4 r1 r2 r3 r4 hE0 hE1 hbl
      cases E0
      --[a
      · go_wp2
        refine wp_region_quiet_below (by kernel_rfl) (by kernel_rfl) ?_
        repeat (go_big_quiet_step (first | (go_at_call 18; exact cw _ _)))
        refine wpQuiet_nil ?_
        intro _ hw'
        obtain ⟨⟨dq, osq⟩, hw''⟩ := hw'
        subst hw''
        have bz := bt HB.out (below_regrown wr dq osq)
        obtain ⟨p1, p2, p3, p4⟩ := hB1 _ bz
        obtain ⟨r1, r2, r3, r4⟩ := hB2 _ bz
        generalize grow (redrawn wr dq) osq = u at bz p1 p2 p3 p4 r1 r2 r3 r4 ⊢
        go_wp2
        go_quiet (fail)
        go_wp2
        go_ret
        exact ⟨by rw [HS.out]; simp, fin _ (bz.trans (below_drewN (Below.refl _ _) _))⟩
      --]a
      · by_cases hc : c = c'
        --[b
        · subst hc
          go_wp2
          refine wp_region_quiet_below (by kernel_rfl) (by kernel_rfl) ?_
          repeat (go_big_quiet_step (first | (go_at_call 18; exact cw _ _)))
          refine wpQuiet_nil ?_
          intro _ hw'
          obtain ⟨⟨dq, osq⟩, hw''⟩ := hw'
          subst hw''
          have bz := bt HB.out (below_regrown wr dq osq)
          obtain ⟨p1, p2, p3, p4⟩ := hB1 _ bz
          obtain ⟨r1, r2, r3, r4⟩ := hB2 _ bz
          generalize grow (redrawn wr dq) osq = u at bz p1 p2 p3 p4 r1 r2 r3 r4 ⊢
          go_wp2
          go_quiet (fail)
          go_wp2
          go_roundw
          case rel => exact ⟨1, by omega, rfl, by simp, by simp, bz.trans (below_drewN (Below.refl _ _) _)⟩
          case measure => simp [intOf]
        --]b
        --[c
        · have dc : decide (c = c') = false := decide_eq_false hc
          have dc' : (c == c') = false := by simpa using hc
          have dc2 : (c != c') = true := by simpa using hc
          go_wp2
          refine wp_region_quiet_below (by kernel_rfl) (by kernel_rfl) ?_
          repeat (go_big_quiet_step (first | (go_at_call 18; exact cw _ _)))
          refine wpQuiet_nil ?_
          intro _ hw'
          obtain ⟨⟨dq, osq⟩, hw''⟩ := hw'
          subst hw''
          have bz := bt HB.out (below_regrown wr dq osq)
          obtain ⟨p1, p2, p3, p4⟩ := hB1 _ bz
          obtain ⟨r1, r2, r3, r4⟩ := hB2 _ bz
          generalize grow (redrawn wr dq) osq = u at bz p1 p2 p3 p4 r1 r2 r3 r4 ⊢
          go_wp2
          go_quiet (fail)
          go_wp2
          go_ret
          exact ⟨by rw [HS.out, dc]; rfl, fin _ (bz.trans (below_drewN (Below.refl _ _) _))⟩
        --]c
    · have cw := c2 wr hbl
      obtain ⟨e0, e1⟩ := hE0 (by omega)
      subst e0
      subst e1
      have dcc : decide (c = c) = true := decide_eq_true rfl
      have HS' : Hid (EE = (decide (d = d') && E1)) := by unfold Hid; rw [HS.out, dcc]; simp
      clear HS
      clear c1 c2 p1 p2 p3 p4 r1 r2 r3 r4 hE0 hE1 hbl dcc
      cases E1
      --[d
      · go_wp2
        refine wp_region_quiet_below (by kernel_rfl) (by kernel_rfl) ?_
        repeat (go_big_quiet_step (first | (go_at_call 18; exact cw _ _)))
        refine wpQuiet_nil ?_
        intro _ hw'
        obtain ⟨⟨dq, osq⟩, hw''⟩ := hw'
        subst hw''
        have bz := bt HB.out (below_regrown wr dq osq)
        obtain ⟨p1, p2, p3, p4⟩ := hB1 _ bz
        obtain ⟨r1, r2, r3, r4⟩ := hB2 _ bz
        generalize grow (redrawn wr dq) osq = u at bz p1 p2 p3 p4 r1 r2 r3 r4 ⊢
        go_wp2
        go_quiet (fail)
        go_wp2
        go_ret
        exact ⟨by rw [HS'.out]; simp, fin _ (bz.trans (below_drewN (Below.refl _ _) _))⟩
      --]d
      · by_cases hc : d = d'
        --[e
        · subst hc
          go_wp2
          refine wp_region_quiet_below (by kernel_rfl) (by kernel_rfl) ?_
          repeat (go_big_quiet_step (first | (go_at_call 18; exact cw _ _)))
          refine wpQuiet_nil ?_
          intro _ hw'
          obtain ⟨⟨dq, osq⟩, hw''⟩ := hw'
          subst hw''
          have bz := bt HB.out (below_regrown wr dq osq)
          obtain ⟨p1, p2, p3, p4⟩ := hB1 _ bz
          obtain ⟨r1, r2, r3, r4⟩ := hB2 _ bz
          generalize grow (redrawn wr dq) osq = u at bz p1 p2 p3 p4 r1 r2 r3 r4 ⊢
          go_wp2
          go_quiet (fail)
          go_wp2
          go_roundw
          case rel => exact ⟨2, by omega, rfl, by simp, by simp, bz.trans (below_drewN (Below.refl _ _) _)⟩
          case measure => simp [intOf]
        --]e
        --[f
        · have dc : decide (d = d') = false := decide_eq_false hc
          have dc' : (d == d') = false := by simpa using hc
          have dc2 : (d != d') = true := by simpa using hc
          go_wp2
          refine wp_region_quiet_below (by kernel_rfl) (by kernel_rfl) ?_
          repeat (go_big_quiet_step (first | (go_at_call 18; exact cw _ _)))
          refine wpQuiet_nil ?_
          intro _ hw'
          obtain ⟨⟨dq, osq⟩, hw''⟩ := hw'
          subst hw''
          have bz := bt HB.out (below_regrown wr dq osq)
          obtain ⟨p1, p2, p3, p4⟩ := hB1 _ bz
          obtain ⟨r1, r2, r3, r4⟩ := hB2 _ bz
          generalize grow (redrawn wr dq) osq = u at bz p1 p2 p3 p4 r1 r2 r3 r4 ⊢
          go_wp2
          go_quiet (fail)
          go_wp2
          go_ret
          exact ⟨by rw [HS'.out, dc]; rfl, fin _ (bz.trans (below_drewN (Below.refl _ _) _))⟩
        --]f
    · obtain ⟨e0, e1⟩ := hE0 (by omega)
      obtain ⟨e2, e3⟩ := hE1 (by omega)
      have dcc : decide (c = c') = true := decide_eq_true e1
      have ddd : decide (d = d') = true := decide_eq_true e3
      have HS' : Hid (EE = true) := by unfold Hid; rw [HS.out, dcc, ddd, e0, e2]; rfl
      clear hE0 hE1 c1 c2 m1' m2' m3' m4' l1' l2' l3' l4' p1 p2 p3 p4 r1 r2 r3 r4 dcc ddd e0 e1 e2 e3 hB1 hB2 HS
      --[g
      go_wp2
      go_ret
      exact ⟨by rw [HS'.out]; rfl, fin _ HB.out⟩
      --]g
end Go.Proofs.Ytcfobifldlkfnaa.Gr
