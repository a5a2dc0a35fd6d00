/-
  Which slot is the newest whole one: the document's.
-/
import Derived.Test.YtcfobifldlkfnaaNNr
namespace Go.Proofs.Ytcfobifldlkfnaa.Gr
open Go.RowKit Go.Sort Qm Nm
set_option linter.unusedVariables false

set_option maxRecDepth 20000 in
set_option maxHeartbeats 2000000 in
theorem rnewest_any (va vb' : Value) (s : Nv) (w : World) (hna : s.a.length ≤ 1000) (hnb : s.b.length ≤ 1000) (sa : SeesI w va s.a) (sb : SeesI w vb' s.b) :
    Calls Try.prog 27 #[.agg #[va, .int .i64 s.c, vb', .int .i64 s.d]] w fun e w' => e = .returned (.int .i64 (if plc s = -1 then 2 else plc s)) ∧ Below w.heap.size w w' := by
  obtain ⟨A, c, Bw, d⟩ := s
  simp only at hna hnb sa sb ⊢
  obtain ⟨ao, acap, rfl⟩ := sa.slice
  obtain ⟨bo, bcap, rfl⟩ := sb.slice
  obtain ⟨W, hW⟩ : ∃ W, w.alloc (.cells #[.slice ao A.length acap, .int .i64 c, .slice bo Bw.length bcap, .int .i64 d] 27) = W := ⟨_, rfl⟩
  have bW : Below w.heap.size w W := by rw [← hW]; exact box_below w _
  have hB := heap_new w (.cells #[.slice ao A.length acap, .int .i64 c, .slice bo Bw.length bcap, .int .i64 d] 27)
  rw [hW] at hB
  have sA := sa.below bW
  have sB := sb.below bW
  have c0 := fun (u : World) (h : Below W.heap.size W u) => rwhole_any (.slice ao A.length acap) A c u hna (sA.below h)
  have c1 := fun (u : World) (h : Below W.heap.size W u) => rwhole_any (.slice bo Bw.length bcap) Bw d u hnb (sB.below h)
  have HP : Hid (plc ⟨A, c, Bw, d⟩ = pick2 (whS A c) (whS Bw d) (hd A) (hd Bw)) := rfl
  have ha0 : ∀ u, Below W.heap.size W u → whS A c = true → ∃ ad, ao = some ad ∧ u.cell? ad = some (vw (hd A)) ∧ 0 < A.length := fun u h e => by
    obtain ⟨ad, e1, _, e2⟩ := hd_cell (sA.below h) (whS_iff.1 e).1
    exact ⟨ad, e1, e2, (whS_iff.1 e).1⟩
  have hb0 : ∀ u, Below W.heap.size W u → whS Bw d = true → ∃ ad, bo = some ad ∧ u.cell? ad = some (vw (hd Bw)) ∧ 0 < Bw.length := fun u h e => by
    obtain ⟨ad, e1, _, e2⟩ := hd_cell (sB.below h) (whS_iff.1 e).1
    exact ⟨ad, e1, e2, (whS_iff.1 e).1⟩
  obtain ⟨PR, hPR⟩ : ∃ PR, (if plc ⟨A, c, Bw, d⟩ = -1 then 2 else plc ⟨A, c, Bw, d⟩) = PR := ⟨_, rfl⟩
  rw [hPR]
  have HPR : Hid (PR = if pick2 (whS A c) (whS Bw d) (hd A) (hd Bw) = -1 then 2 else pick2 (whS A c) (whS Bw d) (hd A) (hd Bw)) := by rw [← HP.out]; exact hPR.symm
  clear HP hPR
  generalize hd A = x at HPR ha0
  generalize hd Bw = y at HPR hb0
  generalize whS A c = p at c0 ha0 HPR
  generalize whS Bw d = q at c1 hb0 HPR
  have hb4 := fun (u : World) (h : Below W.heap.size W u) => four_cells (keep h hB)
  obtain ⟨r1, r2, r3, r4⟩ := four_cells hB
  generalize A.length = n at *
  generalize Bw.length = m at *
  obtain ⟨B, hBe⟩ : ∃ B, w.heap.size = B := ⟨_, rfl⟩
  rw [hBe] at hb4 r1 r2 r3 r4 bW ⊢
  have HBe : Hid (w.heap.size = B) := hBe
  clear sA sB sa sb hB
  have fin : ∀ (u v : World), Below W.heap.size W u → Below u.heap.size u v → Below B w v := fun u v h1 h2 => bW.trans ((bt h1 h2).mono (by have := bW.size; have := HBe.out; omega))
  have s0 := Below.refl W.heap.size W
  cases p
  · cases q
    · have HE : Hid (PR = 2) := by unfold Hid; rw [HPR.out]; simp [pick2]
      --[a
      clear ha0 hb0 HPR
      go_enter Try.func27, Try.ntmps27
      go_wp2_with (first
        | (have _ := b1; go_at_call 37; go_must (refine (c1 _ b1).mono ?_); rintro e w2 ⟨rfl, b2⟩; have b2' := bt b1 b2)
        | (go_at_call 37; go_must (refine (c0 _ s0).mono ?_); rintro e w1 ⟨rfl, b1⟩; obtain ⟨t1, t2, t3, t4⟩ := hb4 _ b1))
      go_ret
      exact ⟨by rw [HE.out]; rfl, fin _ _ b1 b2⟩
      --]a
    · have HE : Hid (PR = 1) := by unfold Hid; rw [HPR.out]; simp [pick2]
      --[b
      clear ha0 hb0 HPR
      go_enter Try.func27, Try.ntmps27
      go_wp2_with (first
        | (have _ := b1; go_at_call 37; go_must (refine (c1 _ b1).mono ?_); rintro e w2 ⟨rfl, b2⟩; have b2' := bt b1 b2)
        | (go_at_call 37; go_must (refine (c0 _ s0).mono ?_); rintro e w1 ⟨rfl, b1⟩; obtain ⟨t1, t2, t3, t4⟩ := hb4 _ b1))
      go_ret
      exact ⟨by rw [HE.out]; rfl, fin _ _ b1 b2⟩
      --]b
  · cases q
    · have HE : Hid (PR = 0) := by unfold Hid; rw [HPR.out]; simp [pick2]
      --[c
      clear ha0 hb0 HPR
      go_enter Try.func27, Try.ntmps27
      go_wp2_with (first
        | (have _ := b1; go_at_call 37; go_must (refine (c1 _ b1).mono ?_); rintro e w2 ⟨rfl, b2⟩; have b2' := bt b1 b2)
        | (go_at_call 37; go_must (refine (c0 _ s0).mono ?_); rintro e w1 ⟨rfl, b1⟩; obtain ⟨t1, t2, t3, t4⟩ := hb4 _ b1))
      go_ret
      exact ⟨by rw [HE.out]; rfl, fin _ _ b1 b2⟩
      --]c
    · by_cases hxy : x < y
      · have dxy : decide (x < y) = true := decide_eq_true hxy
        have HE : Hid (PR = 1) := by unfold Hid; rw [HPR.out]; simp [pick2, hxy]
        --[d
        clear HPR
        have hfa := fun u h => ha0 u h rfl
        have hfb := fun u h => hb0 u h rfl
        clear ha0 hb0
        go_enter Try.func27, Try.ntmps27
        go_wp2_with (first
          | (have _ := b1; go_at_call 37; go_must (refine (c1 _ b1).mono ?_); rintro e w2 ⟨rfl, b2⟩; have b2' := bt b1 b2; obtain ⟨z1, z2, z3, z4⟩ := hb4 _ b2'; obtain ⟨ad, rfl, ca, na⟩ := hfa _ b2'; obtain ⟨bd, rfl, cb, nb⟩ := hfb _ b2'; have na' : (0 : Int) < (n : Int) := (by omega); have nb' : (0 : Int) < (m : Int) := (by omega))
          | (go_at_call 37; go_must (refine (c0 _ s0).mono ?_); rintro e w1 ⟨rfl, b1⟩; obtain ⟨t1, t2, t3, t4⟩ := hb4 _ b1))
        go_quiet (fail)
        go_wp2
        go_ret
        exact ⟨by rw [HE.out]; rfl, fin _ _ b2' (below_drewN (Below.refl _ _) _)⟩
        --]d
      · have dxy : decide (x < y) = false := decide_eq_false hxy
        have HE : Hid (PR = 0) := by unfold Hid; rw [HPR.out]; simp [pick2, hxy]
        --[e
        clear HPR
        have hfa := fun u h => ha0 u h rfl
        have hfb := fun u h => hb0 u h rfl
        clear ha0 hb0
        go_enter Try.func27, Try.ntmps27
        go_wp2_with (first
          | (have _ := b1; go_at_call 37; go_must (refine (c1 _ b1).mono ?_); rintro e w2 ⟨rfl, b2⟩; have b2' := bt b1 b2; obtain ⟨z1, z2, z3, z4⟩ := hb4 _ b2'; obtain ⟨ad, rfl, ca, na⟩ := hfa _ b2'; obtain ⟨bd, rfl, cb, nb⟩ := hfb _ b2'; have na' : (0 : Int) < (n : Int) := (by omega); have nb' : (0 : Int) < (m : Int) := (by omega))
          | (go_at_call 37; go_must (refine (c0 _ s0).mono ?_); rintro e w1 ⟨rfl, b1⟩; obtain ⟨t1, t2, t3, t4⟩ := hb4 _ b1))
        go_quiet (fail)
        go_wp2
        go_ret
        exact ⟨by rw [HE.out]; rfl, fin _ _ b2' (below_drewN (Below.refl _ _) _)⟩
        --]e
end Go.Proofs.Ytcfobifldlkfnaa.Gr
