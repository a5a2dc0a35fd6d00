/-
  Which slot is the newest whole one: the code's.
-/
import Derived.Test.YtcfobifldlkfnaaNN
namespace Go.Proofs.Ytcfobifldlkfnaa.Gr
open Go.RowKit Go.Sort Qm Nm
set_option linter.unusedVariables false

theorem whole_calm (k : Nat) (hk : k < 2) (B : Nat) (v : Value) (ws : List Int) (c : Int) (w : World) (hn : ws.length ≤ 1000) (c0 : w.cell? ⟨B, 2 * k, none⟩ = some v) (c1 : w.cell? ⟨B, 2 * k + 1, none⟩ = some (.int .i64 c)) (hs : SeesI w v ws) (d : Nat) (os : Array Obj) :
    Calls Try.prog 36 #[.int .i64 k, .pointer (some ⟨B, 0, none⟩)] (grow (redrawn w d) os) fun e w'' => e = .returned (.bool (whS ws c)) ∧ ∃ p : Regrown, w'' = grow (redrawn w p.d) p.os :=
  Calls.regrown_of (whole_any k hk B v ws c _ hn (cell_regrown c0 d os) (cell_regrown c1 d os) (hs.below (below_regrown w d os)))
theorem enters_whole : ∀ (args : Array Value) (a : World), Sem.run Try.prog (callFunc 36 args) a = Result.ok (Next.enter 36 args) a := by
  intro args a
  simp [callFunc, Try.func36, go_sem]
  rfl
/-- the place behind so many slots -/
def plcs (p q : Bool) (x y : Int) (k : Nat) : Int := if k = 0 then -1 else if k = 1 then (if p = true then 0 else -1) else pick2 p q x y
set_option maxRecDepth 20000 in
set_option maxHeartbeats 4000000 in
theorem newest_any (va vb' : Value) (s : Nv) (w : World) (hna : s.a.length ≤ 1000) (hnb : s.b.length ≤ 1000) (sa : SeesI w va s.a) (sb : SeesI w vb' s.b) :
    Calls Try.prog 25 #[.agg #[va, .int .i64 s.c, vb', .int .i64 s.d]] w fun e w' => e = .returned (.int .i64 (plc s)) ∧ Below w.heap.size w w' := by
  obtain ⟨A, c, Bw, d⟩ := s
  simp only at hna hnb sa sb ⊢
  obtain ⟨ao, acap, rfl⟩ := sa.slice
  obtain ⟨bo, bcap, rfl⟩ := sb.slice
  obtain ⟨W, hW⟩ : ∃ W, w.alloc (.cells #[.slice ao A.length acap, .int .i64 c, .slice bo Bw.length bcap, .int .i64 d] 25) = W := ⟨_, rfl⟩
  have bW : Below w.heap.size w W := by rw [← hW]; exact box_below w _
  have hB := heap_new w (.cells #[.slice ao A.length acap, .int .i64 c, .slice bo Bw.length bcap, .int .i64 d] 25)
  rw [hW] at hB
  have sA := sa.below bW
  have sB := sb.below bW
  obtain ⟨B, hBe⟩ : ∃ B, w.heap.size = B := ⟨_, rfl⟩
  rw [hBe] at hB bW ⊢
  have c0 := fun (u : World) (h : Below W.heap.size W u) => whole_calm 0 (by omega) B (.slice ao A.length acap) A c u hna (four_cells (keep h hB)).1 (four_cells (keep h hB)).2.1 (sA.below h)
  have c1 := fun (u : World) (h : Below W.heap.size W u) => whole_calm 1 (by omega) B (.slice bo Bw.length bcap) Bw d u hnb (four_cells (keep h hB)).2.2.1 (four_cells (keep h hB)).2.2.2 (sB.below h)
  have HP : Hid (plc ⟨A, c, Bw, d⟩ = pick2 (whS A c) (whS Bw d) (hd A) (hd Bw)) := rfl
  have ha0 : ∀ u, Below W.heap.size W u → whS A c = true → ∃ ad, ao = some ad ∧ u.cell? ad = some (vw (hd A)) ∧ 0 < A.length := fun u h e => by
    obtain ⟨ad, e1, _, e2⟩ := hd_cell (sA.below h) (whS_iff.1 e).1
    exact ⟨ad, e1, e2, (whS_iff.1 e).1⟩
  have hb0 : ∀ u, Below W.heap.size W u → whS Bw d = true → ∃ ad, bo = some ad ∧ u.cell? ad = some (vw (hd Bw)) ∧ 0 < Bw.length := fun u h e => by
    obtain ⟨ad, e1, _, e2⟩ := hd_cell (sB.below h) (whS_iff.1 e).1
    exact ⟨ad, e1, e2, (whS_iff.1 e).1⟩
  generalize plc ⟨A, c, Bw, d⟩ = PP at HP ⊢
  generalize hd A = x at HP ha0
  generalize hd Bw = y at HP hb0
  generalize whS A c = p at c0 ha0 HP
  generalize whS Bw d = q at c1 hb0 HP
  have hb4 := fun (u : World) (h : Below W.heap.size W u) => four_cells (keep h hB)
  generalize A.length = n at *
  generalize Bw.length = m at *
  have HW : Hid (w.alloc (.cells #[.slice ao n acap, .int .i64 c, .slice bo m bcap, .int .i64 d] 25) = W) := hW
  have HBe : Hid (w.heap.size = B) := hBe
  clear sA sB sa sb hB
  go_enter Try.func25, Try.ntmps25
  go_wp2
  clear hW hBe
  go_loopw [7, 4] (fun i z wr => ∃ k : Nat, k ≤ 2 ∧ i = .int .i64 k ∧ z = .int .i64 (plcs p q x y k) ∧ Below W.heap.size W wr) (fun i _ _ => 2 - (intOf i).toNat)
  case atStart => exact ⟨0, by omega, rfl, rfl, Below.refl _ _⟩
  case round =>
    obtain ⟨k, hk, rfl, rfl, hbl⟩ := hrel
    rcases (by omega : k = 0 ∨ k = 1 ∨ k = 2) with rfl | rfl | rfl
    · have e0 : plcs p q x y 0 = -1 := rfl
      have HB : Hid (Below W.heap.size W wr) := hbl
      have cw := c0 wr hbl
      rw [e0]
      clear c0 c1 ha0 hb0 hb4 e0 hbl HP
      cases p
      --[a
      · go_wp2
        have hent := enters_whole
        refine wp_region_quiet_below (by kernel_rfl) (by kernel_rfl) ?_
        repeat (go_big_quiet_step (first | (go_at_call 36; exact cw _ _)))
        refine wpQuiet_nil ?_
        intro _ hw'
        obtain ⟨⟨dq, osq⟩, hw''⟩ := hw'
        subst hw''
        have bz := below_regrown wr dq osq
        generalize grow (redrawn wr dq) osq = u at bz ⊢
        go_wp2
        go_roundw
        case rel => exact ⟨1, by omega, rfl, rfl, bt HB.out bz⟩
        case measure => simp [intOf]
      --]a
      --[b
      · go_wp2
        have hent := enters_whole
        refine wp_region_quiet_below (by kernel_rfl) (by kernel_rfl) ?_
        repeat (go_big_quiet_step (first | (go_at_call 36; exact cw _ _)))
        refine wpQuiet_nil ?_
        intro _ hw'
        obtain ⟨⟨dq, osq⟩, hw''⟩ := hw'
        subst hw''
        have bz := below_regrown wr dq osq
        generalize grow (redrawn wr dq) osq = u at bz ⊢
        go_wp2
        go_roundw
        case rel => exact ⟨1, by omega, rfl, rfl, bt HB.out bz⟩
        case measure => simp [intOf]
      --]b
    · have HB : Hid (Below W.heap.size W wr) := hbl
      have cw := c1 wr hbl
      cases p
      · have e1 : plcs false q x y 1 = -1 := rfl
        rw [e1]
        clear c0 c1 ha0 hb0 hb4 e1 hbl HP
        cases q
        --[c
        · go_wp2
          have hent := enters_whole
          refine wp_region_quiet_below (by kernel_rfl) (by kernel_rfl) ?_
          repeat (go_big_quiet_step (first | (go_at_call 36; exact cw _ _)))
          refine wpQuiet_nil ?_
          intro _ hw'
          obtain ⟨⟨dq, osq⟩, hw''⟩ := hw'
          subst hw''
          have bz := below_regrown wr dq osq
          generalize grow (redrawn wr dq) osq = u at bz ⊢
          go_wp2
          go_roundw
          case rel => exact ⟨2, by omega, rfl, rfl, bt HB.out bz⟩
          case measure => simp [intOf]
        --]c
        --[d
        · go_wp2
          have hent := enters_whole
          refine wp_region_quiet_below (by kernel_rfl) (by kernel_rfl) ?_
          repeat (go_big_quiet_step (first | (go_at_call 36; exact cw _ _)))
          refine wpQuiet_nil ?_
          intro _ hw'
          obtain ⟨⟨dq, osq⟩, hw''⟩ := hw'
          subst hw''
          have bz := below_regrown wr dq osq
          generalize grow (redrawn wr dq) osq = u at bz ⊢
          go_wp2
          go_roundw
          case rel => exact ⟨2, by omega, rfl, rfl, bt HB.out bz⟩
          case measure => simp [intOf]
        --]d
      · have e1 : plcs true q x y 1 = 0 := rfl
        rw [e1]
        cases q
        --[e
        · clear c0 c1 ha0 hb0 hb4 e1 hbl HP
          go_wp2
          have hent := enters_whole
          refine wp_region_quiet_below (by kernel_rfl) (by kernel_rfl) ?_
          repeat (go_big_quiet_step (first | (go_at_call 36; exact cw _ _)))
          refine wpQuiet_nil ?_
          intro _ hw'
          obtain ⟨⟨dq, osq⟩, hw''⟩ := hw'
          subst hw''
          have bz := below_regrown wr dq osq
          generalize grow (redrawn wr dq) osq = u at bz ⊢
          go_wp2
          go_roundw
          case rel => exact ⟨2, by omega, rfl, rfl, bt HB.out bz⟩
          case measure => simp [intOf]
        --]e
        · obtain ⟨r1, r2, r3, r4⟩ := hb4 wr hbl
          obtain ⟨ad, rfl, ca, na⟩ := ha0 wr hbl rfl
          obtain ⟨bd, rfl, cb, nb⟩ := hb0 wr hbl rfl
          have m1 := cell_regrown r1
          have m3 := cell_regrown r3
          have ma := cell_regrown ca
          have mb := cell_regrown cb
          have na' : (0 : Int) < (n : Int) := by omega
          have nb' : (0 : Int) < (m : Int) := by omega
          clear c0 c1 ha0 hb0 hb4 e1 hbl HP r1 r2 r3 r4 ca cb
          by_cases hxy : x < y
          --[f
          · have dxy : decide (x < y) = true := decide_eq_true hxy
            have HE2 : Hid (plcs true true x y 2 = 1) := by unfold Hid; simp [plcs, pick2, hxy]
            go_wp2
            have hent := enters_whole
            refine wp_region_quiet_below (by kernel_rfl) (by kernel_rfl) ?_
            repeat (go_big_quiet_step (first | (go_at_call 36; exact cw _ _)))
            refine wpQuiet_nil ?_
            intro _ hw'
            obtain ⟨⟨dq, osq⟩, hw''⟩ := hw'
            subst hw''
            have bz := below_regrown wr dq osq
            generalize grow (redrawn wr dq) osq = u at bz ⊢
            go_wp2
            go_roundw
            case rel => exact ⟨2, by omega, rfl, by rw [HE2.out] <;> rfl, bt HB.out bz⟩
            case measure => simp [intOf]
          --]f
          --[g
          · have dxy : decide (x < y) = false := decide_eq_false hxy
            have HE2 : Hid (plcs true true x y 2 = 0) := by unfold Hid plcs; rw [if_neg (by omega), if_neg (by omega)]; unfold pick2; rw [if_pos rfl, if_neg (fun h => hxy h.2)]
            go_wp2
            have hent := enters_whole
            refine wp_region_quiet_below (by kernel_rfl) (by kernel_rfl) ?_
            repeat (go_big_quiet_step (first | (go_at_call 36; exact cw _ _)))
            refine wpQuiet_nil ?_
            intro _ hw'
            obtain ⟨⟨dq, osq⟩, hw''⟩ := hw'
            subst hw''
            have bz := below_regrown wr dq osq
            generalize grow (redrawn wr dq) osq = u at bz ⊢
            go_wp2
            go_roundw
            case rel => exact ⟨2, by omega, rfl, by rw [HE2.out] <;> rfl, bt HB.out bz⟩
            case measure => simp [intOf]
          --]g
    · have e2 : plcs p q x y 2 = pick2 p q x y := rfl
      rw [e2, ← HP.out]
      clear e2 HP c0 c1 ha0 hb0 hb4
      --[h
      go_wp2
      go_ret
      exact ⟨rfl, bW.trans (hbl.mono (by have := bW.size; have := HBe.out; omega))⟩
      --]h
end Go.Proofs.Ytcfobifldlkfnaa.Gr
