/-
  The contract of the code's Right of tracks.
-/
import Derived.Test.YtiniobcknmaigaaKRgt2
import Derived.Test.YtiniobcknmaigaaKPred
namespace Go.Proofs.Ytiniobcknmaigaa
open Go.RowKit Go.Sort Qm

theorem Qm.evB_code {n : Nat} {ps : List Int} (hp : ps.length = n * n) : (sameB n n ps n n (trn n n ps) && !lowB (tab (fun i => ge ps (i * n + i)) n) n) = evB n ps := by
  have hl : (trn n n ps).length = n * n := trn_len n n ps
  unfold evB
  by_cases h : ∀ i, i < n → symP n ps i
  · rw [decide_eq_true h]
    have h1 : sameB n n ps n n (trn n n ps) = true := by
      unfold sameB
      rw [eqB_all (by rw [hl, hp]) ?_]
      · simp
      · intro p hpl
        rw [hp] at hpl
        have hn0 : 0 < n := by
          rcases Nat.eq_zero_or_pos n with h0 | h0
          · subst h0; omega
          · exact h0
        have h2 : p / n < n := (Nat.div_lt_iff_lt_mul hn0).2 hpl
        have h3 : p % n < n := Nat.mod_lt _ hn0
        have e : p / n * n + p % n = p := by rw [Nat.mul_comm]; exact Nat.div_add_mod p n
        rw [← e, trn_at ps h2 h3]
        rcases Nat.lt_trichotomy (p % n) (p / n) with h4 | h4 | h4
        · exact (h _ h2).2 _ h4
        · rw [h4]
        · exact ((h _ h3).2 _ h4).symm
    have h2 : lowB (tab (fun i => ge ps (i * n + i)) n) n = false := anyB_none fun k hk => by
      rw [ge_tab hk]
      have := (h k hk).1
      simp; omega
    rw [h1, h2]; rfl
  · rw [decide_eq_false h]
    cases h1 : sameB n n ps n n (trn n n ps) with
    | false => rfl
    | true =>
      cases h2 : lowB (tab (fun i => ge ps (i * n + i)) n) n with
      | true => rfl
      | false =>
        exfalso
        apply h
        intro i hi
        have he : ps = trn n n ps := by
          unfold sameB eqB at h1
          simpa using h1
        refine ⟨?_, fun k hk => ?_⟩
        · rcases Int.lt_or_le (ge ps (i * n + i)) 0 with h3 | h3
          · have : lowB (tab (fun i => ge ps (i * n + i)) n) n = true := anyB_hit hi (by rw [ge_tab hi]; simpa using h3)
            rw [this] at h2; cases h2
          · exact h3
        · have := trn_at (r := n) (c := n) ps hi (Nat.lt_trans hk hi)
          rw [← he] at this
          exact this

set_option maxRecDepth 20000 in
set_option maxHeartbeats 1600000 in
theorem kright_any (r1 c1 r2 c2 : Int) (va vb : Value) (xs ps : List Int) (hx : xs.length ≤ 100) (hp : ps.length ≤ 100) (w : World) (sa : Sees w va xs) (sb : Sees w vb ps) :
    Calls Try.prog 15 #[.agg #[.int .i64 r1, .int .i64 c1, va, .int .i64 r2, .int .i64 c2, vb]] w fun e b => e = .returned (.bool (trkB r1 c1 xs r2 c2 ps)) ∧ Below w.heap.size w b := by
  obtain ⟨ao, ac, rfl⟩ := sa.slice
  obtain ⟨bo, bc, rfl⟩ := sb.slice
  obtain ⟨W, hW⟩ : ∃ W, w.alloc (.cells #[.int .i64 r1, .int .i64 c1, .slice ao xs.length ac, .int .i64 r2, .int .i64 c2, .slice bo ps.length bc] 26) = W := ⟨_, rfl⟩
  have x1 := heap_new w (.cells #[.int .i64 r1, .int .i64 c1, .slice ao xs.length ac, .int .i64 r2, .int .i64 c2, .slice bo ps.length bc] 26)
  have bW := box_below w (.cells #[.int .i64 r1, .int .i64 c1, .slice ao xs.length ac, .int .i64 r2, .int .i64 c2, .slice bo ps.length bc] 26)
  rw [hW] at x1 bW
  have k1 := right_any r1 c1 _ xs W hx (sa.below bW)
  have k2 := fun v hv => right_any r2 c2 _ ps v hp ((sb.below bW).below hv)
  have k3 := fun v => hasSize_any r2 c2 r1 r1 bo ps.length bc v
  obtain ⟨c0, c1', c2', c3, c4, c5⟩ := six_cells x1
  unfold trkB
  cases hA : rightB r1 c1 xs with
  | false =>
    rw [hA] at k1
    clear hA
    go_enter Try.func15, Try.ntmps15
    go_wp2_with (first
      | (go_at_call 30; go_must (refine k1.mono ?_); rintro e wa ⟨rfl, b1⟩; obtain ⟨d0, d1, d2, d3, d4, d5⟩ := six_cells (keep b1 x1)))
    go_ret
    exact ⟨rfl, bt bW b1⟩
  | true =>
    cases hB : rightB r2 c2 ps with
    | false =>
      rw [hA] at k1
      rw [hB] at k2
      clear hA hB
      go_enter Try.func15, Try.ntmps15
      go_wp2_with (first
        | (have _ := b1; go_at_call 30; go_must (refine (k2 _ b1).mono ?_); rintro e wb ⟨rfl, b2⟩; obtain ⟨e0, e1, e2, e3, e4, e5⟩ := six_cells (keep (bt b1 b2) x1))
        | (go_at_call 30; go_must (refine k1.mono ?_); rintro e wa ⟨rfl, b1⟩; obtain ⟨d0, d1, d2, d3, d4, d5⟩ := six_cells (keep b1 x1)))
      go_ret
      exact ⟨rfl, bt bW (bt b1 b2)⟩
    | true =>
      by_cases h1 : c1 = 1
      · subst h1
        by_cases h2 : r2 = r1 ∧ c2 = r1
        · obtain ⟨R, C, hR⟩ := right_of hB
          obtain ⟨rfl, rfl, p1, p8, q1, q8, hl, hal⟩ := hR
          obtain ⟨h2a, h2b⟩ := h2
          have h2c : C = R := by omega
          subst h2c
          subst h2a
          rw [hA] at k1
          rw [hB] at k2
          rw [decide_eq_true (show (C : Int) = C ∧ (C : Int) = C from ⟨rfl, rfl⟩)] at k3
          simp only [decide_true, Bool.true_and, Int.toNat_natCast]
          rw [← evB_code hl]
          have kT := fun v hv => trans_any C C p1 p8 p1 p8 (.slice bo ps.length bc) ps hl v ((sb.below bW).below hv)
          have zt : 0 < (trn C C ps).length := by rw [trn_len]; exact Nat.mul_pos p1 p1
          have lt : (trn C C ps).length ≤ 100 := by rw [trn_len]; have := mul_le_64 p8 p8; omega
          have kS := fun v hv u hu => same_any C C C C (.slice bo ps.length bc) u ps (trn C C ps) v hp lt ((sb.below bW).below hv) hu
          have kD := fun v hv => kdiag_any C p1 p8 (.slice bo ps.length bc) ps hl v ((sb.below bW).below hv)
          have zd : 0 < (tab (fun i => ge ps (i * C + i)) C).length := by rw [tab_len]; exact p1
          have kC := fun v u hu => lowContains_any u (tab (fun i => ge ps (i * C + i)) C) v (by rw [tab_len]; omega) hu
          rw [tab_len] at kC
          generalize lowB (tab (fun i => ge ps (i * C + i)) C) C = Lw at kC ⊢
          generalize tab (fun i => ge ps (i * C + i)) C = ds at kD zd kC
          generalize sameB C C ps C C (trn C C ps) = A at kS ⊢
          generalize trn C C ps = ts at kT zt kS
          clear hA hB hl hal lt
          cases A
          · go_enter Try.func15, Try.ntmps15
            go_wp2_with (first
              | (have _ := b2; go_at_call 31; go_must (refine (k3 _).mono ?_); rintro e wc ⟨rfl, b3⟩)
              | (have _ := b1; go_at_call 30; go_must (refine (k2 _ b1).mono ?_); rintro e wb ⟨rfl, b2⟩; obtain ⟨e0, e1, e2, e3, e4, e5⟩ := six_cells (keep (bt b1 b2) x1))
              | (go_at_call 30; go_must (refine k1.mono ?_); rintro e wa ⟨rfl, b1⟩; obtain ⟨d0, d1, d2, d3, d4, d5⟩ := six_cells (keep b1 x1)))
            have bb := bt (bt b1 b2) b3
            refine krf_region (D := w.heap.size) (n := C) (po := bo) (pc := bc) (ps := ps) (ts := ts) (fun v hv => (six_mod (keep (bt bb (hv.below (Nat.le_refl _) (fun _ h => h.elim))) x1)).2) (fun v hv => kT v (bt bb (hv.below (Nat.le_refl _) (fun _ h => h.elim)))) zt (fun v hv u hu => kS v (bt bb (hv.below (Nat.le_refl _) (fun _ h => h.elim))) u hu) ?_
            intro vs wd hd e2
            unfold krfFr
            rw [e2]
            go_wp2
            go_ret
            exact ⟨by simp, bt bW (bt bb (hd.below (Nat.le_refl _) (fun _ h => h.elim)))⟩
          · go_enter Try.func15, Try.ntmps15
            go_wp2_with (first
              | (have _ := b2; go_at_call 31; go_must (refine (k3 _).mono ?_); rintro e wc ⟨rfl, b3⟩)
              | (have _ := b1; go_at_call 30; go_must (refine (k2 _ b1).mono ?_); rintro e wb ⟨rfl, b2⟩; obtain ⟨e0, e1, e2, e3, e4, e5⟩ := six_cells (keep (bt b1 b2) x1))
              | (go_at_call 30; go_must (refine k1.mono ?_); rintro e wa ⟨rfl, b1⟩; obtain ⟨d0, d1, d2, d3, d4, d5⟩ := six_cells (keep b1 x1)))
            have bb := bt (bt b1 b2) b3
            refine krt_region (D := w.heap.size) (n := C) (po := bo) (pc := bc) (ps := ps) (ts := ts) (ds := ds) (Lw := Lw) (fun v hv => (six_mod (keep (bt bb (hv.below (Nat.le_refl _) (fun _ h => h.elim))) x1)).2) (fun v hv => kT v (bt bb (hv.below (Nat.le_refl _) (fun _ h => h.elim)))) zt (fun v hv u hu => kS v (bt bb (hv.below (Nat.le_refl _) (fun _ h => h.elim))) u hu) (fun v hv => kD v (bt bb (hv.below (Nat.le_refl _) (fun _ h => h.elim)))) zd kC ?_
            intro vs wd hd e2
            unfold krtFr
            rw [e2]
            go_wp2
            go_ret
            exact ⟨by simp, bt bW (bt bb (hd.below (Nat.le_refl _) (fun _ h => h.elim)))⟩
        · have hf : (decide (r2 = r1) && (decide (c2 = r1) && evB r1.toNat ps)) = false := by
            by_cases h3 : r2 = r1
            · have h4 : ¬ c2 = r1 := fun h => h2 ⟨h3, h⟩
              simp [h4]
            · simp [h3]
          rw [hf]
          rw [hA] at k1
          rw [hB] at k2
          rw [decide_eq_false h2] at k3
          clear hA hB hf h2
          go_enter Try.func15, Try.ntmps15
          go_wp2_with (first
            | (have _ := b2; go_at_call 31; go_must (refine (k3 _).mono ?_); rintro e wc ⟨rfl, b3⟩)
            | (have _ := b1; go_at_call 30; go_must (refine (k2 _ b1).mono ?_); rintro e wb ⟨rfl, b2⟩; obtain ⟨e0, e1, e2, e3, e4, e5⟩ := six_cells (keep (bt b1 b2) x1))
            | (go_at_call 30; go_must (refine k1.mono ?_); rintro e wa ⟨rfl, b1⟩; obtain ⟨d0, d1, d2, d3, d4, d5⟩ := six_cells (keep b1 x1)))
          go_ret
          exact ⟨by simp, bt bW (bt (bt b1 b2) b3)⟩
      · have h1' : (c1 == 1) = false := by simpa using h1
        rw [decide_eq_false h1]
        rw [hA] at k1
        rw [hB] at k2
        clear hA hB
        go_enter Try.func15, Try.ntmps15
        go_wp2_with (first
          | (have _ := b1; go_at_call 30; go_must (refine (k2 _ b1).mono ?_); rintro e wb ⟨rfl, b2⟩; obtain ⟨e0, e1, e2, e3, e4, e5⟩ := six_cells (keep (bt b1 b2) x1))
          | (go_at_call 30; go_must (refine k1.mono ?_); rintro e wa ⟨rfl, b1⟩; obtain ⟨d0, d1, d2, d3, d4, d5⟩ := six_cells (keep b1 x1)))
        go_ret
        exact ⟨by simp, bt bW (bt b1 b2)⟩
end Go.Proofs.Ytiniobcknmaigaa
