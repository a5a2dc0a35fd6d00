/-
  The contract of the document's Right of tracks.
-/
import Derived.Test.YtiniobcknmaigaaRInn
import Derived.Test.YtiniobcknmaigaaBoth
import Derived.BigQuiet
namespace Go.Proofs.Ytiniobcknmaigaa
open Go.RowKit Go.Sort Qm

namespace Qm
/-- row i is even, and not below 0 on the diagonal -/
def symP (n : Nat) (ps : List Int) (i : Nat) : Prop := 0 ≤ ge ps (i * n + i) ∧ ∀ k, k < i → ge ps (i * n + k) = ge ps (k * n + i)
instance (n : Nat) (ps : List Int) (i : Nat) : Decidable (symP n ps i) := by unfold symP; infer_instance
def evB (n : Nat) (ps : List Int) : Bool := decide (∀ i, i < n → symP n ps i)
/-- is a track right? -/
def trkB (r1 c1 : Int) (xs : List Int) (r2 c2 : Int) (ps : List Int) : Bool := rightB r1 c1 xs && (rightB r2 c2 ps && (decide (c1 = 1) && (decide (r2 = r1) && (decide (c2 = r1) && evB r1.toNat ps))))
end Qm

set_option maxRecDepth 20000 in
set_option maxHeartbeats 1600000 in
theorem rright5_any (r1 c1 r2 c2 : Int) (va vb : Value) (xs ps : List Int) (w : World) (sa : Sees w va xs) (sb : Sees w vb ps) :
    Calls Try.prog 13 #[.agg #[.int .i64 r1, .int .i64 c1, va, .int .i64 r2, .int .i64 c2, vb]] w fun e b => e = .returned (.bool (trkB r1 c1 xs r2 c2 ps)) ∧ Below w.heap.size w b := by
  obtain ⟨ao, ac, rfl⟩ := sa.slice
  obtain ⟨bo, bc, rfl⟩ := sb.slice
  obtain ⟨W, hW⟩ : ∃ W, w.alloc (.cells #[.int .i64 r1, .int .i64 c1, .slice ao xs.length ac, .int .i64 r2, .int .i64 c2, .slice bo ps.length bc] 26) = W := ⟨_, rfl⟩
  have x1 := heap_new w (.cells #[.int .i64 r1, .int .i64 c1, .slice ao xs.length ac, .int .i64 r2, .int .i64 c2, .slice bo ps.length bc] 26)
  have bW := box_below w (.cells #[.int .i64 r1, .int .i64 c1, .slice ao xs.length ac, .int .i64 r2, .int .i64 c2, .slice bo ps.length bc] 26)
  rw [hW] at x1 bW
  have k1 := rright_any r1 c1 _ xs W (sa.below bW)
  have k2 := fun v hv => rright_any r2 c2 _ ps v ((sb.below bW).below hv)
  obtain ⟨c0, c1', c2', c3, c4, c5⟩ := six_cells x1
  unfold trkB
  cases hA : rightB r1 c1 xs with
  | false =>
    rw [hA] at k1
    clear hA
    generalize rightB r2 c2 ps = B at k2 ⊢
    go_enter Try.func13, Try.ntmps13
    go_wp2_with (first
      | (have _ := b1; go_at_call 16; refine (k2 _ b1).mono ?_; rintro e wb ⟨rfl, b2⟩; obtain ⟨e0, e1, e2, e3, e4, e5⟩ := six_cells (keep (bt b1 b2) x1))
      | (go_at_call 16; refine k1.mono ?_; rintro e wa ⟨rfl, b1⟩; obtain ⟨d0, d1, d2, d3, d4, d5⟩ := six_cells (keep b1 x1)))
    go_ret
    exact ⟨rfl, bt bW (bt b1 b2)⟩
  | true =>
    cases hB : rightB r2 c2 ps with
    | false =>
      rw [hA] at k1
      rw [hB] at k2
      clear hA hB
      go_enter Try.func13, Try.ntmps13
      go_wp2_with (first
        | (have _ := b1; go_at_call 16; refine (k2 _ b1).mono ?_; rintro e wb ⟨rfl, b2⟩; obtain ⟨e0, e1, e2, e3, e4, e5⟩ := six_cells (keep (bt b1 b2) x1))
        | (go_at_call 16; refine k1.mono ?_; rintro e wa ⟨rfl, b1⟩; obtain ⟨d0, d1, d2, d3, d4, d5⟩ := six_cells (keep b1 x1)))
      go_ret
      exact ⟨rfl, bt bW (bt b1 b2)⟩
    | true =>
      obtain ⟨R, C, hR⟩ := right_of hB
      obtain ⟨R1, C1, hR1⟩ := right_of hA
      rw [hA] at k1
      rw [hB] at k2
      clear hA hB
      obtain ⟨rfl, rfl, p1, p8, q1, q8, hl, hal⟩ := hR
      obtain ⟨rfl, rfl, p1', p8', q1', q8', hl', _⟩ := hR1
      clear hal
      by_cases h1 : C1 = 1
      · subst h1
        simp only [Int.natCast_one] at k1 x1 c1' hW ⊢
        by_cases h2 : R = R1
        · subst h2
          by_cases h3 : C = R
          · subst h3
            simp only [decide_true, Bool.true_and, Int.toNat_natCast]
            have hev : ∀ b, (b = true ↔ ∀ i, i < C → symP C ps i) → evB C ps = b := fun b hb => by
              unfold evB
              cases b with
              | true => simpa using hb.1 rfl
              | false => simp only [decide_eq_false_iff_not]; intro h; have := hb.2 h; cases this
            have HEV : Hid (∀ b, (b = true ↔ ∀ i, i < C → symP C ps i) → evB C ps = b) := hev
            obtain ⟨V, hV⟩ : ∃ V, evB C ps = V := ⟨_, rfl⟩
            have HV : Hid (evB C ps = V) := hV
            rw [hV]
            have h64 : C * C ≤ 64 := mul_le_64 p8 p8
            obtain ⟨m, hm⟩ : ∃ m, C * C = m := ⟨_, rfl⟩
            have HM : Hid (C * C = m) := hm
            have HL : Hid (ps.length = m) := by rw [← hm]; exact hl
            rw [hm] at h64
            have hsW := sb.below bW
            rw [HL.out] at hsW x1 c5 k2
            clear hev hV hl hl' hm
            go_enter Try.func13, Try.ntmps13
            go_wp2_with (first
              | (have _ := b1; go_at_call 16; refine (k2 _ b1).mono ?_; rintro e wb ⟨rfl, b2⟩; obtain ⟨e0, e1, e2, e3, e4, e5⟩ := six_cells (keep (bt b1 b2) x1))
              | (go_at_call 16; refine k1.mono ?_; rintro e wa ⟨rfl, b1⟩; obtain ⟨d0, d1, d2, d3, d4, d5⟩ := six_cells (keep b1 x1)))
            have b3 := bt b1 b2
            clear k1 k2 e0 e1 e2 e3 e4 e5
            go_loopw [6] (fun i wr => ∃ a : Nat, a ≤ C ∧ i = .int .i64 a ∧ Hid (∀ j, j < a → symP C ps j) ∧ Below W.heap.size W wr) (fun i _ => C - (intOf i).toNat)
            case atStart => exact ⟨0, Nat.zero_le _, rfl, fun j hj => absurd hj (Nat.not_lt_zero _), b3⟩
            case round =>
              clear b3
              obtain ⟨i, hi, rfl, hsym, hb⟩ := hrel
              obtain ⟨e0, e1, e2, e3, e4, e5⟩ := six_cells (keep hb x1)
              by_cases hlt : i < C
              · have pA : i * C + i < m := by rw [← HM.out]; exact at_lt hlt hlt
                obtain ⟨ad, had, hcA⟩ := (hsW.below hb).at (i * C + i) (by rw [HL.out]; exact pA)
                subst had
                obtain ⟨x, hx⟩ : ∃ x, ge ps (i * C + i) = x := ⟨_, rfl⟩
                have HX : Hid (ge ps (i * C + i) = x) := hx
                rw [hx] at hcA
                obtain ⟨qa, hqa⟩ : ∃ qa, i * C = qa := ⟨_, rfl⟩
                have hqi : (i : Int) * (C : Int) = (qa : Int) := by rw [← hqa]; exact (Int.natCast_mul i C).symm
                have HQA : Hid (i * C = qa) := hqa
                rw [hqa] at pA hcA
                clear hqa hx
                by_cases hx0 : x < 0
                · go_wp2
                  go_ret
                  have hf : V = false := by
                    rw [← HV.out]
                    refine HEV.out false ⟨fun h => (by cases h), fun h => ?_⟩
                    have := (h i hlt).1
                    rw [HX.out] at this; omega
                  exact ⟨by rw [hf]; rfl, bt bW hb⟩
                · go_wp2
                  go_loopw [7] (fun k wr => ∃ a : Nat, a ≤ i ∧ k = .int .i64 a ∧ Hid (∀ j, j < a → ge ps (i * C + j) = ge ps (j * C + i)) ∧ Below W.heap.size W wr) (fun k _ => i - (intOf k).toNat)
                  case atStart => exact ⟨0, Nat.zero_le _, rfl, fun j hj => absurd hj (Nat.not_lt_zero _), hb⟩
                  case round =>
                    clear hcA hb e0 e1 e2 e3 e4 e5
                    obtain ⟨k, hk, rfl, heq, hb⟩ := hrel
                    obtain ⟨e0, e1, e2, e3, e4, e5⟩ := six_cells (keep hb x1)
                    by_cases hlk : k < i
                    · have pB : i * C + k < m := by rw [← HM.out]; exact at_lt hlt (by omega)
                      have pC : k * C + i < m := by rw [← HM.out]; exact at_lt (by omega) hlt
                      obtain ⟨ad1, had1, hcB⟩ := (hsW.below hb).at (i * C + k) (by rw [HL.out]; exact pB)
                      obtain ⟨ad2, had2, hcC⟩ := (hsW.below hb).at (k * C + i) (by rw [HL.out]; exact pC)
                      injection had1 with had1
                      injection had2 with had2
                      subst had1 had2
                      obtain ⟨y, hy⟩ : ∃ y, ge ps (i * C + k) = y := ⟨_, rfl⟩
                      obtain ⟨z, hz⟩ : ∃ z, ge ps (k * C + i) = z := ⟨_, rfl⟩
                      have HY : Hid (ge ps (i * C + k) = y) := hy
                      have HZ : Hid (ge ps (k * C + i) = z) := hz
                      rw [hy] at hcB
                      rw [hz] at hcC
                      obtain ⟨qb, hqb⟩ : ∃ qb, k * C = qb := ⟨_, rfl⟩
                      have hqk : (k : Int) * (C : Int) = (qb : Int) := by rw [← hqb]; exact (Int.natCast_mul k C).symm
                      rw [HQA.out] at pB hcB
                      rw [hqb] at pC hcC
                      clear hy hz hqb
                      have ia : IntKind.i64.wrap (qa : Int) = (qa : Int) := wrap_in (by omega) (by omega)
                      have ib : IntKind.i64.wrap (qb : Int) = (qb : Int) := wrap_in (by omega) (by omega)
                      have ic : IntKind.i64.wrap ((qa : Int) + (k : Int)) = (qa : Int) + (k : Int) := wrap_in (by omega) (by omega)
                      have id' : IntKind.i64.wrap ((qb : Int) + (i : Int)) = (qb : Int) + (i : Int) := wrap_in (by omega) (by omega)
                      have ta : ((qa : Int) + (k : Int)).toNat = qa + k := by omega
                      have tb : ((qb : Int) + (i : Int)).toNat = qb + i := by omega
                      have la : (qa : Int) + (k : Int) < (m : Int) := by omega
                      have lb : (qb : Int) + (i : Int) < (m : Int) := by omega
                      have za : (0 : Int) ≤ (qa : Int) + (k : Int) := by omega
                      have zb : (0 : Int) ≤ (qb : Int) + (i : Int) := by omega
                      have hbd := fun q => below_drewN hb q
                      by_cases hyz : y = z
                      · have hyz' : (y == z) = true := by simpa using hyz
                        go_wp2
                        go_quiet (fail)
                        go_wp2
                        go_roundw
                        case rel => exact ⟨k + 1, by omega, by go_num, fun j hj => by
                          rcases Nat.lt_or_eq_of_le (Nat.le_of_lt_succ hj) with h | h
                          · exact heq.out j h
                          · subst h; rw [HY.out, HZ.out]; exact hyz, hbd _⟩
                        case measure => simp [intOf]; omega
                      · have hyz' : (y == z) = false := by simpa using hyz
                        go_wp2
                        go_quiet (fail)
                        go_wp2
                        go_ret
                        have hf : V = false := by
                          rw [← HV.out]
                          refine HEV.out false ⟨fun h => (by cases h), fun h => ?_⟩
                          have := (h i hlt).2 k hlk
                          rw [HY.out, HZ.out] at this; exact absurd this hyz
                        exact ⟨by rw [hf]; rfl, bt bW (hbd _)⟩
                    · have ek : k = i := by omega
                      subst ek
                      go_wp2
                      go_roundw
                      case rel => exact ⟨k + 1, by omega, by go_num, fun j hj => by
                        rcases Nat.lt_or_eq_of_le (Nat.le_of_lt_succ hj) with h | h
                        · exact hsym.out j h
                        · subst h; exact ⟨by rw [HX.out]; omega, heq.out⟩, hb⟩
                      case measure => simp [intOf]; omega
              · have ei : i = C := by omega
                subst ei
                go_wp2
                go_ret
                have hf : V = true := by
                  rw [← HV.out]
                  exact HEV.out true ⟨fun _ => hsym.out, fun _ => rfl⟩
                exact ⟨by rw [hf]; rfl, bt bW hb⟩
          · have h3' : ((C : Int) == (R : Int)) = false := by simp; omega
            have h3i : ¬ ((C : Int) = (R : Int)) := by omega
            simp only [h3i, decide_false, decide_true, Bool.false_and, Bool.true_and]
            clear hl hl'
            go_enter Try.func13, Try.ntmps13
            go_wp2_with (first
              | (have _ := b1; go_at_call 16; refine (k2 _ b1).mono ?_; rintro e wb ⟨rfl, b2⟩; obtain ⟨e0, e1, e2, e3, e4, e5⟩ := six_cells (keep (bt b1 b2) x1))
              | (go_at_call 16; refine k1.mono ?_; rintro e wa ⟨rfl, b1⟩; obtain ⟨d0, d1, d2, d3, d4, d5⟩ := six_cells (keep b1 x1)))
            go_ret
            exact ⟨rfl, bt bW (bt b1 b2)⟩
        · have h2' : ((R : Int) == (R1 : Int)) = false := by simp; omega
          have h2i : ¬ ((R : Int) = (R1 : Int)) := by omega
          simp only [h2i, decide_false, decide_true, Bool.false_and, Bool.true_and]
          clear hl hl'
          go_enter Try.func13, Try.ntmps13
          go_wp2_with (first
            | (have _ := b1; go_at_call 16; refine (k2 _ b1).mono ?_; rintro e wb ⟨rfl, b2⟩; obtain ⟨e0, e1, e2, e3, e4, e5⟩ := six_cells (keep (bt b1 b2) x1))
            | (go_at_call 16; refine k1.mono ?_; rintro e wa ⟨rfl, b1⟩; obtain ⟨d0, d1, d2, d3, d4, d5⟩ := six_cells (keep b1 x1)))
          go_ret
          exact ⟨rfl, bt bW (bt b1 b2)⟩
      · have h1' : ((C1 : Int) == 1) = false := by simp; omega
        have h1i : ¬ ((C1 : Int) = 1) := by omega
        simp only [h1i, decide_false, Bool.false_and, Bool.true_and]
        clear hl hl'
        go_enter Try.func13, Try.ntmps13
        go_wp2_with (first
          | (have _ := b1; go_at_call 16; refine (k2 _ b1).mono ?_; rintro e wb ⟨rfl, b2⟩; obtain ⟨e0, e1, e2, e3, e4, e5⟩ := six_cells (keep (bt b1 b2) x1))
          | (go_at_call 16; refine k1.mono ?_; rintro e wa ⟨rfl, b1⟩; obtain ⟨d0, d1, d2, d3, d4, d5⟩ := six_cells (keep b1 x1)))
        go_ret
        exact ⟨rfl, bt bW (bt b1 b2)⟩
end Go.Proofs.Ytiniobcknmaigaa
