/-
  The contracts of the document's Same and Right.
-/
import Derived.Test.YtiniobcknmaigaaSame
namespace Go.Proofs.Ytiniobcknmaigaa
open Go.RowKit Go.Sort Qm

set_option maxRecDepth 20000 in
set_option maxHeartbeats 1600000 in
theorem rsame_any (r c r' c' : Int) (va vb : Value) (xs ys : List Int) (w : World) (hx : xs.length ≤ 100) (hy : ys.length ≤ 100) (sa : Sees w va xs) (sb : Sees w vb ys) :
    Calls Try.prog 17 #[.agg #[.int .i64 r, .int .i64 c, va], .agg #[.int .i64 r', .int .i64 c', vb]] w fun e w' => e = .returned (.bool (sameB r c xs r' c' ys)) ∧ Below w.heap.size w w' := by
  obtain ⟨ao, cap, rfl, ha⟩ := sa
  obtain ⟨bo, bcap, rfl, hb⟩ := sb
  have hS : sameB r c xs r' c' ys = (decide (r = r') && (decide (c = c') && eqB xs ys)) := rfl
  by_cases h1 : r = r'
  · by_cases h2 : c = c'
    · by_cases h3 : xs.length = ys.length
      · subst h1
        subst h2
        obtain ⟨n, hn⟩ : ∃ n, xs.length = n := ⟨_, rfl⟩
        have hm : ys.length = n := by rw [← h3]; exact hn
        rw [hn] at hx ha ⊢
        rw [hm] at hy hb ⊢
        have HN : Hid (xs.length = n ∧ ys.length = n) := ⟨hn, hm⟩
        obtain ⟨E, hE⟩ : ∃ E, eqB xs ys = E := ⟨_, rfl⟩
        have hS' : sameB r c xs r c ys = E := by rw [hS, hE]; simp
        rw [hS']
        have HE : Hid (eqB xs ys = E) := hE
        clear hn hm hE hS hS' h3
        obtain ⟨W, hW⟩ : ∃ W, (w.alloc (.cells #[.int .i64 r, .int .i64 c, .slice ao n cap] 24)).alloc (.cells #[.int .i64 r, .int .i64 c, .slice bo n bcap] 24) = W := ⟨_, rfl⟩
        obtain ⟨x1, x2⟩ := allocs2 w (.cells #[.int .i64 r, .int .i64 c, .slice ao n cap] 24) (.cells #[.int .i64 r, .int .i64 c, .slice bo n bcap] 24)
        have bq := ball2 w (.cells #[.int .i64 r, .int .i64 c, .slice ao n cap] 24) (.cells #[.int .i64 r, .int .i64 c, .slice bo n bcap] 24)
        rw [hW] at x1 x2 bq
        obtain ⟨u0, u1, u2, _⟩ := mat_cells x1
        obtain ⟨v0, v1, v2, _⟩ := mat_cells x2
        go_enter Try.func17, Try.ntmps17
        go_wp2
        clear u0 u1 u2 v0 v1 v2
        go_loopw [5] (fun i wr => ∃ k : Nat, k ≤ n ∧ i = .int .i64 k ∧ Hid (∀ j, j < k → ge xs j = ge ys j) ∧ Below W.heap.size W wr) (fun i _ => n - (intOf i).toNat)
        case atStart => exact ⟨0, Nat.zero_le _, rfl, fun j hj => absurd hj (Nat.not_lt_zero _), Below.refl _ _⟩
        case round =>
          obtain ⟨k, hk, rfl, hno, hbl⟩ := hrel
          obtain ⟨u0, u1, u2, _⟩ := mat_cells (keep hbl x1)
          obtain ⟨v0, v1, v2, _⟩ := mat_cells (keep hbl x2)
          by_cases hlt : k < n
          · obtain ⟨ad, rfl, la, ca⟩ := ha k hlt
            obtain ⟨bd, rfl, lb, cb⟩ := hb k hlt
            have ca' : wr.cell? (ad.add k) = _ := ((bt bq hbl).cell (by rw [add_block]; exact la)).trans ca
            have cb' : wr.cell? (bd.add k) = _ := ((bt bq hbl).cell (by rw [add_block]; exact lb)).trans cb
            clear ca cb
            by_cases he : ge xs k = ge ys k
            · obtain ⟨x, hx'⟩ : ∃ x, ge xs k = x := ⟨_, rfl⟩
              have hy' : ge ys k = x := by rw [← he]; exact hx'
              have HX : Hid (ge xs k = ge ys k) := he
              clear he
              go_wp2
              go_quiet (fail)
              go_wp2
              go_roundw
              case rel =>
                refine ⟨k + 1, by omega, by go_num, ?_, Below.trans hbl (below_drewN (Below.refl _ _) _)⟩
                intro j hj
                by_cases e : j = k
                · subst e; exact HX.out
                · exact hno.out j (by omega)
              case measure => simp [intOf]; omega
            · have HX : Hid (eqB xs ys = false) := eqB_at he
              have e1 : (ge xs k == ge ys k) = false := by simpa using he
              obtain ⟨x, hx'⟩ : ∃ x, ge xs k = x := ⟨_, rfl⟩
              obtain ⟨y, hy'⟩ : ∃ y, ge ys k = y := ⟨_, rfl⟩
              rw [hx', hy'] at e1 he
              have e2 : ¬ (x = y) := he
              clear he
              go_wp2
              go_quiet (fail)
              go_wp2
              go_ret
              exact ⟨by rw [← HE.out, HX.out]; rfl, Below.trans (bt bq hbl) (below_drewN (Below.refl _ _) _)⟩
          · have e : k = n := by omega
            subst e
            go_wp2
            go_ret
            refine ⟨?_, bt bq hbl⟩
            rw [← HE.out, eqB_all (by rw [HN.out.1, HN.out.2]) (by rw [HN.out.1]; exact hno.out)]
            rfl
      · rw [hS, eqB_len h3]
        have e3 : ¬ ((xs.length : Int) = (ys.length : Int)) := by omega
        clear hS
        go_enter Try.func17, Try.ntmps17
        go_wp2
        go_ret
        exact ⟨by simp, ball2 _ _ _⟩
    · rw [hS]
      clear hS
      go_enter Try.func17, Try.ntmps17
      go_wp2
      go_ret
      exact ⟨by simp; intro _ e; exact absurd e h2, ball2 _ _ _⟩
  · rw [hS]
    clear hS
    go_enter Try.func17, Try.ntmps17
    go_wp2
    go_ret
    exact ⟨by simp; intro e; exact absurd e h1, ball2 _ _ _⟩

set_option maxRecDepth 20000 in
set_option maxHeartbeats 1600000 in
theorem rright_any (r c : Int) (va : Value) (xs : List Int) (w : World) (sa : Sees w va xs) :
    Calls Try.prog 16 #[.agg #[.int .i64 r, .int .i64 c, va]] w fun e w' => e = .returned (.bool (rightB r c xs)) ∧ Below w.heap.size w w' := by
  obtain ⟨ao, cap, rfl, ha⟩ := sa
  have hS : rightB r c xs = (laidB r c xs.length && !outB xs xs.length) := rfl
  have hB := box_below w (.cells #[.int .i64 r, .int .i64 c, .slice ao xs.length cap] 24)
  by_cases h1 : 1 ≤ r
  · by_cases h2 : r ≤ 8
    · by_cases h3 : 1 ≤ c
      · by_cases h4 : c ≤ 8
        · obtain ⟨R, rfl⟩ := Int.eq_ofNat_of_zero_le (by omega : 0 ≤ r)
          obtain ⟨C, rfl⟩ := Int.eq_ofNat_of_zero_le (by omega : 0 ≤ c)
          have hm : R * C ≤ 64 := mul_le_64 (by omega) (by omega)
          obtain ⟨q, hq⟩ : ∃ q, R * C = q := ⟨_, rfl⟩
          have hq' : (R : Int) * (C : Int) = (q : Int) := by rw [← hq]; exact (Int.natCast_mul R C).symm
          rw [hq] at hm
          by_cases h5 : xs.length = q
          · have hl : laidB R C xs.length = true := laidB_mk (by omega) (by omega) (by omega) (by omega) (by omega)
            rw [hS, hl]
            obtain ⟨n, hn⟩ : ∃ n, xs.length = n := ⟨_, rfl⟩
            have hnq : n = q := by omega
            subst hnq
            obtain ⟨O, hO⟩ : ∃ O, outB xs xs.length = O := ⟨_, rfl⟩
            rw [hO]
            rw [hn] at ha hB hO ⊢
            have HO : Hid (outB xs n = O) := hO
            clear hO hl hS hq h5 hn
            obtain ⟨W, hW⟩ : ∃ W, w.alloc (.cells #[.int .i64 R, .int .i64 C, .slice ao n cap] 24) = W := ⟨_, rfl⟩
            have x1 := heap_new w (.cells #[.int .i64 R, .int .i64 C, .slice ao n cap] 24)
            rw [hW] at x1 hB
            obtain ⟨u0, u1, u2, _⟩ := mat_cells x1
            have ha' : ∀ k, k < n → ∃ ad, ao = some ad ∧ W.cell? (ad.add k) = some (.int .i64 (ge xs k)) := fun k hk => by
              obtain ⟨ad, h1, h2, h3⟩ := ha k hk
              exact ⟨ad, h1, (hB.cell (by rw [add_block]; exact h2)).trans h3⟩
            clear ha
            go_enter Try.func16, Try.ntmps16
            go_wp2
            go_loop [3] (fun i => ∃ k : Nat, k ≤ n ∧ i = .int .i64 k ∧ Hid (outB xs k = false)) (fun i => n - (intOf i).toNat)
            case atStart => exact ⟨0, Nat.zero_le _, rfl, rfl⟩
            case round =>
              obtain ⟨k, hk, rfl, hno⟩ := hrel
              by_cases hlt : k < n
              · obtain ⟨ad, rfl, hc⟩ := ha' k hlt
                cases ho : ob (ge xs k) with
                | true =>
                  have hi : inB (ge xs k) = false := by unfold inB; rw [ho]; rfl
                  go_wp2_with (go_at_call 29; refine (rin_any _ _).mono ?_; rintro e w' ⟨rfl, rfl⟩)
                  go_ret
                  exact ⟨by rw [← HO.out, show outB xs n = true from anyB_hit hlt ho]; rfl, hB⟩
                | false =>
                  have hi : inB (ge xs k) = true := by unfold inB; rw [ho]; rfl
                  go_wp2_with (go_at_call 29; refine (rin_any _ _).mono ?_; rintro e w' ⟨rfl, rfl⟩)
                  go_round
                  case rel => exact ⟨k + 1, by omega, by go_num, by show outB xs (k + 1) = false; unfold outB; rw [anyB, ho]; have := hno.out; unfold outB at this; rw [this]; rfl⟩
                  case measure => simp [intOf]; omega
              · have e : k = n := by omega
                subst e
                go_wp2
                go_ret
                exact ⟨by rw [← HO.out, hno.out]; rfl, hB⟩
          · have hl : laidB R C xs.length = false := by
              cases e : laidB R C xs.length with
              | false => rfl
              | true =>
                obtain ⟨R', C', e1, e2, _, _, _, _, e3⟩ := laidB_in e
                have e1 : R = R' := by omega
                have e2 : C = C' := by omega
                subst e1; subst e2
                omega
            rw [hS, hl]
            have e3 : ¬ ((xs.length : Int) = (q : Int)) := by omega
            have e4 : ((xs.length : Int) == (q : Int)) = false := by simp; omega
            have d1 : decide ((R : Int) < 1) = false := by simp; omega
            have d2 : decide ((8 : Int) < (R : Int)) = false := by simp; omega
            have d3 : decide ((C : Int) < 1) = false := by simp; omega
            have d4 : decide ((8 : Int) < (C : Int)) = false := by simp; omega
            clear hS hl hq
            go_enter Try.func16, Try.ntmps16
            go_wp2
            go_ret
            exact ⟨rfl, hB⟩
        · have hl : rightB r c xs = false := by rw [hS]; unfold laidB; rw [cntB_f (n := c) (by omega)]; simp
          rw [hl]
          clear hS hl
          go_enter Try.func16, Try.ntmps16
          go_wp2
          go_ret
          exact ⟨rfl, hB⟩
      · have hl : rightB r c xs = false := by rw [hS]; unfold laidB; rw [cntB_f (n := c) (by omega)]; simp
        rw [hl]
        clear hS hl
        go_enter Try.func16, Try.ntmps16
        go_wp2
        go_ret
        exact ⟨rfl, hB⟩
    · have hl : rightB r c xs = false := by rw [hS]; unfold laidB; rw [cntB_f (n := r) (by omega)]; simp
      rw [hl]
      clear hS hl
      go_enter Try.func16, Try.ntmps16
      go_wp2
      go_ret
      exact ⟨rfl, hB⟩
  · have hl : rightB r c xs = false := by rw [hS]; unfold laidB; rw [cntB_f (n := r) (by omega)]; simp
    rw [hl]
    clear hS hl
    go_enter Try.func16, Try.ntmps16
    go_wp2
    go_ret
    exact ⟨rfl, hB⟩
end Go.Proofs.Ytiniobcknmaigaa
