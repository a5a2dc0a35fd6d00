/-
  The contract of qfix.Div.
-/
import Derived.Test.YtiniobcknmaigaaDivS
import Derived.Test.YtiniobcknmaigaaMathC
namespace Go.Proofs.Ytiniobcknmaigaa
open Go.RowKit Qm

set_option maxHeartbeats 400000 in
theorem byNothing_any (a : Int) (w : World) :
    Calls Try.prog 93 #[.int .i64 a] w fun e w' => e = .returned (.int .i64 (none0 a)) ∧ w' = w := by
  unfold none0
  by_cases h1 : 0 < a
  · rw [if_pos h1]
    go_enter Try.func93, Try.ntmps93
    go_wp2
    go_ret
    exact ⟨rfl, rfl⟩
  · rw [if_neg h1]
    by_cases h2 : a < 0
    · rw [if_pos h2]
      go_enter Try.func93, Try.ntmps93
      go_wp2
      go_ret
      exact ⟨rfl, rfl⟩
    · rw [if_neg h2]
      go_enter Try.func93, Try.ntmps93
      go_wp2
      go_ret
      exact ⟨rfl, rfl⟩

set_option maxHeartbeats 400000 in
theorem layOn_cell (n : Int) (s : Bool) (p : Addr) (w : World) (hc : w.cell? p = some (.bool s)) (h1 : 0 ≤ n) (h2 : n ≤ 4611686018427387904) :
    Calls Try.prog 103 #[.int .i64 n, .pointer (some p)] w fun e w' => e = .returned (.int .i64 (sg s n)) ∧ w' = w := by
  cases s
  · rw [sg_f]
    go_enter Try.func103, Try.ntmps103
    go_wp2
    go_ret
    exact ⟨rfl, rfl⟩
  · rw [sg_t]
    go_enter Try.func103, Try.ntmps103
    go_wp2
    go_ret
    exact ⟨rfl, rfl⟩

set_option maxHeartbeats 1000000 in
theorem div_zero (a b : Int) (w : World) (hb : cl b = 0) :
    Calls Try.prog 75 #[.int .i64 a, .int .i64 b] w fun e w' => e = .returned (.tuple #[.int .i64 (div a b), .bool (divB a b)]) ∧ Below w.heap.size w w' := by
  obtain ⟨e1, e2⟩ := div_z (a := a) hb
  rw [e1, e2]
  clear e1 e2
  go_enter Try.func75, Try.ntmps75
  go_wp2_with (first | (go_at_call 80; refine (clampBoth_any _ _ _).mono ?_; rintro e w' ⟨rfl, rfl⟩) | (go_at_call 93; refine (byNothing_any _ _).mono ?_; rintro e w' ⟨rfl, rfl⟩))
  go_ret2
  exact ⟨rfl, Below.refl _ _⟩

theorem dq_eq (x y : Int) (_h0 : 0 ≤ x) : dq (x / 1099511627776) (IntKind.u64.wrap (x * 16777216)) y = x * 16777216 / y ∧ dr (x / 1099511627776) (IntKind.u64.wrap (x * 16777216)) y = x * 16777216 % y := by
  unfold dq dr
  rw [IntKind.wrap_u64]
  have e : x / 1099511627776 * 18446744073709551616 + x * 16777216 % 18446744073709551616 = x * 16777216 := by omega
  rw [e]
  exact ⟨rfl, rfl⟩

set_option maxHeartbeats 1000000 in
theorem div_near (a b : Int) (w : World) (hb : ¬ cl b = 0) (hd : dw a b ≤ 140737488355328) (ho : ab (cl a) / 1099511627776 < ab (cl b)) :
    Calls Try.prog 75 #[.int .i64 a, .int .i64 b] w fun e w' => e = .returned (.tuple #[.int .i64 (div a b), .bool (divB a b)]) ∧ Below w.heap.size w w' := by
  obtain ⟨e1, e2⟩ := div_nz (a := a) hb
  rw [e1, e2]
  clear e1 e2
  have hbz : (cl b == 0) = false := by simp [hb]
  have h1 := cl_lo a; have h2 := cl_hi a; have h3 := cl_lo b; have h4 := cl_hi b
  obtain ⟨a1, a2⟩ := ab_bd a
  obtain ⟨b1, b2⟩ := ab_bd b
  have b3 := ab_nz hb
  obtain ⟨w1, w2⟩ := dw_bd a b b3
  obtain ⟨m1, m2⟩ := dm_bd a b b3
  obtain ⟨L, hL⟩ : ∃ L, IntKind.u64.wrap (ab (cl a) * 16777216) = L := ⟨_, rfl⟩
  have L0 : 0 ≤ L ∧ L ≤ 18446744073709551615 := by rw [← hL, IntKind.wrap_u64]; omega
  obtain ⟨q1, q2⟩ := dq_eq (ab (cl a)) (ab (cl b)) a1
  rw [hL] at q1 q2
  have q1' : dq (ab (cl a) / 1099511627776) L (ab (cl b)) = dw a b := q1
  have q2' : dr (ab (cl a) / 1099511627776) L (ab (cl b)) = dm a b := q2
  clear q1 q2
  obtain ⟨n1, n2⟩ := near_bd (dw a b) (dm a b) (ab (cl b))
  unfold divv ng
  clear hb
  go_enter Try.func75, Try.ntmps75
  go_wp2_with (first | (go_at_call 80; refine (clampBoth_any _ _ _).mono ?_; rintro e w' ⟨rfl, rfl⟩) | (go_at_call 91; refine (signs_any _).mono ?_; rintro e w' ⟨rfl, rfl⟩) | (go_at_call 102; refine (takeOff_any _ _ _ (by omega) (by omega)).mono ?_; rintro e w' ⟨rfl, rfl⟩))
  refine (div64_any _ _ _ _ (by omega) (by omega) (by omega) (by omega) (by omega)).mono ?_
  rintro e w1 ⟨rfl, hbel⟩
  have hc := hbel.cell (p := ⟨w'.heap.size, 0, none⟩) (by simp)
  simp at hc
  have HB : Hid (Below _ _ w1) := hbel
  clear hbel
  go_wp2_with (first | (go_at_call 103; refine (layOn_cell _ _ _ _ hc (by omega) (by omega)).mono ?_; rintro e w' ⟨rfl, rfl⟩) | (go_at_call 84; refine (nearest_any _ _ _ _ (by omega) (by omega) (by omega) (by omega)).mono ?_; rintro e w' ⟨rfl, rfl⟩) | (go_at_call 81; refine (clamp_any _ _).mono ?_; rintro e w' ⟨rfl, rfl⟩))
  all_goals
    go_ret2
    exact ⟨by simp [*], ((Below.refl _ _).alloc (Nat.le_refl _) _).trans (HB.out.mono (by simp))⟩

set_option maxHeartbeats 1000000 in
theorem div_far1 (a b : Int) (w : World) (hb : ¬ cl b = 0) (hd : ¬ dw a b ≤ 140737488355328) (ho : ab (cl a) / 1099511627776 < ab (cl b)) :
    Calls Try.prog 75 #[.int .i64 a, .int .i64 b] w fun e w' => e = .returned (.tuple #[.int .i64 (div a b), .bool (divB a b)]) ∧ Below w.heap.size w w' := by
  obtain ⟨e1, e2⟩ := div_nz (a := a) hb
  rw [e1, e2]
  clear e1 e2
  have hbz : (cl b == 0) = false := by simp [hb]
  have h1 := cl_lo a; have h2 := cl_hi a; have h3 := cl_lo b; have h4 := cl_hi b
  obtain ⟨a1, a2⟩ := ab_bd a
  obtain ⟨b1, b2⟩ := ab_bd b
  have b3 := ab_nz hb
  obtain ⟨w1, w2⟩ := dw_bd a b b3
  obtain ⟨m1, m2⟩ := dm_bd a b b3
  obtain ⟨L, hL⟩ : ∃ L, IntKind.u64.wrap (ab (cl a) * 16777216) = L := ⟨_, rfl⟩
  have L0 : 0 ≤ L ∧ L ≤ 18446744073709551615 := by rw [← hL, IntKind.wrap_u64]; omega
  obtain ⟨q1, q2⟩ := dq_eq (ab (cl a)) (ab (cl b)) a1
  rw [hL] at q1 q2
  have q1' : dq (ab (cl a) / 1099511627776) L (ab (cl b)) = dw a b := q1
  have q2' : dr (ab (cl a) / 1099511627776) L (ab (cl b)) = dm a b := q2
  clear q1 q2
  obtain ⟨n1, n2⟩ := near_bd 140737488355328 (dm a b) (ab (cl b))
  have n3 := (near_bd (dw a b) (dm a b) (ab (cl b))).1
  obtain ⟨e1, e2⟩ := far_same (flip (flip false (cl a)) (cl b)) (m := near (dw a b) (dm a b) (ab (cl b))) (n := near 140737488355328 (dm a b) (ab (cl b))) (by omega) (by omega)
  unfold divv ng
  rw [e1, e2]
  clear e1 e2 n3
  clear hb
  go_enter Try.func75, Try.ntmps75
  go_wp2_with (first | (go_at_call 80; refine (clampBoth_any _ _ _).mono ?_; rintro e w' ⟨rfl, rfl⟩) | (go_at_call 91; refine (signs_any _).mono ?_; rintro e w' ⟨rfl, rfl⟩) | (go_at_call 102; refine (takeOff_any _ _ _ (by omega) (by omega)).mono ?_; rintro e w' ⟨rfl, rfl⟩))
  refine (div64_any _ _ _ _ (by omega) (by omega) (by omega) (by omega) (by omega)).mono ?_
  rintro e w1 ⟨rfl, hbel⟩
  have hc := hbel.cell (p := ⟨w'.heap.size, 0, none⟩) (by simp)
  simp at hc
  have HB : Hid (Below _ _ w1) := hbel
  clear hbel
  go_wp2_with (first | (go_at_call 103; refine (layOn_cell _ _ _ _ hc (by omega) (by omega)).mono ?_; rintro e w' ⟨rfl, rfl⟩) | (go_at_call 84; refine (nearest_any _ _ _ _ (by omega) (by omega) (by omega) (by omega)).mono ?_; rintro e w' ⟨rfl, rfl⟩) | (go_at_call 81; refine (clamp_any _ _).mono ?_; rintro e w' ⟨rfl, rfl⟩))
  all_goals
    go_ret2
    exact ⟨by simp [*], ((Below.refl _ _).alloc (Nat.le_refl _) _).trans (HB.out.mono (by simp))⟩

set_option maxHeartbeats 1000000 in
theorem div_far2 (a b : Int) (w : World) (hb : ¬ cl b = 0) (hd : ¬ dw a b ≤ 140737488355328) (ho : ¬ ab (cl a) / 1099511627776 < ab (cl b)) :
    Calls Try.prog 75 #[.int .i64 a, .int .i64 b] w fun e w' => e = .returned (.tuple #[.int .i64 (div a b), .bool (divB a b)]) ∧ Below w.heap.size w w' := by
  obtain ⟨e1, e2⟩ := div_nz (a := a) hb
  rw [e1, e2]
  clear e1 e2
  have hbz : (cl b == 0) = false := by simp [hb]
  have h1 := cl_lo a; have h2 := cl_hi a; have h3 := cl_lo b; have h4 := cl_hi b
  obtain ⟨a1, a2⟩ := ab_bd a
  obtain ⟨b1, b2⟩ := ab_bd b
  have b3 := ab_nz hb
  obtain ⟨w1, w2⟩ := dw_bd a b b3
  obtain ⟨m1, m2⟩ := dm_bd a b b3
  obtain ⟨n1, n2⟩ := near_bd 140737488355328 0 (ab (cl b))
  have n3 := (near_bd (dw a b) (dm a b) (ab (cl b))).1
  obtain ⟨e1, e2⟩ := far_same (flip (flip false (cl a)) (cl b)) (m := near (dw a b) (dm a b) (ab (cl b))) (n := near 140737488355328 0 (ab (cl b))) (by omega) (by omega)
  unfold divv ng
  rw [e1, e2]
  clear e1 e2 n3 hd
  clear hb
  go_enter Try.func75, Try.ntmps75
  go_wp2_with (first | (go_at_call 80; refine (clampBoth_any _ _ _).mono ?_; rintro e w' ⟨rfl, rfl⟩) | (go_at_call 91; refine (signs_any _).mono ?_; rintro e w' ⟨rfl, rfl⟩) | (go_at_call 102; refine (takeOff_any _ _ _ (by omega) (by omega)).mono ?_; rintro e w' ⟨rfl, rfl⟩) | (go_at_call 103; refine (layOn_any _ _ _ (by omega) (by omega)).mono ?_; rintro e w' ⟨rfl, rfl⟩) | (go_at_call 84; refine (nearest_any _ _ _ _ (by omega) (by omega) (by omega) (by omega)).mono ?_; rintro e w' ⟨rfl, rfl⟩) | (go_at_call 81; refine (clamp_any _ _).mono ?_; rintro e w' ⟨rfl, rfl⟩))
  all_goals
    go_ret2
    exact ⟨by simp [*], (Below.refl _ _).alloc (Nat.le_refl _) _⟩

theorem dw_far {a b : Int} (hb : 1 ≤ ab (cl b)) (ho : ¬ ab (cl a) / 1099511627776 < ab (cl b)) : ¬ dw a b ≤ 140737488355328 := by
  intro h
  unfold dw at h
  have h2 : ab (cl a) * 16777216 < 140737488355329 * ab (cl b) := Int.lt_mul_of_ediv_lt (by omega) (by omega)
  omega

/-- qfix.Div -/
theorem div_any (a b : Int) (w : World) :
    Calls Try.prog 75 #[.int .i64 a, .int .i64 b] w fun e w' => e = .returned (.tuple #[.int .i64 (div a b), .bool (divB a b)]) ∧ Below w.heap.size w w' := by
  by_cases hb : cl b = 0
  · exact div_zero a b w hb
  · by_cases ho : ab (cl a) / 1099511627776 < ab (cl b)
    · by_cases hd : dw a b ≤ 140737488355328
      · exact div_near a b w hb hd ho
      · exact div_far1 a b w hb hd ho
    · exact div_far2 a b w hb (dw_far (ab_nz hb) ho) ho
end Go.Proofs.Ytiniobcknmaigaa
