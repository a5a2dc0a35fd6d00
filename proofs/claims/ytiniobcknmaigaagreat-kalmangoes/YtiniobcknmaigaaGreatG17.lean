/-
  Texts joined, in the order in which they stand on one another: MathC Div KEach.
-/
import Derived.Test.YtiniobcknmaigaaGreatG08
import Derived.Test.YtiniobcknmaigaaGreatG13
import Derived.Test.YtiniobcknmaigaaGreatG15
import Derived.Test.YtiniobcknmaigaaGreatG16
/-
  Plain arithmetic: quotients.
-/
namespace Go.Proofs.YtiniobcknmaigaaGreat.Qm

/-- a quotient's whole and what is left, of sizes; rounded, ahead of its bounds -/
def dw (a b : Int) : Int := ab (cl a) * 16777216 / ab (cl b)
def dm (a b : Int) : Int := ab (cl a) * 16777216 % ab (cl b)
def divv (a b : Int) : Int := sg (ng a b) (near (dw a b) (dm a b) (ab (cl b)))
/-- what a number by 0 counts as -/
def none0 (a : Int) : Int := if 0 < a then 70368744177663 else if a < 0 then -70368744177664 else 0
def div (a b : Int) : Int := if cl b = 0 then none0 (cl a) else cl (divv a b)
def divB (a b : Int) : Bool := if cl b = 0 then true else (ob2 a b || ob (divv a b))
theorem div_z {a b : Int} (h : cl b = 0) : div a b = none0 (cl a) ∧ divB a b = true := by unfold div divB; rw [if_pos h, if_pos h]; exact ⟨rfl, rfl⟩
theorem div_nz {a b : Int} (h : ¬ cl b = 0) : div a b = cl (divv a b) ∧ divB a b = (ob2 a b || ob (divv a b)) := by unfold div divB; rw [if_neg h, if_neg h]; exact ⟨rfl, rfl⟩
theorem ab_nz {a : Int} (h : ¬ a = 0) : 1 ≤ ab a := by unfold ab; split <;> omega
theorem dw_bd (a b : Int) (h : 1 ≤ ab (cl b)) : 0 ≤ dw a b ∧ dw a b ≤ 1180591620717411303424 := by
  obtain ⟨h1, h2⟩ := ab_bd a
  unfold dw
  refine ⟨Int.ediv_nonneg (by omega) (by omega), ?_⟩
  exact Int.le_trans (Int.ediv_le_self _ (by omega)) (by omega)
theorem dm_bd (a b : Int) (h : 1 ≤ ab (cl b)) : 0 ≤ dm a b ∧ dm a b < ab (cl b) := by
  unfold dm
  exact ⟨Int.emod_nonneg _ (by omega), Int.emod_lt_of_pos _ (by omega)⟩

end Go.Proofs.YtiniobcknmaigaaGreat.Qm

/-
  The contract of qfix.Div.
-/
namespace Go.Proofs.YtiniobcknmaigaaGreat
open Go.RowKit Qm

set_option maxHeartbeats 400000 in
theorem byNothing_any (a : Int) (w : World) :
    Calls Tryz.prog 98 #[.int .i64 a] w fun e w' => e = .returned (.int .i64 (none0 a)) ∧ w' = w := by
  unfold none0
  by_cases h1 : 0 < a
  · rw [if_pos h1]
    go_enter Tryz.func98, Tryz.ntmps98
    go_wp2
    go_ret
    exact ⟨rfl, rfl⟩
  · rw [if_neg h1]
    by_cases h2 : a < 0
    · rw [if_pos h2]
      go_enter Tryz.func98, Tryz.ntmps98
      go_wp2
      go_ret
      exact ⟨rfl, rfl⟩
    · rw [if_neg h2]
      go_enter Tryz.func98, Tryz.ntmps98
      go_wp2
      go_ret
      exact ⟨rfl, rfl⟩

set_option maxHeartbeats 400000 in
theorem layOn_cell (n : Int) (s : Bool) (p : Addr) (w : World) (hc : w.cell? p = some (.bool s)) (h1 : 0 ≤ n) (h2 : n ≤ 4611686018427387904) :
    Calls Tryz.prog 111 #[.int .i64 n, .pointer (some p)] w fun e w' => e = .returned (.int .i64 (sg s n)) ∧ w' = w := by
  cases s
  · rw [sg_f]
    go_enter Tryz.func111, Tryz.ntmps111
    go_wp2
    go_ret
    exact ⟨rfl, rfl⟩
  · rw [sg_t]
    go_enter Tryz.func111, Tryz.ntmps111
    go_wp2
    go_ret
    exact ⟨rfl, rfl⟩

set_option maxHeartbeats 1000000 in
theorem div_zero (a b : Int) (w : World) (hb : cl b = 0) :
    Calls Tryz.prog 65 #[.int .i64 a, .int .i64 b] w fun e w' => e = .returned (.tuple #[.int .i64 (div a b), .bool (divB a b)]) ∧ Below w.heap.size w w' := by
  obtain ⟨e1, e2⟩ := div_z (a := a) hb
  rw [e1, e2]
  clear e1 e2
  go_enter Tryz.func65, Tryz.ntmps65
  go_wp2_with (first | (go_at_call 74; refine (clampBoth_any _ _ _).mono ?_; rintro e w' ⟨rfl, rfl⟩) | (go_at_call 98; refine (byNothing_any _ _).mono ?_; rintro e w' ⟨rfl, rfl⟩))
  go_ret2
  exact ⟨rfl, Below.refl _ _⟩

theorem dq_eq (x y : Int) (_h0 : 0 ≤ x) : dq (x / 1099511627776) (IntKind.u64.wrap (x * 16777216)) y = x * 16777216 / y ∧ dr (x / 1099511627776) (IntKind.u64.wrap (x * 16777216)) y = x * 16777216 % y := by
  unfold dq dr
  rw [IntKind.wrap_u64]
  have e : x / 1099511627776 * 18446744073709551616 + x * 16777216 % 18446744073709551616 = x * 16777216 := by omega
  rw [e]
  exact ⟨rfl, rfl⟩

set_option maxHeartbeats 1000000 in
theorem div_near (a b : Int) (w : World) (hb : ¬ cl b = 0) (hd : dw a b ≤ 140737488355328) (ho : ab (cl a) / 1099511627776 < ab (cl b)) :
    Calls Tryz.prog 65 #[.int .i64 a, .int .i64 b] w fun e w' => e = .returned (.tuple #[.int .i64 (div a b), .bool (divB a b)]) ∧ Below w.heap.size w w' := by
  obtain ⟨e1, e2⟩ := div_nz (a := a) hb
  rw [e1, e2]
  clear e1 e2
  have hbz : (cl b == 0) = false := by simp [hb]
  have h1 := cl_lo a; have h2 := cl_hi a; have h3 := cl_lo b; have h4 := cl_hi b
  obtain ⟨a1, a2⟩ := ab_bd a
  obtain ⟨b1, b2⟩ := ab_bd b
  have b3 := ab_nz hb
  obtain ⟨w1, w2⟩ := dw_bd a b b3
  obtain ⟨m1, m2⟩ := dm_bd a b b3
  obtain ⟨L, hL⟩ : ∃ L, IntKind.u64.wrap (ab (cl a) * 16777216) = L := ⟨_, rfl⟩
  have L0 : 0 ≤ L ∧ L ≤ 18446744073709551615 := by rw [← hL, IntKind.wrap_u64]; omega
  obtain ⟨q1, q2⟩ := dq_eq (ab (cl a)) (ab (cl b)) a1
  rw [hL] at q1 q2
  have q1' : dq (ab (cl a) / 1099511627776) L (ab (cl b)) = dw a b := q1
  have q2' : dr (ab (cl a) / 1099511627776) L (ab (cl b)) = dm a b := q2
  clear q1 q2
  obtain ⟨n1, n2⟩ := near_bd (dw a b) (dm a b) (ab (cl b))
  unfold divv ng
  clear hb
  go_enter Tryz.func65, Tryz.ntmps65
  go_wp2_with (first | (go_at_call 74; refine (clampBoth_any _ _ _).mono ?_; rintro e w' ⟨rfl, rfl⟩) | (go_at_call 94; refine (signs_any _).mono ?_; rintro e w' ⟨rfl, rfl⟩) | (go_at_call 110; refine (takeOff_any _ _ _ (by omega) (by omega)).mono ?_; rintro e w' ⟨rfl, rfl⟩))
  refine (div64_any _ _ _ _ (by omega) (by omega) (by omega) (by omega) (by omega)).mono ?_
  rintro e w1 ⟨rfl, hbel⟩
  have hc := hbel.cell (p := ⟨w'.heap.size, 0, none⟩) (by simp)
  simp at hc
  have HB : Hid (Below _ _ w1) := hbel
  clear hbel
  go_wp2_with (first | (go_at_call 111; refine (layOn_cell _ _ _ _ hc (by omega) (by omega)).mono ?_; rintro e w' ⟨rfl, rfl⟩) | (go_at_call 96; refine (nearest_any _ _ _ _ (by omega) (by omega) (by omega) (by omega)).mono ?_; rintro e w' ⟨rfl, rfl⟩) | (go_at_call 75; refine (clamp_any _ _).mono ?_; rintro e w' ⟨rfl, rfl⟩))
  all_goals
    go_ret2
    exact ⟨by simp [*], ((Below.refl _ _).alloc (Nat.le_refl _) _).trans (HB.out.mono (by simp))⟩

set_option maxHeartbeats 1000000 in
theorem div_far1 (a b : Int) (w : World) (hb : ¬ cl b = 0) (hd : ¬ dw a b ≤ 140737488355328) (ho : ab (cl a) / 1099511627776 < ab (cl b)) :
    Calls Tryz.prog 65 #[.int .i64 a, .int .i64 b] w fun e w' => e = .returned (.tuple #[.int .i64 (div a b), .bool (divB a b)]) ∧ Below w.heap.size w w' := by
  obtain ⟨e1, e2⟩ := div_nz (a := a) hb
  rw [e1, e2]
  clear e1 e2
  have hbz : (cl b == 0) = false := by simp [hb]
  have h1 := cl_lo a; have h2 := cl_hi a; have h3 := cl_lo b; have h4 := cl_hi b
  obtain ⟨a1, a2⟩ := ab_bd a
  obtain ⟨b1, b2⟩ := ab_bd b
  have b3 := ab_nz hb
  obtain ⟨w1, w2⟩ := dw_bd a b b3
  obtain ⟨m1, m2⟩ := dm_bd a b b3
  obtain ⟨L, hL⟩ : ∃ L, IntKind.u64.wrap (ab (cl a) * 16777216) = L := ⟨_, rfl⟩
  have L0 : 0 ≤ L ∧ L ≤ 18446744073709551615 := by rw [← hL, IntKind.wrap_u64]; omega
  obtain ⟨q1, q2⟩ := dq_eq (ab (cl a)) (ab (cl b)) a1
  rw [hL] at q1 q2
  have q1' : dq (ab (cl a) / 1099511627776) L (ab (cl b)) = dw a b := q1
  have q2' : dr (ab (cl a) / 1099511627776) L (ab (cl b)) = dm a b := q2
  clear q1 q2
  obtain ⟨n1, n2⟩ := near_bd 140737488355328 (dm a b) (ab (cl b))
  have n3 := (near_bd (dw a b) (dm a b) (ab (cl b))).1
  obtain ⟨e1, e2⟩ := far_same (flip (flip false (cl a)) (cl b)) (m := near (dw a b) (dm a b) (ab (cl b))) (n := near 140737488355328 (dm a b) (ab (cl b))) (by omega) (by omega)
  unfold divv ng
  rw [e1, e2]
  clear e1 e2 n3
  clear hb
  go_enter Tryz.func65, Tryz.ntmps65
  go_wp2_with (first | (go_at_call 74; refine (clampBoth_any _ _ _).mono ?_; rintro e w' ⟨rfl, rfl⟩) | (go_at_call 94; refine (signs_any _).mono ?_; rintro e w' ⟨rfl, rfl⟩) | (go_at_call 110; refine (takeOff_any _ _ _ (by omega) (by omega)).mono ?_; rintro e w' ⟨rfl, rfl⟩))
  refine (div64_any _ _ _ _ (by omega) (by omega) (by omega) (by omega) (by omega)).mono ?_
  rintro e w1 ⟨rfl, hbel⟩
  have hc := hbel.cell (p := ⟨w'.heap.size, 0, none⟩) (by simp)
  simp at hc
  have HB : Hid (Below _ _ w1) := hbel
  clear hbel
  go_wp2_with (first | (go_at_call 111; refine (layOn_cell _ _ _ _ hc (by omega) (by omega)).mono ?_; rintro e w' ⟨rfl, rfl⟩) | (go_at_call 96; refine (nearest_any _ _ _ _ (by omega) (by omega) (by omega) (by omega)).mono ?_; rintro e w' ⟨rfl, rfl⟩) | (go_at_call 75; refine (clamp_any _ _).mono ?_; rintro e w' ⟨rfl, rfl⟩))
  all_goals
    go_ret2
    exact ⟨by simp [*], ((Below.refl _ _).alloc (Nat.le_refl _) _).trans (HB.out.mono (by simp))⟩

set_option maxHeartbeats 1000000 in
theorem div_far2 (a b : Int) (w : World) (hb : ¬ cl b = 0) (hd : ¬ dw a b ≤ 140737488355328) (ho : ¬ ab (cl a) / 1099511627776 < ab (cl b)) :
    Calls Tryz.prog 65 #[.int .i64 a, .int .i64 b] w fun e w' => e = .returned (.tuple #[.int .i64 (div a b), .bool (divB a b)]) ∧ Below w.heap.size w w' := by
  obtain ⟨e1, e2⟩ := div_nz (a := a) hb
  rw [e1, e2]
  clear e1 e2
  have hbz : (cl b == 0) = false := by simp [hb]
  have h1 := cl_lo a; have h2 := cl_hi a; have h3 := cl_lo b; have h4 := cl_hi b
  obtain ⟨a1, a2⟩ := ab_bd a
  obtain ⟨b1, b2⟩ := ab_bd b
  have b3 := ab_nz hb
  obtain ⟨w1, w2⟩ := dw_bd a b b3
  obtain ⟨m1, m2⟩ := dm_bd a b b3
  obtain ⟨n1, n2⟩ := near_bd 140737488355328 0 (ab (cl b))
  have n3 := (near_bd (dw a b) (dm a b) (ab (cl b))).1
  obtain ⟨e1, e2⟩ := far_same (flip (flip false (cl a)) (cl b)) (m := near (dw a b) (dm a b) (ab (cl b))) (n := near 140737488355328 0 (ab (cl b))) (by omega) (by omega)
  unfold divv ng
  rw [e1, e2]
  clear e1 e2 n3 hd
  clear hb
  go_enter Tryz.func65, Tryz.ntmps65
  go_wp2_with (first | (go_at_call 74; refine (clampBoth_any _ _ _).mono ?_; rintro e w' ⟨rfl, rfl⟩) | (go_at_call 94; refine (signs_any _).mono ?_; rintro e w' ⟨rfl, rfl⟩) | (go_at_call 110; refine (takeOff_any _ _ _ (by omega) (by omega)).mono ?_; rintro e w' ⟨rfl, rfl⟩) | (go_at_call 111; refine (layOn_any _ _ _ (by omega) (by omega)).mono ?_; rintro e w' ⟨rfl, rfl⟩) | (go_at_call 96; refine (nearest_any _ _ _ _ (by omega) (by omega) (by omega) (by omega)).mono ?_; rintro e w' ⟨rfl, rfl⟩) | (go_at_call 75; refine (clamp_any _ _).mono ?_; rintro e w' ⟨rfl, rfl⟩))
  all_goals
    go_ret2
    exact ⟨by simp [*], (Below.refl _ _).alloc (Nat.le_refl _) _⟩

theorem dw_far {a b : Int} (hb : 1 ≤ ab (cl b)) (ho : ¬ ab (cl a) / 1099511627776 < ab (cl b)) : ¬ dw a b ≤ 140737488355328 := by
  intro h
  unfold dw at h
  have h2 : ab (cl a) * 16777216 < 140737488355329 * ab (cl b) := Int.lt_mul_of_ediv_lt (by omega) (by omega)
  omega

/-- qfix.Div -/
theorem div_any (a b : Int) (w : World) :
    Calls Tryz.prog 65 #[.int .i64 a, .int .i64 b] w fun e w' => e = .returned (.tuple #[.int .i64 (div a b), .bool (divB a b)]) ∧ Below w.heap.size w w' := by
  by_cases hb : cl b = 0
  · exact div_zero a b w hb
  · by_cases ho : ab (cl a) / 1099511627776 < ab (cl b)
    · by_cases hd : dw a b ≤ 140737488355328
      · exact div_near a b w hb hd ho
      · exact div_far1 a b w hb hd ho
    · exact div_far2 a b w hb (dw_far (ab_nz hb) ho) ho
end Go.Proofs.YtiniobcknmaigaaGreat

/-
  The contracts of the code's steps over numbers: each, scaled; and of the closures over one number.
-/
namespace Go.Proofs.YtiniobcknmaigaaGreat
open Go.RowKit Go.Sort Qm

theorem enters_each : ∀ (args : Array Value) (a : World), Sem.run Tryz.prog (callFunc 73 args) a = Result.ok (Next.enter 73 args) a := by
  intro args a
  simp [callFunc, Tryz.func73, go_sem]
  rfl
theorem enters_scaled : ∀ (args : Array Value) (a : World), Sem.run Tryz.prog (callFunc 100 args) a = Result.ok (Next.enter 100 args) a := by
  intro args a
  simp [callFunc, Tryz.func100, go_sem]
  rfl
theorem enters_in1 : ∀ (args : Array Value) (a : World), Sem.run Tryz.prog (callFunc 38 args) a = Result.ok (Next.enter 38 args) a := by
  intro args a
  simp [callFunc, Tryz.func38, go_sem]
  rfl
theorem enters_in2 : ∀ (args : Array Value) (a : World), Sem.run Tryz.prog (callFunc 40 args) a = Result.ok (Next.enter 40 args) a := by
  intro args a
  simp [callFunc, Tryz.func40, go_sem]
  rfl
theorem enters_co1 : ∀ (args : Array Value) (a : World), Sem.run Tryz.prog (callFunc 64 args) a = Result.ok (Next.enter 64 args) a := by
  intro args a
  simp [callFunc, Tryz.func64, go_sem]
  rfl
theorem in1_any (z n : Int) (Z : Nat) (w : World) (hZ : w.cell? ⟨Z, 0, none⟩ = some (.int .i64 z)) : Calls Tryz.prog 38 #[.int .i64 n, .pointer (some ⟨Z, 0, none⟩)] w fun e b => e = .returned (.tuple #[.int .i64 (sub z n), .bool (subB z n)]) ∧ Below w.heap.size w b := by
  go_enter Tryz.func38, Tryz.ntmps38
  go_wp2_with (go_at_call 39; refine (sub_any z n _).mono ?_; rintro e wx ⟨rfl, rfl⟩)
  refine bodyPost_ret (v := .tuple #[.int .i64 (sub z n), .bool (subB z n)]) (by simp [results, Tryz.results38, go_sem]) rfl ?_
  exact ⟨rfl, Below.refl _ _⟩
theorem in2_any (z n : Int) (Z : Nat) (w : World) (hZ : w.cell? ⟨Z, 0, none⟩ = some (.int .i64 z)) : Calls Tryz.prog 40 #[.int .i64 n, .pointer (some ⟨Z, 0, none⟩)] w fun e b => e = .returned (.tuple #[.int .i64 (add n z), .bool (addB n z)]) ∧ Below w.heap.size w b := by
  go_enter Tryz.func40, Tryz.ntmps40
  go_wp2_with (go_at_call 41; refine (add_any n z _).mono ?_; rintro e wx ⟨rfl, rfl⟩)
  refine bodyPost_ret (v := .tuple #[.int .i64 (add n z), .bool (addB n z)]) (by simp [results, Tryz.results40, go_sem]) rfl ?_
  exact ⟨rfl, Below.refl _ _⟩
theorem co1_any (z n : Int) (Z : Nat) (w : World) (hZ : w.cell? ⟨Z, 0, none⟩ = some (.int .i64 z)) : Calls Tryz.prog 64 #[.int .i64 n, .pointer (some ⟨Z, 0, none⟩)] w fun e b => e = .returned (.tuple #[.int .i64 (div n z), .bool (divB n z)]) ∧ Below w.heap.size w b := by
  go_enter Tryz.func64, Tryz.ntmps64
  go_wp2_with (go_at_call 65; refine (div_any n z _).mono ?_; rintro e wx ⟨rfl, bx⟩)
  refine bodyPost_ret (v := .tuple #[.int .i64 (div n z), .bool (divB n z)]) (by simp [results, Tryz.results64, go_sem]) rfl ?_
  exact ⟨rfl, bx⟩
theorem each_any (G : Nat) (caps : Array Value) (w : World) :
    Calls Tryz.prog 37 #[.func (.func G) #[] caps] w fun e b => e = .returned (.func (.func 73) #[] #[.pointer (some ⟨w.heap.size, 0, none⟩)]) ∧ b = w.alloc (.cells #[.func (.func G) #[] caps] 74) := by
  go_enter Tryz.func37, Tryz.ntmps37
  go_wp2
  go_ret
  exact ⟨rfl, rfl⟩
theorem scaled_any (k : Int) (w : World) :
    Calls Tryz.prog 66 #[.int .i64 k] w fun e b => e = .returned (.func (.func 100) #[] #[.pointer (some ⟨w.heap.size, 0, none⟩)]) ∧ b = w.alloc (.cells #[.int .i64 k] 27) := by
  go_enter Tryz.func66, Tryz.ntmps66
  go_wp2
  go_ret
  exact ⟨rfl, rfl⟩
set_option maxRecDepth 20000 in
set_option maxHeartbeats 800000 in
theorem scaled1_any (R C : Nat) (h1 : 1 ≤ R) (hR : R ≤ 8) (h2 : 1 ≤ C) (hC : C ≤ 8) (k : Int) (A : Nat) (vm : Value) (ys : List Int) (hy : ys.length = R * C) (w : World) (hA : w.cell? ⟨A, 0, none⟩ = some (.int .i64 k)) (hAw : A < w.heap.size) (sm : Sees w vm ys) :
    Calls Tryz.prog 100 #[.agg #[.int .i64 R, .int .i64 C, vm], .pointer (some ⟨A, 0, none⟩)] w fun e b => ∃ s', e = .returned (.tuple #[.agg #[.int .i64 R, .int .i64 C, s'], .bool (sclB ys k), .int .i64 0]) ∧ Sees b s' (scl ys k) ∧ New w.heap.size s' ∧ Below w.heap.size w b := by
  obtain ⟨mo, mcap, rfl⟩ := sm.slice
  obtain ⟨W, hW⟩ : ∃ W, (w.alloc (.cells #[.int .i64 R, .int .i64 C, .slice mo ys.length mcap] 24)).alloc (.cells #[.int .i64 0, .int .i64 0, .slice none 0 0] 24) = W := ⟨_, rfl⟩
  obtain ⟨x1, x2⟩ := allocs2 w (.cells #[.int .i64 R, .int .i64 C, .slice mo ys.length mcap] 24) (.cells #[.int .i64 0, .int .i64 0, .slice none 0 0] 24)
  have bW := ball2 w (.cells #[.int .i64 R, .int .i64 C, .slice mo ys.length mcap] 24) (.cells #[.int .i64 0, .int .i64 0, .slice none 0 0] 24)
  rw [hW] at x1 x2 bW
  have cA : W.cell? ⟨A, 0, none⟩ = some (.int .i64 k) := (bW.cell (p := ⟨A, 0, none⟩) hAw).trans hA
  obtain ⟨d0, d1, d2, _⟩ := mat_cells x1
  have k1 := scale_any R C h1 hR h2 hC k _ ys hy W (sm.below bW)
  have HW : Hid (_ = W) := hW
  generalize scl ys k = zs at k1 ⊢
  generalize sclB ys k = fl at k1 ⊢
  clear hy
  go_enter Tryz.func100, Tryz.ntmps100
  go_wp2_with (go_at_call 101; refine k1.mono ?_; rintro e wx ⟨vx, rfl, sx, nx, bx⟩; obtain ⟨xo, xc, rfl⟩ := sx.slice; obtain ⟨e0, e1, e2, f0, f1, f2⟩ := mat_cells (heap_old (keep bx x2) (.cells #[.int .i64 R, .int .i64 C, .slice xo zs.length xc] 24)); obtain ⟨g0, g1, g2, _⟩ := mat_cells (heap_new wx (.cells #[.int .i64 R, .int .i64 C, .slice xo zs.length xc] 24)))
  refine bodyPost_ret (v := .tuple #[.agg #[.int .i64 R, .int .i64 C, .slice xo zs.length xc], .bool fl, .int .i64 0]) (by simp [results, Tryz.results100, go_sem, e0, e1, e2]) rfl ?_
  exact ⟨_, rfl, (sx.alloc _).put nx (lt_of_block x2) _ _ _, nx.mono bW.size, below_put (bt (bt bW bx) (box_below wx _)) (Nat.le_succ _) _ _ _⟩

end Go.Proofs.YtiniobcknmaigaaGreat
