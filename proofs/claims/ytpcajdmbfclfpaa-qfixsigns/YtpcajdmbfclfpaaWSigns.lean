/-
  The walk of QfixSigns: it returns true.
-/
import Derived.Test.YtpcajdmbfclfpaaShown
import Derived.Test.YtpcajdmbfclfpaaMathG
import Derived.Test.YtpcajdmbfclfpaaOf
import Derived.OpenShut
namespace Go.Proofs.Ytpcajdmbfclfpaa
open Go.RowKit Qm

set_option maxHeartbeats 2000000 in
theorem signs_in (a0 : Int) (a1 : Int) (w : World) (h1 : -70368744177664 < a0) (h2 : a0 ≤ 70368744177663) (h3 : -70368744177664 < a1) (h4 : a1 ≤ 70368744177663) :
    Calls Try.prog 9 #[.int .i64 a0, .int .i64 a1] w fun e w' => e = .returned (.bool true) ∧ Below w.heap.size w w' := by
  have b0 : Below w.heap.size w w := Below.refl _ _
  have i0 : inB a0 = true := by unfold inB; rw [ob_in (by omega) h2]; rfl
  have i1 : inB a1 = true := by unfold inB; rw [ob_in (by omega) h4]; rfl
  have n0 : (a0 == -70368744177664) = false := by simp; omega
  have n1 : (a1 == -70368744177664) = false := by simp; omega
  have z0 : 0 - a0 = -a0 := by omega
  have z1 : 0 - a1 = -a1 := by omega
  have s1 : ¬ mulB a0 a1 = true → ¬ mulB (-a0) a1 = true → mul (-a0) a1 = -mul a0 a1 := fun x y => by
    have := mul_signs (b := a1) h1 h2 (by simpa using x) (by rw [z0]; simpa using y)
    rw [z0] at this; omega
  have s2 : ¬ divB a0 a1 = true → ¬ divB (-a0) a1 = true → div (-a0) a1 = -div a0 a1 := fun x y => by
    have := div_signs (b := a1) h1 h2 (by simpa using x) (by rw [z0]; simpa using y)
    rw [z0] at this; omega
  have s3 : ¬ addB a0 a1 = true → ¬ addB (-a0) (-a1) = true → add (-a0) (-a1) = -add a0 a1 := fun x y => by
    have := add_signs h1 h2 h3 h4 (by simpa using x) (by rw [z0, z1]; simpa using y)
    rw [z0, z1] at this; omega
  have S1 : Hid (¬ mulB a0 a1 = true → ¬ mulB (-a0) a1 = true → mul (-a0) a1 = -mul a0 a1) := s1
  have S2 : Hid (¬ divB a0 a1 = true → ¬ divB (-a0) a1 = true → div (-a0) a1 = -div a0 a1) := s2
  have S3 : Hid (¬ addB a0 a1 = true → ¬ addB (-a0) (-a1) = true → add (-a0) (-a1) = -add a0 a1) := s3
  clear s1 s2 s3 z0 z1
  have m1 := cl_lo (mulv a0 a1); have m2 := cl_hi (mulv a0 a1)
  have hm1 : -70368744177664 ≤ mul a0 a1 := cl_lo _
  have hm2 : mul a0 a1 ≤ 70368744177663 := cl_hi _
  have ha1 : -70368744177664 ≤ add a0 a1 := cl_lo _
  have ha2 : add a0 a1 ≤ 70368744177663 := cl_hi _
  obtain ⟨hd1, hd2⟩ := div_bd a0 a1
  clear m1 m2
  go_enter Try.func9, Try.ntmps9
  go_wp2_with (first | (go_at_call 12; refine (shown_from _ _ (by assumption)).mono ?_; rintro e wx ⟨rfl, bx⟩) | (go_at_call 13; refine (add_any _ _ _).mono ?_; rintro e w' ⟨rfl, rfl⟩) | (go_at_call 15; refine (sub_any _ _ _).mono ?_; rintro e w' ⟨rfl, rfl⟩) | (go_at_call 17; refine (mul_from _ _ _ _ (by assumption)).mono ?_; rintro e wx ⟨rfl, bx⟩) | (go_at_call 19; refine (div_from _ _ _ _ (by assumption)).mono ?_; rintro e wx ⟨rfl, bx⟩) | (go_at_call 31; refine (rin_any _ _).mono ?_; rintro e w' ⟨rfl, rfl⟩))
  all_goals first
    | (go_ret; exact ⟨rfl, by assumption⟩)
    | (go_ret; exact ⟨by rw [S3.out ‹_› ‹_›]; simp, by assumption⟩)
    | (exfalso; exact absurd (S1.out ‹_› ‹_›) ‹_›)
    | (exfalso; exact absurd (S2.out ‹_› ‹_›) ‹_›)

theorem inB_bd {a : Int} (h : inB a = true) : -70368744177664 ≤ a ∧ a ≤ 70368744177663 := by
  unfold inB at h
  exact ob_out (by simpa using h)

set_option maxHeartbeats 1000000 in
theorem qfixSigns_walk (a0 : Int) (a1 : Int) (_w0 : (Lit.int .i64 a0).wf = true) (_w1 : (Lit.int .i64 a1).wf = true) (w : World) :
    Calls Try.prog 9 #[.int .i64 a0, .int .i64 a1] w fun e w' => e = .returned (.bool true) ∧ Below w.heap.size w w' := by
  by_cases h : -70368744177664 < a0 ∧ a0 ≤ 70368744177663 ∧ -70368744177664 < a1 ∧ a1 ≤ 70368744177663
  · exact signs_in a0 a1 w h.1 h.2.1 h.2.2.1 h.2.2.2
  · have b0 : Below w.heap.size w w := Below.refl _ _
    clear _w0 _w1
    cases i0 : inB a0
    · go_enter Try.func9, Try.ntmps9
      go_wp2_with (first | (go_at_call 12; refine (shown_from _ _ (by assumption)).mono ?_; rintro e wx ⟨rfl, bx⟩) | (go_at_call 31; refine (rin_any _ _).mono ?_; rintro e w' ⟨rfl, rfl⟩))
      go_ret
      exact ⟨rfl, by assumption⟩
    · cases i1 : inB a1
      · go_enter Try.func9, Try.ntmps9
        go_wp2_with (first | (go_at_call 12; refine (shown_from _ _ (by assumption)).mono ?_; rintro e wx ⟨rfl, bx⟩) | (go_at_call 31; refine (rin_any _ _).mono ?_; rintro e w' ⟨rfl, rfl⟩))
        go_ret
        exact ⟨rfl, by assumption⟩
      · have k0 := inB_bd i0
        have k1 := inB_bd i1
        by_cases e : a0 = -70368744177664
        · have e' : (a0 == -70368744177664) = true := by simp [e]
          clear e h k0 k1
          go_enter Try.func9, Try.ntmps9
          go_wp2_with (first | (go_at_call 12; refine (shown_from _ _ (by assumption)).mono ?_; rintro e wx ⟨rfl, bx⟩) | (go_at_call 31; refine (rin_any _ _).mono ?_; rintro e w' ⟨rfl, rfl⟩))
          go_ret
          exact ⟨rfl, by assumption⟩
        · have e' : (a0 == -70368744177664) = false := by simp [e]
          have f' : (a1 == -70368744177664) = true := by simp; omega
          clear e h k0 k1
          go_enter Try.func9, Try.ntmps9
          go_wp2_with (first | (go_at_call 12; refine (shown_from _ _ (by assumption)).mono ?_; rintro e wx ⟨rfl, bx⟩) | (go_at_call 31; refine (rin_any _ _).mono ?_; rintro e w' ⟨rfl, rfl⟩))
          go_ret
          exact ⟨rfl, by assumption⟩
end Go.Proofs.Ytpcajdmbfclfpaa
