/-
  The contracts of the document's Norm, Conj, Right, Unit of quaternions.
-/
import Derived.Test.YtgekignonjfaiaaDoorRF
import Derived.Test.YtgekignonjfaiaaDoorQN
import Derived.Test.YtgekignonjfaiaaDoorOf
import Derived.Test.YtgekignonjfaiaaDoorRDiv
import Derived.Test.YtgekignonjfaiaaDoorRSqrt
namespace Go.Proofs.YtgekignonjfaiaaDoor
open Go.RowKit Go.Sort Qm

set_option maxHeartbeats 1000000 in
theorem rnorm_any (p : Nat → Int) (w : World) :
    Calls Tryd.prog 14 #[.agg #[.int .i64 (p 0), .int .i64 (p 1), .int .i64 (p 2), .int .i64 (p 3)]] w fun e w' => e = .returned (.tuple #[.int .i64 (nm p), .bool (nmB p)]) ∧ Below w.heap.size w w' := by
  have h0 : ∀ w, Calls Tryd.prog 31 #[.agg #[.int .i64 (p 0), .int .i64 (p 1), .int .i64 (p 2), .int .i64 (p 3)], .agg #[.int .i64 (p 0), .int .i64 (p 1), .int .i64 (p 2), .int .i64 (p 3)], .agg #[.bool false, .bool false, .bool false, .bool false]] w fun e w' =>
      e = .returned (.tuple #[.int .i64 (nm p), .bool (nmB p)]) ∧ Below w.heap.size w w' := fun w => four_any p p (fun _ => false) w
  obtain ⟨D, hD⟩ : ∃ D, nm p = D := ⟨_, rfl⟩
  obtain ⟨E, hE⟩ : ∃ E, nmB p = E := ⟨_, rfl⟩
  simp only [hD, hE] at h0 ⊢
  clear hD hE
  go_enter Tryd.func14, Tryd.ntmps14
  go_wp2_with (go_at_call 31; refine (h0 _).mono ?_; rintro e wx ⟨rfl, bx⟩)
  go_ret2
  exact ⟨rfl, bt (ball2 _ _ _) bx⟩

set_option maxHeartbeats 1000000 in
theorem rconj_any (p : Nat → Int) (w : World) :
    Calls Tryd.prog 18 #[.agg #[.int .i64 (p 0), .int .i64 (p 1), .int .i64 (p 2), .int .i64 (p 3)]] w fun e w' => e = .returned (.agg #[.int .i64 (cj p 0), .int .i64 (cj p 1), .int .i64 (cj p 2), .int .i64 (cj p 3)]) ∧ Below w.heap.size w w' := by
  change Calls Tryd.prog 18 _ w fun e w' => e = .returned (.agg #[.int .i64 (p 0), .int .i64 (sub 0 (p 1)), .int .i64 (sub 0 (p 2)), .int .i64 (sub 0 (p 3))]) ∧ Below w.heap.size w w'
  go_enter Tryd.func18, Tryd.ntmps18
  go_wp2_with (go_at_call 39; refine (rsub_any _ _ _).mono ?_; rintro e wx ⟨rfl, rfl⟩)
  refine bodyPost_ret (v := .agg #[.int .i64 (p 0), .int .i64 (sub 0 (p 1)), .int .i64 (sub 0 (p 2)), .int .i64 (sub 0 (p 3))]) (by simp [results, Tryd.results18, go_sem]) rfl ?_
  refine ⟨rfl, ?_⟩
  first
    | exact put4 (ball2 _ _ _) (by omega) _ _ _ _
    | exact ball2 _ _ _

/-- are the first k in bounds? -/
def Qm.inK (p : Nat → Int) (k : Nat) : Bool := !anyB (fun j => ob (p j)) k

set_option maxHeartbeats 1000000 in
theorem rright_any (p : Nat → Int) (w : World) :
    Calls Tryd.prog 20 #[.agg #[.int .i64 (p 0), .int .i64 (p 1), .int .i64 (p 2), .int .i64 (p 3)]] w fun e w' => e = .returned (.bool (!anyB (fun k => ob (p k)) 4)) ∧ Below w.heap.size w w' := by
  have hP := Box4.of (p := p) (heap_new w (.cells #[.int .i64 (p 0), .int .i64 (p 1), .int .i64 (p 2), .int .i64 (p 3)] 24))
  have bW := ball1 w (.cells #[.int .i64 (p 0), .int .i64 (p 1), .int .i64 (p 2), .int .i64 (p 3)] 24)
  have HP : Hid _ := hP
  have HB : Hid _ := bW
  clear hP bW
  obtain ⟨R, hR⟩ : ∃ R, anyB (fun k => ob (p k)) 4 = R := ⟨_, rfl⟩
  have HR : Hid (anyB (fun k => ob (p k)) 4 = R) := hR
  rw [hR]
  clear hR
  go_enter Tryd.func20, Tryd.ntmps20
  go_wp2
  go_loop [3] (fun i => ∃ k : Nat, k ≤ 4 ∧ i = .int .i64 k ∧ Hid (anyB (fun j => ob (p j)) k = false)) (fun i => 4 - (intOf i).toNat)
  case atStart => exact ⟨0, Nat.zero_le _, rfl, rfl⟩
  case round =>
    obtain ⟨k, hk, rfl, hany⟩ := hrel
    by_cases hlt : k < 4
    · have c1 := HP.out k hlt
      have HN : Hid (anyB (fun j => ob (p j)) (k + 1) = (anyB (fun j => ob (p j)) k || ob (p k))) := rfl
      have far : Hid (ob (p k) = true → R = true) := by
        intro h
        rw [← HR.out]
        have h4 : k = 0 ∨ k = 1 ∨ k = 2 ∨ k = 3 := by omega
        rcases h4 with rfl | rfl | rfl | rfl <;> simp [anyB, h]
      obtain ⟨x, hx⟩ : ∃ x, p k = x := ⟨_, rfl⟩
      rw [hx] at c1 HN far
      clear hx
      have hin : ∀ a, Calls Tryd.prog 42 #[.int .i64 x] a fun e w' => e = .returned (.bool (!ob x)) ∧ w' = a := fun a => rin_any x a
      cases hb : ob x <;> simp only [hb, Bool.not_true, Bool.not_false] at hin
      · go_wp2_with (go_at_call 42; refine (hin _).mono ?_; rintro e wx ⟨rfl, rfl⟩)
        go_round
        case rel => exact ⟨k + 1, by omega, by go_num, by show _ = false; rw [HN.out, hany.out, hb]; rfl⟩
        case measure => simp [intOf]; omega
      · obtain rfl := far.out hb
        go_wp2_with (go_at_call 42; refine (hin _).mono ?_; rintro e wx ⟨rfl, rfl⟩)
        go_ret
        exact ⟨rfl, HB.out⟩
    · have e : k = 4 := by omega
      subst e
      obtain rfl : R = false := HR.out.symm.trans hany.out
      go_wp2
      go_ret
      exact ⟨rfl, HB.out⟩
end Go.Proofs.YtgekignonjfaiaaDoor
