/-
  The contracts of quat.sum and of quat.summed, over whatever function tells the numbers.
-/
import Derived.Test.YtgekignonjfaiaaDoorQW
namespace Go.Proofs.YtgekignonjfaiaaDoor
open Go.RowKit Go.Sort Qm

namespace Qm
/-- a sum from the first one on, each sum brought in bounds; was a bound met? -/
def sq (f : Int) (g : Nat → Int) : Nat → Int
  | 0 => f
  | k + 1 => add (sq f g k) (g k)
def sqB (f : Int) (g : Nat → Int) : Nat → Bool
  | 0 => false
  | k + 1 => sqB f g k || addB (sq f g k) (g k)
/-- a sum of four -/
def sm4 (p : Nat → Int) : Int := sq (p 0) (fun k => p (k + 1)) 3
def sm4B (p : Nat → Int) : Bool := sqB (p 0) (fun k => p (k + 1)) 3
end Qm

set_option maxHeartbeats 1000000 in
theorem sum_any (f : Int) (g : Nat → Int) (B : Nat) (w : World) (hc : ∀ k, k < 3 → w.cell? ⟨B, 1 + k, none⟩ = some (.int .i64 (g k))) :
    Calls Tryd.prog 47 #[.int .i64 f, .slice (some ⟨B, 1, none⟩) 3 3] w fun e w' => e = .returned (.tuple #[.int .i64 (sq f g 3), .bool (sqB f g 3)]) ∧ Below w.heap.size w w' := by
  go_enter Tryd.func47, Tryd.ntmps47
  go_wp2
  go_loopw [6, 7, 15] (fun s m i wr => ∃ k : Nat, k ≤ 3 ∧ i = .int .i64 k ∧ s = .int .i64 (sq f g k) ∧ m = .bool (sqB f g k) ∧ Below w.heap.size w wr) (fun _ _ i _ => 3 - (intOf i).toNat)
  case atStart => exact ⟨0, Nat.zero_le _, rfl, rfl, rfl, Below.refl _ _⟩
  case round =>
    obtain ⟨k, hk, rfl, rfl, rfl, hb⟩ := hrel
    by_cases hlt : k < 3
    · have hcell : wr.cell? ⟨B, 1 + k, none⟩ = some (.int .i64 (g k)) := by rw [hb.cell (p := ⟨B, 1 + k, none⟩) (block_lt_of_cell (hc k hlt))]; exact hc k hlt
      have HS : Hid (sq f g (k + 1) = add (sq f g k) (g k)) := rfl
      have HM : Hid (sqB f g (k + 1) = (sqB f g k || addB (sq f g k) (g k))) := rfl
      obtain ⟨S, hS⟩ : ∃ S, sq f g k = S := ⟨_, rfl⟩
      obtain ⟨M, hM⟩ : ∃ M, sqB f g k = M := ⟨_, rfl⟩
      obtain ⟨Q, hQ⟩ : ∃ Q, g k = Q := ⟨_, rfl⟩
      rw [hS, hM, hQ] at HM
      rw [hS, hQ] at HS
      rw [hQ] at hcell
      rw [hS, hM]
      clear hS hM hQ hc
      cases M
      all_goals
        go_wp2_with (go_at_call 61; refine (add_any _ _ _).mono ?_; rintro e wy ⟨rfl, rfl⟩)
        go_roundw
        case rel => exact ⟨k + 1, by omega, by go_num, by rw [HS.out], by rw [HM.out]; rfl, hb⟩
        case measure => simp [intOf]; omega
    · have e : k = 3 := by omega
      subst e
      go_wp2
      go_ret2
      exact ⟨rfl, hb⟩

theorem sum_calm (f : Int) (g : Nat → Int) (B : Nat) (w : World) (hc : ∀ k, k < 3 → w.cell? ⟨B, 1 + k, none⟩ = some (.int .i64 (g k))) (d : Nat) (os : Array Obj) :
    Calls Tryd.prog 47 #[.int .i64 f, .slice (some ⟨B, 1, none⟩) 3 3] (grow (redrawn w d) os) fun e w'' => e = .returned (.tuple #[.int .i64 (sq f g 3), .bool (sqB f g 3)]) ∧ ∃ p : Regrown, w'' = grow (redrawn w p.d) p.os :=
  Calls.regrown_of (sum_any f g B _ fun k hk => cell_regrown (hc k hk) d os)

set_option maxHeartbeats 1000000 in
theorem summed_any (G : Nat) (hG : ∀ (args : Array Value) (a : World), Sem.run Tryd.prog (callFunc G args) a = Result.ok (Next.enter G args) a) (caps : Array Value) (p : Nat → Int) (x : Nat → Bool) (w : World)
    (hcall : ∀ (k : Nat) a, k < 4 → Below w.heap.size w a → Calls Tryd.prog G (#[.int .i64 k] ++ caps) a (fun e b => e = .returned (.tuple #[.int .i64 (p k), .bool (x k)]) ∧ Below a.heap.size a b)) :
    Calls Tryd.prog 27 #[.func (.func G) #[] caps] w fun e b => e = .returned (.tuple #[.int .i64 (sm4 p), .bool (anyB x 4 || sm4B p)]) ∧ Below w.heap.size w b := by
  have ht := told_any G hG caps p x w hcall
  clear hcall
  unfold sm4 sm4B
  obtain ⟨X, hX⟩ : ∃ X, anyB x 4 = X := ⟨_, rfl⟩
  rw [hX] at ht ⊢
  clear hX
  obtain ⟨S, hS⟩ : ∃ S, sq (p 0) (fun k => p (k + 1)) 3 = S := ⟨_, rfl⟩
  obtain ⟨M, hM⟩ : ∃ M, sqB (p 0) (fun k => p (k + 1)) 3 = M := ⟨_, rfl⟩
  have HS : Hid (sq (p 0) (fun k => p (k + 1)) 3 = S) := hS
  have HM : Hid (sqB (p 0) (fun k => p (k + 1)) 3 = M) := hM
  rw [hS, hM]
  clear hS hM
  go_enter Tryd.func27, Tryd.ntmps27
  go_wp2_with (go_at_call 25; refine ht.mono ?_; rintro e wx ⟨rfl, bx⟩)
  obtain ⟨W, hW⟩ : ∃ W, wx.alloc (.cells #[.int .i64 (p 0), .int .i64 (p 1), .int .i64 (p 2), .int .i64 (p 3)] 23) = W := ⟨_, rfl⟩
  have bW : Below w.heap.size w W := by rw [← hW]; exact bx.alloc bx.size _
  have hB : W.heap[wx.heap.size]? = some (.cells #[.int .i64 (p 0), .int .i64 (p 1), .int .i64 (p 2), .int .i64 (p 3)] 23) := by rw [← hW]; exact heap_new _ _
  obtain ⟨c0, c1, c2, c3, _, _, _, _⟩ := four_cells hB
  have hs := sum_calm (p 0) (fun k => p (k + 1)) wx.heap.size W (by
    intro k hk
    have h3 : k = 0 ∨ k = 1 ∨ k = 2 := by omega
    rcases h3 with rfl | rfl | rfl
    · exact c1
    · exact c2
    · exact c3)
  have k0 := cell_regrown c0
  have k1 := cell_regrown c1
  have k2 := cell_regrown c2
  have k3 := cell_regrown c3
  rw [hW]
  clear hW hB c0 c1 c2 c3 ht
  simp only [HS.out, HM.out] at hs
  refine wp_region_quiet_below (by kernel_rfl) (by kernel_rfl) ?_
  repeat (quiet_step (first | exact hs _ _))
  refine wpQuiet_nil ?_
  intro _ hw'
  obtain ⟨⟨dq, osq⟩, hw''⟩ := hw'
  subst hw''
  have bz := bt bW ((below_regrown W dq osq))
  cases X
  all_goals
    go_wp2
    go_ret2
    exact ⟨rfl, bz⟩
end Go.Proofs.YtgekignonjfaiaaDoor
