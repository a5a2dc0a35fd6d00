/-
  The walk of QuatUnits.
-/
import Derived.Test.YtgekignonjfaiaaDoorQSh
import Derived.Test.YtgekignonjfaiaaDoorQU
import Derived.Test.YtgekignonjfaiaaDoorRQN
import Derived.Test.YtgekignonjfaiaaDoorQF
namespace Go.Proofs.YtgekignonjfaiaaDoor
open Go.RowKit Go.Sort Qm

namespace Qm
/-- is one of the first k at least 1/4, with either sign? -/
def bigB (p : Nat → Int) : Nat → Bool
  | 0 => false
  | k + 1 => bigB p k || decide (4194304 ≤ p k) || decide (p k ≤ -4194304)
theorem bigB_some {p : Nat → Int} : ∀ n, bigB p n = true → ∃ k, k < n ∧ (4194304 ≤ p k ∨ p k ≤ -4194304)
  | 0, h => by cases h
  | n + 1, h => by
    simp only [bigB, Bool.or_eq_true, decide_eq_true_eq] at h
    rcases h with (h | h) | h
    · obtain ⟨k, hk, hb⟩ := bigB_some n h; exact ⟨k, by omega, hb⟩
    · exact ⟨n, by omega, .inl h⟩
    · exact ⟨n, by omega, .inr h⟩
theorem un_in (p : Nat → Int) (k : Nat) : -70368744177664 ≤ un p k ∧ un p k ≤ 70368744177663 := by
  unfold un
  split
  · split <;> omega
  · exact div_bd _ _
theorem un_right (p : Nat → Int) : anyB (fun k => ob (un p k)) 4 = false := any4 fun k _ => ob_in (un_in p k).1 (un_in p k).2
end Qm

set_option maxHeartbeats 3000000 in
set_option maxRecDepth 20000 in
theorem quatUnits_walk (p : Nat → Int) (w : World) (hG : Less w) :
    Calls Tryd.prog 5 #[.agg #[.int .i64 (p 0), .int .i64 (p 1), .int .i64 (p 2), .int .i64 (p 3)]] w fun e w' => e = .returned (.bool true) ∧ Below w.heap.size w w' := by
  obtain ⟨W, hW⟩ : ∃ W, w.alloc (.cells #[.int .i64 (p 0), .int .i64 (p 1), .int .i64 (p 2), .int .i64 (p 3)] 24) = W := ⟨_, rfl⟩
  have g1 := heap_new w (.cells #[.int .i64 (p 0), .int .i64 (p 1), .int .i64 (p 2), .int .i64 (p 3)] 24)
  have bW := ball1 w (.cells #[.int .i64 (p 0), .int .i64 (p 1), .int .i64 (p 2), .int .i64 (p 3)] 24)
  rw [hW] at g1 bW
  have M0 := shown_any W (hG.below bW)
  rw [← hW] at M0
  have HW : Hid (_ = W) := hW
  clear hW hG
  have hR : ∀ a, Calls Tryd.prog 20 #[.agg #[.int .i64 (un p 0), .int .i64 (un p 1), .int .i64 (un p 2), .int .i64 (un p 3)]] a fun e w' => e = .returned (.bool true) ∧ Below a.heap.size a w' := fun a => by
    have := rright_any (un p) a
    rw [un_right] at this
    exact this
  have hN := fun a => norm_any (un p) a
  have HU : Hid ((∀ k, k < 4 → -8589934592 ≤ p k ∧ p k ≤ 8589934592) → bigB p 4 = true → 16776960 ≤ nm (un p) ∧ nm (un p) ≤ 16777472) := fun h1 h2 => ⟨(unit_norm h1 (bigB_some 4 h2)).1, (unit_norm h1 (bigB_some 4 h2)).2.1⟩
  obtain ⟨m, hm⟩ : ∃ m, nm (un p) = m := ⟨_, rfl⟩
  rw [hm] at HU
  simp only [hm] at hN
  clear hm
  have K1 : Hid (∀ a, Below W.heap.size W a → _) := fun a ha => four_cells (keep ha g1)
  go_enter Tryd.func5, Tryd.ntmps5
  go_wp2_with (first
    | (go_at_call 10; refine M0.mono ?_; rintro e wa ⟨rfl, ba⟩; rw [HW.out] at ba; obtain ⟨a0, a1, a2, a3, _⟩ := K1.out _ ba)
    | (go_at_call 15; refine (unit_any p _).mono ?_; rintro e wb ⟨rfl, bb⟩; have bb1 := bt ba bb; have bb2 := bb1.alloc bb1.size (.cells #[.int .i64 (un p 0), .int .i64 (un p 1), .int .i64 (un p 2), .int .i64 (un p 3)] 24); have gA := heap_new wb (.cells #[.int .i64 (un p 0), .int .i64 (un p 1), .int .i64 (un p 2), .int .i64 (un p 3)] 24))
    | (go_at_call 20; refine (hR _).mono ?_; rintro e wc ⟨rfl, bc⟩; have bc1 := bt bb2 bc))
  have hP : Box4 wc w.heap.size p := (Box4.of g1).below bc1
  obtain ⟨C0, C1, C2, C3, _⟩ := four_cells (keep bc gA)
  have HP : Hid _ := hP
  have b9 := bt bW bc1
  clear hP a0 a1 a2 a3 gA K1 M0 hR
  go_loop [6, 7] (fun s i => ∃ k : Nat, k ≤ 4 ∧ i = .int .i64 k ∧ s = .bool (bigB p k) ∧ Hid (∀ j, j < k → -8589934592 ≤ p j ∧ p j ≤ 8589934592)) (fun _ i => 4 - (intOf i).toNat)
  case atStart => exact ⟨0, Nat.zero_le _, rfl, rfl, fun j hj => by omega⟩
  case round =>
    obtain ⟨k, hk, rfl, rfl, hall⟩ := hrel
    by_cases hlt : k < 4
    · have c1 := HP.out k hlt
      have HN : Hid (bigB p (k + 1) = (bigB p k || decide (4194304 ≤ p k) || decide (p k ≤ -4194304))) := rfl
      have HA : Hid (-8589934592 ≤ p k → p k ≤ 8589934592 → ∀ j, j < k + 1 → -8589934592 ≤ p j ∧ p j ≤ 8589934592) := fun x1 x2 j hj => by
        by_cases e : j = k
        · subst e; exact ⟨x1, x2⟩
        · exact hall.out j (by omega)
      obtain ⟨S, hS⟩ : ∃ S, bigB p k = S := ⟨_, rfl⟩
      rw [hS] at HN ⊢
      obtain ⟨x, hx⟩ : ∃ x, p k = x := ⟨_, rfl⟩
      rw [hx] at c1 HN HA
      clear hx hS
      by_cases h1 : 8589934592 < x
      · go_wp2
        go_ret
        exact ⟨rfl, b9⟩
      · have h1' : decide (8589934592 < x) = false := by simpa using h1
        by_cases h2 : x < -8589934592
        · go_wp2
          go_ret
          exact ⟨rfl, b9⟩
        · have h2' : decide (x < -8589934592) = false := by simpa using h2
          have HA' : Hid _ := HA.out (by omega) (by omega)
          clear h1 h2
          cases S <;> by_cases h3 : 4194304 ≤ x
          all_goals
            by_cases h4 : x ≤ -4194304
            all_goals
              first
                | have h3' : decide (4194304 ≤ x) = true := by simpa using h3
                | have h3' : decide (4194304 ≤ x) = false := by simpa using h3
              first
                | have h4' : decide (x ≤ -4194304) = true := by simpa using h4
                | have h4' : decide (x ≤ -4194304) = false := by simpa using h4
              rw [h3', h4'] at HN
              clear h3 h4
              go_wp2
              go_round
              case rel => exact ⟨k + 1, by omega, by go_num, by rw [HN.out]; rfl, HA'.out⟩
              case measure => simp [intOf]; omega
    · have e : k = 4 := by omega
      subst e
      have HB := HU.out hall.out
      obtain ⟨S, hS⟩ : ∃ S, bigB p 4 = S := ⟨_, rfl⟩
      rw [hS] at HB ⊢
      clear hS
      cases S
      · clear HB
        go_wp2_with (go_at_call 13; refine (hN _).mono ?_; rintro e wd ⟨rfl, bd⟩)
        go_ret
        exact ⟨rfl, bt b9 bd⟩
      · obtain ⟨B1, B2⟩ := HB rfl
        have B1' : decide (16776960 ≤ m) = true := by simpa using B1
        have B2' : decide (m ≤ 16777472) = true := by simpa using B2
        clear B1 B2
        go_wp2_with (go_at_call 13; refine (hN _).mono ?_; rintro e wd ⟨rfl, bd⟩)
        go_ret
        exact ⟨rfl, bt b9 bd⟩
end Go.Proofs.YtgekignonjfaiaaDoor
