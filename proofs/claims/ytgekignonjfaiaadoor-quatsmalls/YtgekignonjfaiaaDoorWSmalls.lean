/-
  The walk of QuatSmalls.
-/
import Derived.Test.YtgekignonjfaiaaDoorQSh
import Derived.Test.YtgekignonjfaiaaDoorRQN
import Derived.Test.YtgekignonjfaiaaDoorQG
namespace Go.Proofs.YtgekignonjfaiaaDoor
open Go.RowKit Go.Sort Qm

namespace Qm
theorem nm_congr {p p' : Nat → Int} (h : ∀ k, k < 4 → p k = p' k) : nm p = nm p' ∧ nmB p = nmB p' := by
  obtain ⟨e1, e2⟩ := sm4_congr (p := fun k => mul (p k) (p k)) (p' := fun k => mul (p' k) (p' k)) fun k hk => by simp only [h k hk]
  unfold nm nmB
  rw [e1, e2, any_congr (o := fun k => mulB (p k) (p k)) (o' := fun k => mulB (p' k) (p' k)) fun k hk => by simp only [h k hk]]
  exact ⟨rfl, rfl⟩
theorem un_congr {p p' : Nat → Int} (h : ∀ k, k < 4 → p k = p' k) : (∀ k, k < 4 → un p k = un p' k) ∧ unB p = unB p' := by
  obtain ⟨e1, e2⟩ := nm_congr h
  refine ⟨fun k hk => ?_, ?_⟩
  · unfold un; rw [e1, h k hk]
  · unfold unB; rw [e1, e2, any_congr (o := fun k => divB (p k) (sqrt (nm p'))) (o' := fun k => divB (p' k) (sqrt (nm p'))) fun k hk => by simp only [h k hk]]
theorem un_one : (∀ k, k < 4 → un one4 k = one4 k) ∧ unB one4 = false := by
  have e1 : nm one4 = 16777216 := by decide
  have e2 : sqrt 16777216 = 16777216 := by
    unfold sqrt
    rw [if_neg (by decide), show cl 16777216 * 16777216 = 281474976710656 by decide]
    exact (root_uniq (N := 281474976710656) (r := 16777216) (by decide) (by decide) (by decide) (by decide) (by decide)).symm
  have e3 : nmB one4 = false := by decide
  have e4 : sqrtB 16777216 = false := by decide
  refine ⟨?_, ?_⟩
  · apply four_cases <;> (unfold un; rw [e1, e2]; decide)
  · unfold unB; rw [e1, e2, e3, e4, if_neg (by decide)]; decide
theorem sl_zero (v : Nat → Int) : ∀ k, k < 4 → sl v 0 k = one4 k := by
  apply four_cases <;> simp [sl, vq, one4, mul_zero]
def ob3 (v : Nat → Int) : Bool := ob (v 0) || ob (v 1) || ob (v 2)
theorem slB_zero (v : Nat → Int) : anyB (slB v 0) 4 = ob3 v := by simp [anyB, slB, mulB_zero, ob3]
theorem obq (v : Nat → Int) : anyB (fun k => ob (vq 0 v k)) 4 = ob3 v := by simp [anyB, vq, ob3, show ob 0 = false from rfl]
theorem half_small {b : Int} (h1 : -268435456 ≤ b) (h2 : b ≤ 268435456) : -134217729 ≤ half b 1 ∧ half b 1 ≤ 134217729 := by
  have := half_err b 1 (by omega)
  simp only [Int.natCast_one, Int.pow_one] at this
  have e : ((1 : Nat) : Int) = 1 := rfl
  omega
theorem small_norm {v : Nat → Int} {h : Int} (hv : ∀ k, k < 3 → -268435456 ≤ v k ∧ v k ≤ 268435456) (h1 : -134217729 ≤ h) (h2 : h ≤ 134217729) :
    16776960 ≤ nm (un (sl v h)) ∧ nm (un (sl v h)) ≤ 16777472 ∧ (anyB (slB v h) 4 || unB (sl v h)) = false := by
  have key : ∀ k, k < 3 → mulB (v k) h = false ∧ -8589934592 ≤ mul (v k) h ∧ mul (v k) h ≤ 8589934592 := by
    intro k hk
    obtain ⟨a, b⟩ := hv k hk
    obtain ⟨m1, m2, m3, _, _⟩ := mul_ex (a := v k) (b := h) (by omega) (by omega) (by omega) (by omega)
    obtain ⟨z1, z2⟩ := pr_le (X := 268435456) (Y := 134217729) a b h1 h2
    generalize v k * h = z at *
    exact ⟨m1, by omega, by omega⟩
  have k0 := key 0 (by omega)
  have k1 := key 1 (by omega)
  have k2 := key 2 (by omega)
  obtain ⟨u1, u2, u3⟩ := unit_norm (p := sl v h) (four_cases (P := fun k => -8589934592 ≤ sl v h k ∧ sl v h k ≤ 8589934592) (by simp [sl, vq]) k0.2 k1.2 k2.2) ⟨0, by omega, by simp [sl, vq]⟩
  refine ⟨u1, u2, ?_⟩
  rw [u3, any4 (o := slB v h) (four_cases (P := fun k => slB v h k = false) rfl k0.1 k1.1 k2.1)]; rfl
end Qm

set_option maxHeartbeats 4000000 in
set_option maxRecDepth 20000 in
theorem quatSmalls_walk (v : Nat → Int) (b : Int) (w : World) (hG : Less w) (b0 : -9223372036854775808 ≤ b) (b1 : b ≤ 9223372036854775807) :
    Calls Tryd.prog 9 #[.agg #[.int .i64 (v 0), .int .i64 (v 1), .int .i64 (v 2)], .int .i64 b] w fun e w' => e = .returned (.bool true) ∧ Below w.heap.size w w' := by
  obtain ⟨W, hW⟩ : ∃ W, w.alloc (.cells #[.int .i64 (v 0), .int .i64 (v 1), .int .i64 (v 2)] 35) = W := ⟨_, rfl⟩
  have g1 := heap_new w (.cells #[.int .i64 (v 0), .int .i64 (v 1), .int .i64 (v 2)] 35)
  have bW := ball1 w (.cells #[.int .i64 (v 0), .int .i64 (v 1), .int .i64 (v 2)] 35)
  rw [hW] at g1 bW
  have M0 := shown_any W (hG.below bW)
  rw [← hW] at M0
  have HW : Hid (_ = W) := hW
  clear hW hG
  have K1 : Hid (∀ a, Below W.heap.size W a → _) := fun a ha => three_cells (keep ha g1)
  have R2 : ∀ a, Calls Tryd.prog 20 #[.agg #[.int .i64 0, .int .i64 (v 0), .int .i64 (v 1), .int .i64 (v 2)]] a fun e w' => e = .returned (.bool (!ob3 v)) ∧ Below a.heap.size a w' := fun a => by
    have := rright_any (vq 0 v) a
    rw [obq] at this
    exact this
  have S0 : ∀ a, Calls Tryd.prog 23 #[.agg #[.int .i64 (v 0), .int .i64 (v 1), .int .i64 (v 2)], .int .i64 0] a fun e w' => e = .returned (.tuple #[.agg #[.int .i64 16777216, .int .i64 0, .int .i64 0, .int .i64 0], .bool (ob3 v)]) ∧ Below a.heap.size a w' := fun a => by
    have := small_any v 0 a (by omega) (by omega)
    obtain ⟨u1, u2⟩ := un_congr (sl_zero v)
    obtain ⟨t1, t2⟩ := un_one
    have hz : half 0 1 = 0 := by decide
    simp only [hz] at this
    rw [u1 0 (by omega), u1 1 (by omega), u1 2 (by omega), u1 3 (by omega), t1 0 (by omega), t1 1 (by omega), t1 2 (by omega), t1 3 (by omega), u2, t2, slB_zero, Bool.or_false] at this
    exact this
  have S1 : Hid (∀ a, Calls Tryd.prog 23 #[.agg #[.int .i64 (v 0), .int .i64 (v 1), .int .i64 (v 2)], .int .i64 b] a fun e w' => _) := fun a => small_any v b a b0 b1
  have q4' := run_eq4
  have z4 := guard24
  have s4 := eq4_self
  clear b0 b1
  obtain ⟨X, hX⟩ : ∃ X, ob3 v = X := ⟨_, rfl⟩
  simp only [hX] at R2 S0
  clear hX
  cases X
  all_goals
    simp only [Bool.not_true, Bool.not_false] at R2
    go_enter Tryd.func9, Tryd.ntmps9
    go_wp2_with (first
      | (go_at_call 10; refine M0.mono ?_; rintro e wa ⟨rfl, ba⟩; rw [HW.out] at ba; obtain ⟨a0, a1, a2, _⟩ := K1.out _ ba)
      | (go_at_call 23; refine (S0 _).mono ?_; rintro e wb ⟨rfl, bb⟩; have bb1 := bt ba bb; have bb2 := bb1.alloc bb1.size (.cells #[.int .i64 16777216, .int .i64 0, .int .i64 0, .int .i64 0] 24); obtain ⟨c0, c1, c2, _⟩ := K1.out _ bb2)
      | (go_at_call 20; refine (R2 _).mono ?_; rintro e wc ⟨rfl, bc⟩; have bb2 := bt bb2 bc))
    have b9 := bt bW bb2
    have hP : Hid (Box3 _ w.heap.size v) := (Box3.of g1).below bb2
    clear a0 a1 a2 c0 c1 c2 M0 R2 S0
    go_loop [8] (fun i => ∃ k : Nat, k ≤ 3 ∧ i = .int .i64 k ∧ Hid (∀ j, j < k → (-268435456 ≤ v j ∧ v j ≤ 268435456) ∧ -268435456 ≤ b ∧ b ≤ 268435456)) (fun i => 3 - (intOf i).toNat)
    case atStart => exact ⟨0, Nat.zero_le _, rfl, fun j hj => by omega⟩
    case round =>
      obtain ⟨k, hk, rfl, hall⟩ := hrel
      by_cases hlt : k < 3
      · have c1 := hP.out k hlt
        have HA : Hid (-268435456 ≤ v k → v k ≤ 268435456 → -268435456 ≤ b → b ≤ 268435456 → ∀ j, j < k + 1 → (-268435456 ≤ v j ∧ v j ≤ 268435456) ∧ -268435456 ≤ b ∧ b ≤ 268435456) := fun x1 x2 x3 x4 j hj => by
          by_cases e : j = k
          · subst e; exact ⟨⟨x1, x2⟩, x3, x4⟩
          · exact hall.out j (by omega)
        obtain ⟨x, hx⟩ : ∃ x, v k = x := ⟨_, rfl⟩
        rw [hx] at c1 HA
        clear hx hall
        by_cases h1 : 268435456 < x
        · go_wp2
          go_ret
          exact ⟨rfl, b9⟩
        · have h1' : decide (268435456 < x) = false := by simpa using h1
          by_cases h2 : x < -268435456
          · clear h1
            go_wp2
            go_ret
            exact ⟨rfl, b9⟩
          · have h2' : decide (x < -268435456) = false := by simpa using h2
            by_cases h3 : 268435456 < b
            · clear h1 h2
              go_wp2
              go_ret
              exact ⟨rfl, b9⟩
            · have h3' : decide (268435456 < b) = false := by simpa using h3
              by_cases h4 : b < -268435456
              · clear h1 h2 h3
                go_wp2
                go_ret
                exact ⟨rfl, b9⟩
              · have h4' : decide (b < -268435456) = false := by simpa using h4
                have HA' : Hid _ := HA.out (by omega) (by omega) (by omega) (by omega)
                clear h1 h2 h3 h4
                go_wp2
                go_round
                case rel => exact ⟨k + 1, by omega, by go_num, HA'.out⟩
                case measure => simp [intOf]; omega
      · have e : k = 3 := by omega
        subst e
        obtain ⟨y1, y2⟩ := (hall.out 0 (by omega)).2
        obtain ⟨t1, t2⟩ := half_small y1 y2
        obtain ⟨N1, N2, N3⟩ := small_norm (v := v) (h := half b 1) (fun k hk => (hall.out k hk).1) t1 t2
        have S2 := S1.out
        rw [N3] at S2
        have hN := fun a => norm_any (un (sl v (half b 1))) a
        obtain ⟨m, hm⟩ : ∃ m, nm (un (sl v (half b 1))) = m := ⟨_, rfl⟩
        rw [hm] at N1 N2
        simp only [hm] at hN
        obtain ⟨n0, hn0⟩ : ∃ m, un (sl v (half b 1)) 0 = m := ⟨_, rfl⟩
        obtain ⟨n1, hn1⟩ : ∃ m, un (sl v (half b 1)) 1 = m := ⟨_, rfl⟩
        obtain ⟨n2, hn2⟩ : ∃ m, un (sl v (half b 1)) 2 = m := ⟨_, rfl⟩
        obtain ⟨n3, hn3⟩ : ∃ m, un (sl v (half b 1)) 3 = m := ⟨_, rfl⟩
        simp only [hn0, hn1, hn2, hn3] at S2 hN
        have B1' : decide (16776960 ≤ m) = true := by simpa using N1
        have B2' : decide (m ≤ 16777472) = true := by simpa using N2
        clear hm hn0 hn1 hn2 hn3 N1 N2 N3 t1 t2 y1 y2 hall S1 q4' z4 s4
        obtain ⟨D0, D1, D2, _⟩ := K1.out _ bb2
        go_wp2_with (first
          | (go_at_call 23; refine (S2 _).mono ?_; rintro e wd ⟨rfl, bd⟩; have bd1 := bt b9 bd; have bd2 := bd1.alloc bd1.size (.cells #[.int .i64 n0, .int .i64 n1, .int .i64 n2, .int .i64 n3] 24))
          | (go_at_call 13; refine (hN _).mono ?_; rintro e we ⟨rfl, be⟩))
        go_ret
        exact ⟨rfl, bt bd2 be⟩
end Go.Proofs.YtgekignonjfaiaaDoor
