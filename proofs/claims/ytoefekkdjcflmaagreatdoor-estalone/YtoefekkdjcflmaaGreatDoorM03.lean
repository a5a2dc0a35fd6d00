/- Parts of the proof. -/
import Derived.Test.YtoefekkdjcflmaaGreatDoorM02
namespace Go.Proofs.YtoefekkdjcflmaaGreatDoor
open Go.RowKit Qm
theorem and32 (z : Int) (h0 : 0 ≤ z) (h1 : z ≤ 18446744073709551615) : bits .and .u64 z 4294967295 = z % 4294967296 :=
  bits_mask .u64 64 (by decide) (fun n h0 h1 => by rw [IntKind.wrap_u64]; omega) 32 (by omega) z h0 (by omega)
theorem moved (hi lo y : Int) (k : Nat) (hk : k ≤ 63) (h0 : 0 ≤ hi) (h1 : hi < y) (l0 : 0 ≤ lo) (l1 : lo ≤ 18446744073709551615) (v1 : y * 2 ^ k ≤ 18446744073709551615) :
    ∃ U L : Int, bits .or .u64 (hi * 2 ^ k) (lo / 2 ^ (64 - k)) = U ∧ IntKind.u64.wrap (lo * 2 ^ k) = L ∧ (hi * 18446744073709551616 + lo) * 2 ^ k = U * 18446744073709551616 + L ∧ 0 ≤ U ∧ U < y * 2 ^ k ∧ 0 ≤ L ∧ L ≤ 18446744073709551615 ∧ 0 ≤ hi * 2 ^ k ∧ hi * 2 ^ k ≤ 18446744073709551615 := by
  have hp : (0 : Int) < 2 ^ k := Int.pow_pos (by omega)
  have hp2 : (0 : Int) < 2 ^ (64 - k) := Int.pow_pos (by omega)
  have e64 : (18446744073709551616 : Int) = 2 ^ (64 - k) * 2 ^ k := by rw [← Int.pow_add, show 64 - k + k = 64 by omega]; rfl
  have a0 : 0 ≤ hi * 2 ^ k := Int.mul_nonneg h0 (by omega)
  have a1 : (hi + 1) * 2 ^ k ≤ y * 2 ^ k := Int.mul_le_mul_of_nonneg_right (by omega) (by omega)
  rw [Int.add_mul, Int.one_mul] at a1
  have b0 : 0 ≤ lo / 2 ^ (64 - k) := Int.ediv_nonneg l0 (by omega)
  have b1 : lo / 2 ^ (64 - k) < 2 ^ k := Int.ediv_lt_of_lt_mul hp2 (by rw [Int.mul_comm, ← e64]; omega)
  have hm : hi * 2 ^ k % 2 ^ k = 0 := Int.mul_emod_left _ _
  have hor := bits_join .u64 64 (by decide) (fun n h0 h1 => by rw [IntKind.wrap_u64]; omega) k (hi * 2 ^ k) (lo / 2 ^ (64 - k)) a0 hm (by omega) b0 b1 (by omega)
  have hlo : lo * 2 ^ k / 18446744073709551616 = lo / 2 ^ (64 - k) := by rw [e64]; exact Int.mul_ediv_mul_of_pos_left _ _ hp
  refine ⟨_, _, hor, rfl, ?_, by omega, by omega, ?_, ?_, a0, by omega⟩
  · rw [Int.add_mul, Int.mul_right_comm, IntKind.wrap_u64]
    omega
  · rw [IntKind.wrap_u64]; omega
  · rw [IntKind.wrap_u64]; omega
theorem chain {U v1 v0 c Q V : Int} (f : Fit U v1 v0 c) (h : Hit U v1 v0 c Q) (hV : V = v1 * 4294967296 + v0) :
    ∃ A1 A2 A3 R : Int, IntKind.u64.wrap (U * 4294967296) = A1 ∧ IntKind.u64.wrap (A1 + c) = A2 ∧ IntKind.u64.wrap (Q * V) = A3 ∧ IntKind.u64.wrap (A2 - A3) = R ∧ R = (U * 4294967296 + c) % (v1 * 4294967296 + v0) ∧ 0 ≤ Q ∧ Q ≤ 4294967295 ∧ 0 ≤ R ∧ R < V := by
  obtain ⟨q0, q1, e, m0, m1⟩ := h.bounds f
  have hVb : V ≤ 18446744073709551615 := by have := f.v11; have := f.v01; omega
  refine ⟨_, _, _, _, rfl, rfl, rfl, rfl, ?_, q0, q1, ?_, ?_⟩
  all_goals
    rw [← hV] at *
    obtain ⟨v10, v11, v00, v01, u0, u1, c0, c1⟩ := f
    simp only [IntKind.wrap_u64]
    generalize Q * V = P at *
    generalize (U * 4294967296 + c) % V = R at *
    omega
set_option maxHeartbeats 4000000 in
theorem div64_big (hi lo y : Int) (w : World) (h0 : 1 ≤ hi) (h1 : hi < y) (l0 : 0 ≤ lo) (l1 : lo ≤ 18446744073709551615) (y1 : y ≤ 18446744073709551615) :
    Calls Tryz.prog 154 #[.int .u64 hi, .int .u64 lo, .int .u64 y] w fun e w' => e = .returned (.tuple #[.int .u64 (dq hi lo y), .int .u64 (dr hi lo y)]) ∧ w' = w := by
  go_enter Tryz.func154, Tryz.ntmps154
  go_wp2_with fail
  refine (lz64_any _ _ (by omega) (by omega)).mono ?_
  rintro e w' ⟨k, hk, hy1, hy2, rfl, rfl⟩
  obtain ⟨U, L, hU, hL, hX, u0, u1, L0, L1, g0, g1⟩ := moved hi lo y k hk (by omega) h1 l0 l1 hy2
  have hT : (0 : Int) < 2 ^ k := Int.pow_pos (by omega)
  obtain ⟨V, hV⟩ : ∃ V, y * 2 ^ k = V := ⟨_, rfl⟩
  rw [hV] at hy1 hy2 u1
  have HX : Hid ((hi * 18446744073709551616 + lo) * 2 ^ k = U * 18446744073709551616 + L) := hX
  clear hX
  have m0 := and32 V (by omega) (by omega)
  have m1 := and32 L (by omega) (by omega)
  obtain ⟨v1, hv1⟩ : ∃ v1, V / 4294967296 = v1 := ⟨_, rfl⟩
  obtain ⟨v0, hv0⟩ : ∃ v0, V % 4294967296 = v0 := ⟨_, rfl⟩
  obtain ⟨c1, hc1⟩ : ∃ c1, L / 4294967296 = c1 := ⟨_, rfl⟩
  obtain ⟨c0, hc0⟩ : ∃ c0, L % 4294967296 = c0 := ⟨_, rfl⟩
  rw [hv0] at m0
  rw [hc0] at m1
  have f : Fit U v1 v0 c1 := ⟨by omega, by omega, by omega, by omega, by omega, by omega, by omega, by omega⟩
  have HV : Hid (V = v1 * 4294967296 + v0) := show V = v1 * 4294967296 + v0 by omega
  have HL : Hid (L = c1 * 4294967296 + c0) := show L = c1 * 4294967296 + c0 by omega
  have hc01 : 0 ≤ c0 ∧ c0 ≤ 4294967295 := by omega
  have gi := Guess.init f
  have F : Hid (Fit U v1 v0 c1) := f
  obtain ⟨v10, v11, v00, v01, -, -, c10, c11⟩ := f
  have G : Hid (Guess U v1 v0 c1 (U / v1) (U - U / v1 * v1)) := gi
  obtain ⟨-, gr0, gr1, gq0, gq1, -, ga0, -⟩ := gi
  clear hv0 hc0
  go_wp2_with fail
  go_loop [15, 16] (fun a b => ∃ q r : Int, Hid (Guess U v1 v0 c1 q r) ∧ a = .int .u64 q ∧ b = .int .u64 r) (fun a _ => (intOf a).toNat)
  case atStart => exact ⟨_, _, G, rfl, rfl⟩
  case round =>
    obtain ⟨q, r, hg, rfl, rfl⟩ := hrel
    have hg' := hg.out
    obtain ⟨sm, r0, r1, q0, q1, -, qa, qb⟩ := hg'
    have HS : Hid (q * v1 + r = U) := sm
    clear sm
    by_cases t : 4294967296 ≤ q ∨ 4294967296 * r + c1 < q * v0
    · obtain ⟨q2, -⟩ := hg.out.less F.out t
      by_cases t3 : r + v1 < 4294967296
      · have HN : Hid (Guess U v1 v0 c1 (q - 1) (r + v1)) := hg.out.next F.out t t3
        by_cases t1 : 4294967296 ≤ q
        · go_wp2
          go_round
          case rel => exact ⟨_, _, HN, rfl, rfl⟩
          case measure => simp [intOf]; omega
        · have t2 : 4294967296 * r + c1 < q * v0 := by omega
          have b2 : q * v0 ≤ 4294967295 * 4294967295 := Int.mul_le_mul (by omega) v01 v00 (by omega)
          clear t
          go_wp2
          go_round
          case rel => exact ⟨_, _, HN, rfl, rfl⟩
          case measure => simp [intOf]; omega
      · have H : Hid (Hit U v1 v0 c1 (q - 1)) := hg.out.broke F.out t t3
        obtain ⟨A1, A2, A3, R, e1, e2, e3, e4, hR, Q0, Q1, R0, R1⟩ := chain F.out H.out HV.out
        have f2 : Fit R v1 v0 c0 := ⟨v10, v11, v00, v01, R0, by have := HV.out; omega, hc01.1, hc01.2⟩
        have gi2 := Guess.init f2
        have F2 : Hid (Fit R v1 v0 c0) := f2
        have G2 : Hid (Guess R v1 v0 c0 (R / v1) (R - R / v1 * v1)) := gi2
        obtain ⟨-, gs0, gs1, gp0, gp1, -, gb0, -⟩ := gi2
        have HR : Hid (R = (U * 4294967296 + c1) % (v1 * 4294967296 + v0)) := hR
        clear hR f2
        by_cases t1 : 4294967296 ≤ q
        · go_wp2_with fail
          go_loop [18, 16] (fun a b => ∃ q r : Int, Hid (Guess R v1 v0 c0 q r) ∧ a = .int .u64 q ∧ b = .int .u64 r) (fun a _ => (intOf a).toNat)
          case atStart => exact ⟨_, _, G2, rfl, rfl⟩
          case round =>
            obtain ⟨p, s, hh, rfl, rfl⟩ := hrel
            have hh' := hh.out
            obtain ⟨sn, s0, s1, p0, p1, -, pa, pb⟩ := hh'
            clear sn
            by_cases o : 4294967296 ≤ p ∨ 4294967296 * s + c0 < p * v0
            · obtain ⟨p2, -⟩ := hh.out.less F2.out o
              by_cases o3 : s + v1 < 4294967296
              · have HN2 : Hid (Guess R v1 v0 c0 (p - 1) (s + v1)) := hh.out.next F2.out o o3
                by_cases o1 : 4294967296 ≤ p
                · go_wp2
                  go_round
                  case rel => exact ⟨_, _, HN2, rfl, rfl⟩
                  case measure => simp [intOf]; omega
                · have o2 : 4294967296 * s + c0 < p * v0 := by omega
                  have ob2 : p * v0 ≤ 4294967295 * 4294967295 := Int.mul_le_mul (by omega) v01 v00 (by omega)
                  clear o
                  go_wp2
                  go_round
                  case rel => exact ⟨_, _, HN2, rfl, rfl⟩
                  case measure => simp [intOf]; omega
              · have H2 : Hid (Hit R v1 v0 c0 (p - 1)) := hh.out.broke F2.out o o3
                obtain ⟨B1, B2, B3, S, d1, d2, d3, d4, hS, P0, P1, S0, S1⟩ := chain F2.out H2.out HV.out
                obtain ⟨z1, z2⟩ := two_steps (hi := hi) (lo := lo) hT hV HV.out (show (hi * 18446744073709551616 + lo) * 2 ^ k = (U * 4294967296 + c1) * 4294967296 + c0 by have a := HX.out; have b := HL.out; omega) F.out H.out HR.out F2.out H2.out
                rw [← hS] at z2
                clear hS
                by_cases o1 : 4294967296 ≤ p
                · go_wp2
                  go_ret2
                  exact ⟨rfl, rfl⟩
                · have o2 : 4294967296 * s + c0 < p * v0 := by omega
                  have ob2 : p * v0 ≤ 4294967295 * 4294967295 := Int.mul_le_mul (by omega) v01 v00 (by omega)
                  clear o
                  go_wp2
                  go_ret2
                  exact ⟨rfl, rfl⟩
            · have H2 : Hid (Hit R v1 v0 c0 p) := hh.out.stands F2.out (by omega)
              obtain ⟨B1, B2, B3, S, d1, d2, d3, d4, hS, P0, P1, S0, S1⟩ := chain F2.out H2.out HV.out
              obtain ⟨z1, z2⟩ := two_steps (hi := hi) (lo := lo) hT hV HV.out (show (hi * 18446744073709551616 + lo) * 2 ^ k = (U * 4294967296 + c1) * 4294967296 + c0 by have a := HX.out; have b := HL.out; omega) F.out H.out HR.out F2.out H2.out
              rw [← hS] at z2
              clear hS
              have o1 : ¬ 4294967296 ≤ p := by omega
              have o2 : ¬ 4294967296 * s + c0 < p * v0 := by omega
              have ob2 : p * v0 ≤ 4294967295 * 4294967295 := Int.mul_le_mul (by omega) v01 v00 (by omega)
              clear o
              go_wp2
              go_ret2
              exact ⟨rfl, rfl⟩
        · have t2 : 4294967296 * r + c1 < q * v0 := by omega
          have b2 : q * v0 ≤ 4294967295 * 4294967295 := Int.mul_le_mul (by omega) v01 v00 (by omega)
          clear t
          go_wp2_with fail
          go_loop [18, 16] (fun a b => ∃ q r : Int, Hid (Guess R v1 v0 c0 q r) ∧ a = .int .u64 q ∧ b = .int .u64 r) (fun a _ => (intOf a).toNat)
          case atStart => exact ⟨_, _, G2, rfl, rfl⟩
          case round =>
            obtain ⟨p, s, hh, rfl, rfl⟩ := hrel
            have hh' := hh.out
            obtain ⟨sn, s0, s1, p0, p1, -, pa, pb⟩ := hh'
            clear sn
            by_cases o : 4294967296 ≤ p ∨ 4294967296 * s + c0 < p * v0
            · obtain ⟨p2, -⟩ := hh.out.less F2.out o
              by_cases o3 : s + v1 < 4294967296
              · have HN2 : Hid (Guess R v1 v0 c0 (p - 1) (s + v1)) := hh.out.next F2.out o o3
                by_cases o1 : 4294967296 ≤ p
                · go_wp2
                  go_round
                  case rel => exact ⟨_, _, HN2, rfl, rfl⟩
                  case measure => simp [intOf]; omega
                · have o2 : 4294967296 * s + c0 < p * v0 := by omega
                  have ob2 : p * v0 ≤ 4294967295 * 4294967295 := Int.mul_le_mul (by omega) v01 v00 (by omega)
                  clear o
                  go_wp2
                  go_round
                  case rel => exact ⟨_, _, HN2, rfl, rfl⟩
                  case measure => simp [intOf]; omega
              · have H2 : Hid (Hit R v1 v0 c0 (p - 1)) := hh.out.broke F2.out o o3
                obtain ⟨B1, B2, B3, S, d1, d2, d3, d4, hS, P0, P1, S0, S1⟩ := chain F2.out H2.out HV.out
                obtain ⟨z1, z2⟩ := two_steps (hi := hi) (lo := lo) hT hV HV.out (show (hi * 18446744073709551616 + lo) * 2 ^ k = (U * 4294967296 + c1) * 4294967296 + c0 by have a := HX.out; have b := HL.out; omega) F.out H.out HR.out F2.out H2.out
                rw [← hS] at z2
                clear hS
                by_cases o1 : 4294967296 ≤ p
                · go_wp2
                  go_ret2
                  exact ⟨rfl, rfl⟩
                · have o2 : 4294967296 * s + c0 < p * v0 := by omega
                  have ob2 : p * v0 ≤ 4294967295 * 4294967295 := Int.mul_le_mul (by omega) v01 v00 (by omega)
                  clear o
                  go_wp2
                  go_ret2
                  exact ⟨rfl, rfl⟩
            · have H2 : Hid (Hit R v1 v0 c0 p) := hh.out.stands F2.out (by omega)
              obtain ⟨B1, B2, B3, S, d1, d2, d3, d4, hS, P0, P1, S0, S1⟩ := chain F2.out H2.out HV.out
              obtain ⟨z1, z2⟩ := two_steps (hi := hi) (lo := lo) hT hV HV.out (show (hi * 18446744073709551616 + lo) * 2 ^ k = (U * 4294967296 + c1) * 4294967296 + c0 by have a := HX.out; have b := HL.out; omega) F.out H.out HR.out F2.out H2.out
              rw [← hS] at z2
              clear hS
              have o1 : ¬ 4294967296 ≤ p := by omega
              have o2 : ¬ 4294967296 * s + c0 < p * v0 := by omega
              have ob2 : p * v0 ≤ 4294967295 * 4294967295 := Int.mul_le_mul (by omega) v01 v00 (by omega)
              clear o
              go_wp2
              go_ret2
              exact ⟨rfl, rfl⟩
    · have H : Hid (Hit U v1 v0 c1 q) := hg.out.stands F.out (by omega)
      obtain ⟨A1, A2, A3, R, e1, e2, e3, e4, hR, Q0, Q1, R0, R1⟩ := chain F.out H.out HV.out
      have f2 : Fit R v1 v0 c0 := ⟨v10, v11, v00, v01, R0, by have := HV.out; omega, hc01.1, hc01.2⟩
      have gi2 := Guess.init f2
      have F2 : Hid (Fit R v1 v0 c0) := f2
      have G2 : Hid (Guess R v1 v0 c0 (R / v1) (R - R / v1 * v1)) := gi2
      obtain ⟨-, gs0, gs1, gp0, gp1, -, gb0, -⟩ := gi2
      have HR : Hid (R = (U * 4294967296 + c1) % (v1 * 4294967296 + v0)) := hR
      clear hR f2
      have t1 : ¬ 4294967296 ≤ q := by omega
      have t2 : ¬ 4294967296 * r + c1 < q * v0 := by omega
      have b2 : q * v0 ≤ 4294967295 * 4294967295 := Int.mul_le_mul (by omega) v01 v00 (by omega)
      clear t
      go_wp2_with fail
      go_loop [18, 16] (fun a b => ∃ q r : Int, Hid (Guess R v1 v0 c0 q r) ∧ a = .int .u64 q ∧ b = .int .u64 r) (fun a _ => (intOf a).toNat)
      case atStart => exact ⟨_, _, G2, rfl, rfl⟩
      case round =>
        obtain ⟨p, s, hh, rfl, rfl⟩ := hrel
        have hh' := hh.out
        obtain ⟨sn, s0, s1, p0, p1, -, pa, pb⟩ := hh'
        clear sn
        by_cases o : 4294967296 ≤ p ∨ 4294967296 * s + c0 < p * v0
        · obtain ⟨p2, -⟩ := hh.out.less F2.out o
          by_cases o3 : s + v1 < 4294967296
          · have HN2 : Hid (Guess R v1 v0 c0 (p - 1) (s + v1)) := hh.out.next F2.out o o3
            by_cases o1 : 4294967296 ≤ p
            · go_wp2
              go_round
              case rel => exact ⟨_, _, HN2, rfl, rfl⟩
              case measure => simp [intOf]; omega
            · have o2 : 4294967296 * s + c0 < p * v0 := by omega
              have ob2 : p * v0 ≤ 4294967295 * 4294967295 := Int.mul_le_mul (by omega) v01 v00 (by omega)
              clear o
              go_wp2
              go_round
              case rel => exact ⟨_, _, HN2, rfl, rfl⟩
              case measure => simp [intOf]; omega
          · have H2 : Hid (Hit R v1 v0 c0 (p - 1)) := hh.out.broke F2.out o o3
            obtain ⟨B1, B2, B3, S, d1, d2, d3, d4, hS, P0, P1, S0, S1⟩ := chain F2.out H2.out HV.out
            obtain ⟨z1, z2⟩ := two_steps (hi := hi) (lo := lo) hT hV HV.out (show (hi * 18446744073709551616 + lo) * 2 ^ k = (U * 4294967296 + c1) * 4294967296 + c0 by have a := HX.out; have b := HL.out; omega) F.out H.out HR.out F2.out H2.out
            rw [← hS] at z2
            clear hS
            by_cases o1 : 4294967296 ≤ p
            · go_wp2
              go_ret2
              exact ⟨rfl, rfl⟩
            · have o2 : 4294967296 * s + c0 < p * v0 := by omega
              have ob2 : p * v0 ≤ 4294967295 * 4294967295 := Int.mul_le_mul (by omega) v01 v00 (by omega)
              clear o
              go_wp2
              go_ret2
              exact ⟨rfl, rfl⟩
        · have H2 : Hid (Hit R v1 v0 c0 p) := hh.out.stands F2.out (by omega)
          obtain ⟨B1, B2, B3, S, d1, d2, d3, d4, hS, P0, P1, S0, S1⟩ := chain F2.out H2.out HV.out
          obtain ⟨z1, z2⟩ := two_steps (hi := hi) (lo := lo) hT hV HV.out (show (hi * 18446744073709551616 + lo) * 2 ^ k = (U * 4294967296 + c1) * 4294967296 + c0 by have a := HX.out; have b := HL.out; omega) F.out H.out HR.out F2.out H2.out
          rw [← hS] at z2
          clear hS
          have o1 : ¬ 4294967296 ≤ p := by omega
          have o2 : ¬ 4294967296 * s + c0 < p * v0 := by omega
          have ob2 : p * v0 ≤ 4294967295 * 4294967295 := Int.mul_le_mul (by omega) v01 v00 (by omega)
          clear o
          go_wp2
          go_ret2
          exact ⟨rfl, rfl⟩
set_option maxHeartbeats 1000000 in
theorem div64_small (lo y : Int) (w : World) (h1 : 1 ≤ y) (l0 : 0 ≤ lo) (l1 : lo ≤ 18446744073709551615) (y1 : y ≤ 18446744073709551615) :
    Calls Tryz.prog 154 #[.int .u64 0, .int .u64 lo, .int .u64 y] w fun e w' => e = .returned (.tuple #[.int .u64 (lo / y), .int .u64 (lo % y)]) ∧ Below w.heap.size w w' := by
  go_enter Tryz.func154, Tryz.ntmps154
  go_wp2
  go_quiet (fail)
  go_wp2
  go_ret2
  exact ⟨rfl, below_drewN (Below.refl _ _) _⟩
theorem div64_any (hi lo y : Int) (w : World) (h0 : 0 ≤ hi) (h1 : hi < y) (l0 : 0 ≤ lo) (l1 : lo ≤ 18446744073709551615) (y1 : y ≤ 18446744073709551615) :
    Calls Tryz.prog 154 #[.int .u64 hi, .int .u64 lo, .int .u64 y] w fun e w' => e = .returned (.tuple #[.int .u64 (dq hi lo y), .int .u64 (dr hi lo y)]) ∧ Below w.heap.size w w' := by
  by_cases h : 1 ≤ hi
  · refine (div64_big hi lo y w h h1 l0 l1 y1).mono ?_
    rintro e w' ⟨he, hw⟩
    subst hw
    exact ⟨he, Below.refl _ _⟩
  · obtain rfl : hi = 0 := by omega
    have e1 : dq 0 lo y = lo / y := by unfold dq; rw [Int.zero_mul, Int.zero_add]
    have e2 : dr 0 lo y = lo % y := by unfold dr; rw [Int.zero_mul, Int.zero_add]
    rw [e1, e2]
    exact div64_small lo y w (by omega) l0 l1 y1
end Go.Proofs.YtoefekkdjcflmaaGreatDoor
namespace Go.Proofs.YtoefekkdjcflmaaGreatDoor.Qm
def dw (a b : Int) : Int := ab (cl a) * 16777216 / ab (cl b)
def dm (a b : Int) : Int := ab (cl a) * 16777216 % ab (cl b)
def divv (a b : Int) : Int := sg (ng a b) (near (dw a b) (dm a b) (ab (cl b)))
def none0 (a : Int) : Int := if 0 < a then 70368744177663 else if a < 0 then -70368744177664 else 0
def div (a b : Int) : Int := if cl b = 0 then none0 (cl a) else cl (divv a b)
def divB (a b : Int) : Bool := if cl b = 0 then true else (ob2 a b || ob (divv a b))
theorem div_z {a b : Int} (h : cl b = 0) : div a b = none0 (cl a) ∧ divB a b = true := by unfold div divB; rw [if_pos h, if_pos h]; exact ⟨rfl, rfl⟩
theorem div_nz {a b : Int} (h : ¬ cl b = 0) : div a b = cl (divv a b) ∧ divB a b = (ob2 a b || ob (divv a b)) := by unfold div divB; rw [if_neg h, if_neg h]; exact ⟨rfl, rfl⟩
theorem ab_nz {a : Int} (h : ¬ a = 0) : 1 ≤ ab a := by unfold ab; split <;> omega
theorem dw_bd (a b : Int) (h : 1 ≤ ab (cl b)) : 0 ≤ dw a b ∧ dw a b ≤ 1180591620717411303424 := by
  obtain ⟨h1, h2⟩ := ab_bd a
  unfold dw
  refine ⟨Int.ediv_nonneg (by omega) (by omega), ?_⟩
  exact Int.le_trans (Int.ediv_le_self _ (by omega)) (by omega)
theorem dm_bd (a b : Int) (h : 1 ≤ ab (cl b)) : 0 ≤ dm a b ∧ dm a b < ab (cl b) := by
  unfold dm
  exact ⟨Int.emod_nonneg _ (by omega), Int.emod_lt_of_pos _ (by omega)⟩
end Go.Proofs.YtoefekkdjcflmaaGreatDoor.Qm
namespace Go.Proofs.YtoefekkdjcflmaaGreatDoor
open Go.RowKit Qm
set_option maxHeartbeats 400000 in
theorem byNothing_any (a : Int) (w : World) :
    Calls Tryz.prog 153 #[.int .i64 a] w fun e w' => e = .returned (.int .i64 (none0 a)) ∧ w' = w := by
  unfold none0
  by_cases h1 : 0 < a
  · rw [if_pos h1]
    go_enter Tryz.func153, Tryz.ntmps153
    go_wp2
    go_ret
    exact ⟨rfl, rfl⟩
  · rw [if_neg h1]
    by_cases h2 : a < 0
    · rw [if_pos h2]
      go_enter Tryz.func153, Tryz.ntmps153
      go_wp2
      go_ret
      exact ⟨rfl, rfl⟩
    · rw [if_neg h2]
      go_enter Tryz.func153, Tryz.ntmps153
      go_wp2
      go_ret
      exact ⟨rfl, rfl⟩
set_option maxHeartbeats 400000 in
theorem layOn_cell (n : Int) (s : Bool) (p : Addr) (w : World) (hc : w.cell? p = some (.bool s)) (h1 : 0 ≤ n) (h2 : n ≤ 4611686018427387904) :
    Calls Tryz.prog 176 #[.int .i64 n, .pointer (some p)] w fun e w' => e = .returned (.int .i64 (sg s n)) ∧ w' = w := by
  cases s
  · rw [sg_f]
    go_enter Tryz.func176, Tryz.ntmps176
    go_wp2
    go_ret
    exact ⟨rfl, rfl⟩
  · rw [sg_t]
    go_enter Tryz.func176, Tryz.ntmps176
    go_wp2
    go_ret
    exact ⟨rfl, rfl⟩
set_option maxHeartbeats 1000000 in
theorem div_zero (a b : Int) (w : World) (hb : cl b = 0) :
    Calls Tryz.prog 107 #[.int .i64 a, .int .i64 b] w fun e w' => e = .returned (.tuple #[.int .i64 (div a b), .bool (divB a b)]) ∧ Below w.heap.size w w' := by
  obtain ⟨e1, e2⟩ := div_z (a := a) hb
  rw [e1, e2]
  clear e1 e2
  go_enter Tryz.func107, Tryz.ntmps107
  go_wp2_with (first | (go_at_call 148; refine (clampBoth_any _ _ _).mono ?_; rintro e w' ⟨rfl, rfl⟩) | (go_at_call 153; refine (byNothing_any _ _).mono ?_; rintro e w' ⟨rfl, rfl⟩))
  go_ret2
  exact ⟨rfl, Below.refl _ _⟩
theorem dq_eq (x y : Int) (_h0 : 0 ≤ x) : dq (x / 1099511627776) (IntKind.u64.wrap (x * 16777216)) y = x * 16777216 / y ∧ dr (x / 1099511627776) (IntKind.u64.wrap (x * 16777216)) y = x * 16777216 % y := by
  unfold dq dr
  rw [IntKind.wrap_u64]
  have e : x / 1099511627776 * 18446744073709551616 + x * 16777216 % 18446744073709551616 = x * 16777216 := by omega
  rw [e]
  exact ⟨rfl, rfl⟩
set_option maxHeartbeats 1000000 in
theorem div_near (a b : Int) (w : World) (hb : ¬ cl b = 0) (hd : dw a b ≤ 140737488355328) (ho : ab (cl a) / 1099511627776 < ab (cl b)) :
    Calls Tryz.prog 107 #[.int .i64 a, .int .i64 b] w fun e w' => e = .returned (.tuple #[.int .i64 (div a b), .bool (divB a b)]) ∧ Below w.heap.size w w' := by
  obtain ⟨e1, e2⟩ := div_nz (a := a) hb
  rw [e1, e2]
  clear e1 e2
  have hbz : (cl b == 0) = false := by simp [hb]
  have h1 := cl_lo a; have h2 := cl_hi a; have h3 := cl_lo b; have h4 := cl_hi b
  obtain ⟨a1, a2⟩ := ab_bd a
  obtain ⟨b1, b2⟩ := ab_bd b
  have b3 := ab_nz hb
  obtain ⟨w1, w2⟩ := dw_bd a b b3
  obtain ⟨m1, m2⟩ := dm_bd a b b3
  obtain ⟨L, hL⟩ : ∃ L, IntKind.u64.wrap (ab (cl a) * 16777216) = L := ⟨_, rfl⟩
  have L0 : 0 ≤ L ∧ L ≤ 18446744073709551615 := by rw [← hL, IntKind.wrap_u64]; omega
  obtain ⟨q1, q2⟩ := dq_eq (ab (cl a)) (ab (cl b)) a1
  rw [hL] at q1 q2
  have q1' : dq (ab (cl a) / 1099511627776) L (ab (cl b)) = dw a b := q1
  have q2' : dr (ab (cl a) / 1099511627776) L (ab (cl b)) = dm a b := q2
  clear q1 q2
  obtain ⟨n1, n2⟩ := near_bd (dw a b) (dm a b) (ab (cl b))
  unfold divv ng
  clear hb
  go_enter Tryz.func107, Tryz.ntmps107
  go_wp2_with (first | (go_at_call 148; refine (clampBoth_any _ _ _).mono ?_; rintro e w' ⟨rfl, rfl⟩) | (go_at_call 149; refine (signs_any _).mono ?_; rintro e w' ⟨rfl, rfl⟩) | (go_at_call 175; refine (takeOff_any _ _ _ (by omega) (by omega)).mono ?_; rintro e w' ⟨rfl, rfl⟩))
  refine (div64_any _ _ _ _ (by omega) (by omega) (by omega) (by omega) (by omega)).mono ?_
  rintro e w1 ⟨rfl, hbel⟩
  have hc := hbel.cell (p := ⟨w'.heap.size, 0, none⟩) (by simp)
  simp at hc
  have HB : Hid (Below _ _ w1) := hbel
  clear hbel
  go_wp2_with (first | (go_at_call 176; refine (layOn_cell _ _ _ _ hc (by omega) (by omega)).mono ?_; rintro e w' ⟨rfl, rfl⟩) | (go_at_call 146; refine (nearest_any _ _ _ _ (by omega) (by omega) (by omega) (by omega)).mono ?_; rintro e w' ⟨rfl, rfl⟩) | (go_at_call 91; refine (clamp_any _ _).mono ?_; rintro e w' ⟨rfl, rfl⟩))
  all_goals
    go_ret2
    exact ⟨by simp [*], ((Below.refl _ _).alloc (Nat.le_refl _) _).trans (HB.out.mono (by simp))⟩
set_option maxHeartbeats 1000000 in
theorem div_far1 (a b : Int) (w : World) (hb : ¬ cl b = 0) (hd : ¬ dw a b ≤ 140737488355328) (ho : ab (cl a) / 1099511627776 < ab (cl b)) :
    Calls Tryz.prog 107 #[.int .i64 a, .int .i64 b] w fun e w' => e = .returned (.tuple #[.int .i64 (div a b), .bool (divB a b)]) ∧ Below w.heap.size w w' := by
  obtain ⟨e1, e2⟩ := div_nz (a := a) hb
  rw [e1, e2]
  clear e1 e2
  have hbz : (cl b == 0) = false := by simp [hb]
  have h1 := cl_lo a; have h2 := cl_hi a; have h3 := cl_lo b; have h4 := cl_hi b
  obtain ⟨a1, a2⟩ := ab_bd a
  obtain ⟨b1, b2⟩ := ab_bd b
  have b3 := ab_nz hb
  obtain ⟨w1, w2⟩ := dw_bd a b b3
  obtain ⟨m1, m2⟩ := dm_bd a b b3
  obtain ⟨L, hL⟩ : ∃ L, IntKind.u64.wrap (ab (cl a) * 16777216) = L := ⟨_, rfl⟩
  have L0 : 0 ≤ L ∧ L ≤ 18446744073709551615 := by rw [← hL, IntKind.wrap_u64]; omega
  obtain ⟨q1, q2⟩ := dq_eq (ab (cl a)) (ab (cl b)) a1
  rw [hL] at q1 q2
  have q1' : dq (ab (cl a) / 1099511627776) L (ab (cl b)) = dw a b := q1
  have q2' : dr (ab (cl a) / 1099511627776) L (ab (cl b)) = dm a b := q2
  clear q1 q2
  obtain ⟨n1, n2⟩ := near_bd 140737488355328 (dm a b) (ab (cl b))
  have n3 := (near_bd (dw a b) (dm a b) (ab (cl b))).1
  obtain ⟨e1, e2⟩ := far_same (flip (flip false (cl a)) (cl b)) (m := near (dw a b) (dm a b) (ab (cl b))) (n := near 140737488355328 (dm a b) (ab (cl b))) (by omega) (by omega)
  unfold divv ng
  rw [e1, e2]
  clear e1 e2 n3
  clear hb
  go_enter Tryz.func107, Tryz.ntmps107
  go_wp2_with (first | (go_at_call 148; refine (clampBoth_any _ _ _).mono ?_; rintro e w' ⟨rfl, rfl⟩) | (go_at_call 149; refine (signs_any _).mono ?_; rintro e w' ⟨rfl, rfl⟩) | (go_at_call 175; refine (takeOff_any _ _ _ (by omega) (by omega)).mono ?_; rintro e w' ⟨rfl, rfl⟩))
  refine (div64_any _ _ _ _ (by omega) (by omega) (by omega) (by omega) (by omega)).mono ?_
  rintro e w1 ⟨rfl, hbel⟩
  have hc := hbel.cell (p := ⟨w'.heap.size, 0, none⟩) (by simp)
  simp at hc
  have HB : Hid (Below _ _ w1) := hbel
  clear hbel
  go_wp2_with (first | (go_at_call 176; refine (layOn_cell _ _ _ _ hc (by omega) (by omega)).mono ?_; rintro e w' ⟨rfl, rfl⟩) | (go_at_call 146; refine (nearest_any _ _ _ _ (by omega) (by omega) (by omega) (by omega)).mono ?_; rintro e w' ⟨rfl, rfl⟩) | (go_at_call 91; refine (clamp_any _ _).mono ?_; rintro e w' ⟨rfl, rfl⟩))
  all_goals
    go_ret2
    exact ⟨by simp [*], ((Below.refl _ _).alloc (Nat.le_refl _) _).trans (HB.out.mono (by simp))⟩
set_option maxHeartbeats 1000000 in
theorem div_far2 (a b : Int) (w : World) (hb : ¬ cl b = 0) (hd : ¬ dw a b ≤ 140737488355328) (ho : ¬ ab (cl a) / 1099511627776 < ab (cl b)) :
    Calls Tryz.prog 107 #[.int .i64 a, .int .i64 b] w fun e w' => e = .returned (.tuple #[.int .i64 (div a b), .bool (divB a b)]) ∧ Below w.heap.size w w' := by
  obtain ⟨e1, e2⟩ := div_nz (a := a) hb
  rw [e1, e2]
  clear e1 e2
  have hbz : (cl b == 0) = false := by simp [hb]
  have h1 := cl_lo a; have h2 := cl_hi a; have h3 := cl_lo b; have h4 := cl_hi b
  obtain ⟨a1, a2⟩ := ab_bd a
  obtain ⟨b1, b2⟩ := ab_bd b
  have b3 := ab_nz hb
  obtain ⟨w1, w2⟩ := dw_bd a b b3
  obtain ⟨m1, m2⟩ := dm_bd a b b3
  obtain ⟨n1, n2⟩ := near_bd 140737488355328 0 (ab (cl b))
  have n3 := (near_bd (dw a b) (dm a b) (ab (cl b))).1
  obtain ⟨e1, e2⟩ := far_same (flip (flip false (cl a)) (cl b)) (m := near (dw a b) (dm a b) (ab (cl b))) (n := near 140737488355328 0 (ab (cl b))) (by omega) (by omega)
  unfold divv ng
  rw [e1, e2]
  clear e1 e2 n3 hd
  clear hb
  go_enter Tryz.func107, Tryz.ntmps107
  go_wp2_with (first | (go_at_call 148; refine (clampBoth_any _ _ _).mono ?_; rintro e w' ⟨rfl, rfl⟩) | (go_at_call 149; refine (signs_any _).mono ?_; rintro e w' ⟨rfl, rfl⟩) | (go_at_call 175; refine (takeOff_any _ _ _ (by omega) (by omega)).mono ?_; rintro e w' ⟨rfl, rfl⟩) | (go_at_call 176; refine (layOn_any _ _ _ (by omega) (by omega)).mono ?_; rintro e w' ⟨rfl, rfl⟩) | (go_at_call 146; refine (nearest_any _ _ _ _ (by omega) (by omega) (by omega) (by omega)).mono ?_; rintro e w' ⟨rfl, rfl⟩) | (go_at_call 91; refine (clamp_any _ _).mono ?_; rintro e w' ⟨rfl, rfl⟩))
  all_goals
    go_ret2
    exact ⟨by simp [*], (Below.refl _ _).alloc (Nat.le_refl _) _⟩
theorem dw_far {a b : Int} (hb : 1 ≤ ab (cl b)) (ho : ¬ ab (cl a) / 1099511627776 < ab (cl b)) : ¬ dw a b ≤ 140737488355328 := by
  intro h
  unfold dw at h
  have h2 : ab (cl a) * 16777216 < 140737488355329 * ab (cl b) := Int.lt_mul_of_ediv_lt (by omega) (by omega)
  omega
theorem div_any (a b : Int) (w : World) :
    Calls Tryz.prog 107 #[.int .i64 a, .int .i64 b] w fun e w' => e = .returned (.tuple #[.int .i64 (div a b), .bool (divB a b)]) ∧ Below w.heap.size w w' := by
  by_cases hb : cl b = 0
  · exact div_zero a b w hb
  · by_cases ho : ab (cl a) / 1099511627776 < ab (cl b)
    · by_cases hd : dw a b ≤ 140737488355328
      · exact div_near a b w hb hd ho
      · exact div_far1 a b w hb hd ho
    · exact div_far2 a b w hb (dw_far (ab_nz hb) ho) ho
end Go.Proofs.YtoefekkdjcflmaaGreatDoor
namespace Go.Proofs.YtoefekkdjcflmaaGreatDoor.Qm
theorem pow2 (k : Nat) : (2 : Int) ^ (k + 1) = 2 ^ k + 2 ^ k := by rw [Int.pow_succ]; omega
theorem pow2_pos (k : Nat) : (1 : Int) ≤ 2 ^ k := by have : (0 : Int) < 2 ^ k := Int.pow_pos (by omega); omega
structure RootInv (N r : Int) (m : Nat) : Prop where
  lo : r * r ≤ N
  up : N < (r + 2 ^ m) * (r + 2 ^ m)
  r0 : 0 ≤ r
  rm : r % 2 ^ m = 0
  rb : r + 2 ^ m ≤ 34359738368
theorem RootInv.start {N : Int} (h0 : 0 ≤ N) (h1 : N < 1180591620717411303424) : RootInv N 0 35 :=
  ⟨by omega, by show N < (0 + 34359738368) * (0 + 34359738368); omega, by omega, rfl, by decide⟩
theorem RootInv.half {N r : Int} {m : Nat} (h : RootInv N r (m + 1)) : r % 2 ^ m = 0 := by
  have h1 := h.rm
  have hd : (2 : Int) ^ m ∣ 2 ^ (m + 1) := ⟨2, by rw [Int.pow_succ]⟩
  exact Int.emod_eq_zero_of_dvd (Int.dvd_trans hd (Int.dvd_of_emod_eq_zero h1))
theorem RootInv.yes {N r : Int} {m : Nat} (h : RootInv N r (m + 1)) (c : (r + 2 ^ m) * (r + 2 ^ m) ≤ N) : RootInv N (r + 2 ^ m) m := by
  have hp := pow2 m
  have hq := pow2_pos m
  have hm := h.half
  obtain ⟨lo, up, r0, rm, rb⟩ := h
  rw [hp] at up rb
  refine ⟨c, ?_, by omega, ?_, by omega⟩
  · rw [Int.add_assoc]; exact up
  · rw [Int.add_emod, hm, Int.emod_self]; simp
theorem RootInv.no {N r : Int} {m : Nat} (h : RootInv N r (m + 1)) (c : ¬ (r + 2 ^ m) * (r + 2 ^ m) ≤ N) : RootInv N r m := by
  have hp := pow2 m
  have hq := pow2_pos m
  have hm := h.half
  obtain ⟨lo, up, r0, rm, rb⟩ := h
  exact ⟨lo, by omega, r0, hm, by omega⟩
def rootB (N : Int) : Nat → Int → Int
  | 0, r => r
  | m + 1, r => if (r + 2 ^ m) * (r + 2 ^ m) ≤ N then rootB N m (r + 2 ^ m) else rootB N m r
def root (N : Int) : Int := rootB N 35 0
theorem rootB_inv {N : Int} : ∀ (m : Nat) (r : Int), RootInv N r m → RootInv N (rootB N m r) 0
  | 0, _, h => h
  | m + 1, r, h => by
    unfold rootB
    split
    · exact rootB_inv m _ (h.yes ‹_›)
    · exact rootB_inv m _ (h.no ‹_›)
theorem root_spec {N : Int} (h0 : 0 ≤ N) (h1 : N < 1180591620717411303424) : 0 ≤ root N ∧ root N ≤ 34359738367 ∧ root N * root N ≤ N ∧ N < (root N + 1) * (root N + 1) := by
  obtain ⟨lo, up, r0, -, rb⟩ := rootB_inv 35 0 (RootInv.start h0 h1)
  exact ⟨r0, by have : rootB N 35 0 + 1 ≤ 34359738368 := rb; show rootB N 35 0 ≤ _; omega, lo, up⟩
theorem sq_lt {a b : Int} (ha : 0 ≤ a) (hb : 0 ≤ b) (h : a * a < (b + 1) * (b + 1)) : a ≤ b := by
  by_cases c : a ≤ b
  · exact c
  · have : (b + 1) * (b + 1) ≤ a * a := Int.mul_le_mul (by omega) (by omega) (by omega) ha
    omega
theorem root_uniq {N r : Int} (h0 : 0 ≤ N) (h1 : N < 1180591620717411303424) (r0 : 0 ≤ r) (lo : r * r ≤ N) (up : N < (r + 1) * (r + 1)) : r = root N := by
  obtain ⟨s0, _, s1, s2⟩ := root_spec h0 h1
  have a := sq_lt r0 s0 (by omega)
  have b := sq_lt s0 r0 (by omega)
  omega
def sqrt (a : Int) : Int := if cl a < 0 then 0 else root (cl a * 16777216)
def sqrtB (a : Int) : Bool := if cl a < 0 then true else ob a
theorem sqrt_neg {a : Int} (h : cl a < 0) : sqrt a = 0 ∧ sqrtB a = true := by unfold sqrt sqrtB; rw [if_pos h, if_pos h]; exact ⟨rfl, rfl⟩
theorem sqrt_pos {a : Int} (h : ¬ cl a < 0) : sqrt a = root (cl a * 16777216) ∧ sqrtB a = ob a := by unfold sqrt sqrtB; rw [if_neg h, if_neg h]; exact ⟨rfl, rfl⟩
end Go.Proofs.YtoefekkdjcflmaaGreatDoor.Qm

