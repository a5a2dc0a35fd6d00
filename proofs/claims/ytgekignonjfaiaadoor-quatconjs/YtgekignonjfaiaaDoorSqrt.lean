/-
  The contract of qfix.Sqrt.
-/
import Derived.Test.YtgekignonjfaiaaDoorMul
import Derived.Test.YtgekignonjfaiaaDoorMathE
namespace Go.Proofs.YtgekignonjfaiaaDoor
open Go.RowKit Qm

theorem le_words (x n : Int) : x ≤ n ↔ (hi64 x < hi64 n ∨ (hi64 x = hi64 n ∧ lo64 x ≤ lo64 n)) := by unfold hi64 lo64; omega
theorem words (a : Int) : hi64 (a * 16777216) = a / 1099511627776 ∧ lo64 (a * 16777216) = IntKind.u64.wrap (a * 16777216) := by
  unfold hi64 lo64; rw [IntKind.wrap_u64]; omega

set_option maxHeartbeats 400000 in
theorem sqrt_below (a : Int) (w : World) (h : cl a < 0) :
    Calls Tryd.prog 33 #[.int .i64 a] w fun e w' => e = .returned (.tuple #[.int .i64 (sqrt a), .bool (sqrtB a)]) ∧ w' = w := by
  obtain ⟨e1, e2⟩ := sqrt_neg h
  rw [e1, e2]
  clear e1 e2
  go_enter Tryd.func33, Tryd.ntmps33
  go_wp2_with (go_at_call 41; refine (clamp_any _ _).mono ?_; rintro e w' ⟨rfl, rfl⟩)
  go_ret2
  exact ⟨rfl, rfl⟩

set_option maxHeartbeats 2000000 in
theorem sqrt_rest (a : Int) (w : World) (h : ¬ cl a < 0) :
    Calls Tryd.prog 33 #[.int .i64 a] w fun e w' => e = .returned (.tuple #[.int .i64 (sqrt a), .bool (sqrtB a)]) ∧ w' = w := by
  obtain ⟨e1, e2⟩ := sqrt_pos h
  rw [e1, e2]
  clear e1 e2
  have h1 := cl_hi a
  obtain ⟨z1, z2⟩ := words (cl a)
  obtain ⟨N, hN⟩ : ∃ N, cl a * 16777216 = N := ⟨_, rfl⟩
  have n0 : 0 ≤ N := by omega
  have n1 : N < 1180591620717411303424 := by omega
  rw [hN] at z1 z2 ⊢
  obtain ⟨l1, l2⟩ := lo64_bd N
  obtain ⟨i1, i2⟩ := hi64_bd n0 (by omega)
  have z1' := z1.symm
  have z2' := z2.symm
  clear z1 z2
  obtain ⟨hN64, e64⟩ : ∃ x, hi64 N = x := ⟨_, rfl⟩
  obtain ⟨lN64, f64⟩ : ∃ x, lo64 N = x := ⟨_, rfl⟩
  have E1 : Hid (hi64 N = hN64) := e64
  have E2 : Hid (lo64 N = lN64) := f64
  rw [e64] at z1' i1 i2
  rw [f64] at z2' l1 l2
  have HN : Hid (cl a * 16777216 = N) := hN
  clear e64 f64
  go_enter Tryd.func33, Tryd.ntmps33
  go_wp2_with (go_at_call 41; refine (clamp_any _ _).mono ?_; rintro e w' ⟨rfl, rfl⟩)
  go_loop [7, 25] (fun x i => ∃ (m : Nat) (r : Int), m ≤ 35 ∧ Hid (RootInv N r m) ∧ x = .int .u64 r ∧ i = .int .i64 (35 - (m : Int))) (fun _ i => (35 - intOf i).toNat)
  case atStart => exact ⟨35, 0, by omega, RootInv.start n0 n1, rfl, rfl⟩
  case round =>
    obtain ⟨m, r, hm, hi, rfl, rfl⟩ := hrel
    cases m with
    | zero =>
      obtain ⟨lo, up, r0, -, rb⟩ := hi.out
      have hr : r = root N := root_uniq n0 n1 r0 lo up
      have rb' : r ≤ 34359738368 := by have : (2 : Int) ^ 0 = 1 := rfl; omega
      clear lo up rb
      have HR : Hid (r = root N) := hr
      clear hr
      go_wp2
      go_ret2
      exact ⟨by rw [← HR.out]; rfl, rfl⟩
    | succ m =>
      have hi' := hi.out
      have q0 := pow2_pos m
      have qq := pow2 m
      have rr := hi'.half
      have rb := hi'.rb
      have r0 := hi'.r0
      have rm := hi'.rm
      have hor : bits BinOp.or IntKind.u64 r (2 ^ m) = r + 2 ^ m := bits_join .u64 64 (by decide) (fun n h0 h1 => by rw [IntKind.wrap_u64]; omega) (m + 1) r (2 ^ m) r0 rm (by omega) (by omega) (by omega) (by omega)
      rw [qq] at rb
      clear qq rr rm hi'
      obtain ⟨p, hp⟩ : ∃ p : Int, (2 : Int) ^ m = p := ⟨_, rfl⟩
      rw [hp] at hor q0 rb
      obtain ⟨x, hx⟩ : ∃ x, r + p = x := ⟨_, rfl⟩
      rw [hx] at hor
      have x0 : 0 ≤ x := by omega
      have x1 : x ≤ 34359738368 := by omega
      have HX : Hid (r + p = x) := hx
      clear hx
      have hp2 : (2 : Int) ^ (34 - (34 - m)) = p := by rw [show 34 - (34 - m) = m by omega]; exact hp
      have hle := le_words (x * x) N
      rw [E1.out, E2.out] at hle
      have LE : Hid (x * x ≤ N ↔ (hi64 (x * x) < hN64 ∨ (hi64 (x * x) = hN64 ∧ lo64 (x * x) ≤ lN64))) := hle
      clear hle
      by_cases c1 : hi64 (x * x) < hN64
      · have c : x * x ≤ N := LE.out.2 (Or.inl c1)
        have HI : Hid (RootInv N (r + 2 ^ m) m) := hi.out.yes (by rw [hp, HX.out]; exact c)
        rw [hp, HX.out] at HI
        clear c
        go_wp2_with (go_at_call 50; refine (mul64_any _ _ _ (by omega) (by omega) (by omega) (by omega)).mono ?_; rintro e w' ⟨rfl, rfl⟩)
        go_round
        case rel => exact ⟨m, x, by omega, HI, rfl, by go_num⟩
        case measure => simp [intOf]; omega
      · by_cases c2 : hi64 (x * x) = hN64
        · have c2' : (hi64 (x * x) == hN64) = true := by simp [c2]
          by_cases c3 : lo64 (x * x) ≤ lN64
          · have c : x * x ≤ N := LE.out.2 (Or.inr ⟨c2, c3⟩)
            have HI : Hid (RootInv N (r + 2 ^ m) m) := hi.out.yes (by rw [hp, HX.out]; exact c)
            rw [hp, HX.out] at HI
            clear c c2
            go_wp2_with (go_at_call 50; refine (mul64_any _ _ _ (by omega) (by omega) (by omega) (by omega)).mono ?_; rintro e w' ⟨rfl, rfl⟩)
            go_round
            case rel => exact ⟨m, x, by omega, HI, rfl, by go_num⟩
            case measure => simp [intOf]; omega
          · have c : ¬ x * x ≤ N := by rw [LE.out]; omega
            have HI : Hid (RootInv N r m) := hi.out.no (by rw [hp, HX.out]; exact c)
            clear c c2
            go_wp2_with (go_at_call 50; refine (mul64_any _ _ _ (by omega) (by omega) (by omega) (by omega)).mono ?_; rintro e w' ⟨rfl, rfl⟩)
            go_round
            case rel => exact ⟨m, r, by omega, HI, rfl, by go_num⟩
            case measure => simp [intOf]; omega
        · have c2' : (hi64 (x * x) == hN64) = false := by simp [c2]
          have c : ¬ x * x ≤ N := by rw [LE.out]; omega
          have HI : Hid (RootInv N r m) := hi.out.no (by rw [hp, HX.out]; exact c)
          clear c c2
          go_wp2_with (go_at_call 50; refine (mul64_any _ _ _ (by omega) (by omega) (by omega) (by omega)).mono ?_; rintro e w' ⟨rfl, rfl⟩)
          go_round
          case rel => exact ⟨m, r, by omega, HI, rfl, by go_num⟩
          case measure => simp [intOf]; omega

/-- qfix.Sqrt -/
theorem sqrt_any (a : Int) (w : World) :
    Calls Tryd.prog 33 #[.int .i64 a] w fun e w' => e = .returned (.tuple #[.int .i64 (sqrt a), .bool (sqrtB a)]) ∧ w' = w := by
  by_cases h : cl a < 0
  · exact sqrt_below a w h
  · exact sqrt_rest a w h
end Go.Proofs.YtgekignonjfaiaaDoor
