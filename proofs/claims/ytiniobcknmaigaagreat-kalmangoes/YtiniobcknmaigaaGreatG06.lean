/-
  Texts joined, in the order in which they stand on one another: Trans MathD Half.
-/
import Derived.Test.YtiniobcknmaigaaGreatG01
import Derived.Test.YtiniobcknmaigaaGreatG04
import Derived.Deep.QuietTactic
import Derived.BigQuiet
/-
  The contract of mat.Trans.
-/
namespace Go.Proofs.YtiniobcknmaigaaGreat
open Go.RowKit Go.Sort Qm

/-- filled, by a function that leaves old memory as it was -/
theorem fill_pure (R C : Nat) (hR : R ≤ 8) (hC : C ≤ 8) (F : Nat) (hF : ∀ (args : Array Value) (a : World), Sem.run Tryz.prog (callFunc F args) a = Result.ok (Next.enter F args) a) (caps : Array Value) (t : Nat → Int) (w : World)
    (hcall : ∀ (i j : Nat) a, i < R → j < C → Below w.heap.size w a → Calls Tryz.prog F (#[.int .i64 i, .int .i64 j] ++ caps) a (fun e b => e = .returned (.int .i64 (t (i * C + j))) ∧ Below a.heap.size a b)) :
    Calls Tryz.prog 53 #[.agg #[.int .i64 R, .int .i64 C], .func (.func F) #[] caps] w fun e b => ∃ v, e = .returned (.agg #[.int .i64 R, .int .i64 C, v]) ∧ Sees b v (tab t (R * C)) ∧ New w.heap.size v ∧ Below w.heap.size w b := by
  refine (filled_any R C hR hC F hF caps t none (fun _ a => Below w.heap.size w a) w (fun m e => by cases e) (Below.refl _ _) (fun _ a b h k => h.trans k) ?_).mono ?_
  · intro i j a hi hj hb
    refine (hcall i j a hi hj hb).mono ?_
    rintro e b ⟨rfl, bb⟩
    exact ⟨rfl, bt hb bb, gb_below _ bb⟩
  · rintro e b ⟨v, rfl, hown, hb, _⟩
    exact ⟨v, rfl, Sees.own hown, New.own hown, hb⟩

theorem enters60 : ∀ (args : Array Value) (a : World), Sem.run Tryz.prog (callFunc 56 args) a = Result.ok (Next.enter 56 args) a := by
  intro args a
  simp [callFunc, Tryz.func56, go_sem]
  rfl
namespace Qm
/-- a matrix of r rows and c columns, turned -/
def trn (r c : Nat) (xs : List Int) : List Int := tab (fun p => ge xs ((p % r) * c + p / r)) (c * r)
end Qm

theorem trans1_any (i j c : Nat) (P bk : Nat) (xs : List Int) (w : World) (hj : j ≤ 8) (hi : i < c) (hc : c ≤ 8) (hn : xs.length ≤ 64) (hx : j * c + i < xs.length) (h : AtBox w P bk c xs) :
    Calls Tryz.prog 56 #[.int .i64 i, .int .i64 j, .pointer (some ⟨P, 0, none⟩)] w fun e w' => e = .returned (.int .i64 (ge xs (j * c + i))) ∧ w' = w := by
  have k1 := h.1
  have cA := at_any j i c P bk xs w hj hi hc hn hx h
  obtain ⟨x, hx'⟩ : ∃ x, ge xs (j * c + i) = x := ⟨_, rfl⟩
  rw [hx'] at cA ⊢
  clear hx' h hx
  go_enter Tryz.func56, Tryz.ntmps56
  go_wp2_with (go_at_call 89; refine cA.mono ?_; rintro e w' ⟨rfl, rfl⟩)
  go_ret
  exact ⟨rfl, rfl⟩

theorem trans_fill (R C : Nat) (hR : R ≤ 8) (hC : C ≤ 8) (xs : List Int) (hn : xs.length = R * C) (P bk : Nat) (w : World) (hA : AtBox w P bk C xs) :
    Calls Tryz.prog 53 #[.agg #[.int .i64 C, .int .i64 R], .func (.func 56) #[] #[.pointer (some ⟨P, 0, none⟩)]] w fun e b =>
      ∃ v, e = .returned (.agg #[.int .i64 C, .int .i64 R, v]) ∧ Sees b v (trn R C xs) ∧ New w.heap.size v ∧ Below w.heap.size w b := by
  have h64 : R * C ≤ 64 := mul_le_64 hR hC
  refine fill_pure C R hC hR 56 enters60 #[.pointer (some ⟨P, 0, none⟩)] (fun p => ge xs ((p % R) * C + p / R)) w ?_
  intro i j a hi hj hb
  have e1 : (i * R + j) % R = j := mod_of hj
  have e2 : (i * R + j) / R = i := div_of hj
  simp only [e1, e2]
  refine (trans1_any i j C P bk xs a (by omega) hi hC (by omega) (by rw [hn]; exact at_lt hj hi) (hA.below hb)).mono ?_
  rintro e b ⟨rfl, rfl⟩
  exact ⟨rfl, Below.refl _ _⟩

set_option maxHeartbeats 800000 in
theorem trans_any (R C : Nat) (h1 : 1 ≤ R) (hR : R ≤ 8) (h2 : 1 ≤ C) (hC : C ≤ 8) (v : Value) (xs : List Int) (hn : xs.length = R * C) (w : World) (hs : Sees w v xs) :
    Calls Tryz.prog 21 #[.agg #[.int .i64 R, .int .i64 C, v]] w fun e b =>
      ∃ v, e = .returned (.agg #[.int .i64 C, .int .i64 R, v]) ∧ Sees b v (trn R C xs) ∧ New w.heap.size v ∧ Below w.heap.size w b := by
  obtain ⟨ao, cap, rfl⟩ := hs.slice
  have hl : laidB R C xs.length = true := laidB_mk h1 hR h2 hC hn
  have hrk := fun P bk w hA => trans_fill R C hR hC xs hn P bk w hA
  clear hn
  go_enter Tryz.func21, Tryz.ntmps21
  go_wp2_with (first
    | (go_at_call 51; refine (laid_any _ _ _ _ _ _).mono ?_; rintro e w1 ⟨rfl, b1⟩; have a1 := keep b1 (allocs2 w _ _).1; have r1 := keep b1 (allocs2 w _ _).2; have s1 := hs.below (bt (ball2 w _ _) b1); obtain ⟨c0, c1, c2, _⟩ := mat_cells a1)
    | (go_at_call 52; refine (numbers_any _ _ _ _ _ _).mono ?_; rintro e w2 ⟨rfl, rfl⟩; obtain ⟨d0, d1, d2, _⟩ := mat_cells (heap_old (heap_old a1 (.cells #[.int .i64 R, .int .i64 C, .slice ao xs.length cap] 24)) (.cells #[.func (.func 89) #[] #[.pointer (some ⟨w1.heap.size, 0, none⟩)]] 83)))
    | (go_at_call 54; refine (sizeOf_any _ _ _ _ _ _).mono ?_; rintro e w3 ⟨rfl, b3⟩; have A3 := (atbox_mk s1).below b3)
    | (go_at_call 55; refine (turned_any _ _ _).mono ?_; rintro e w5 ⟨rfl, b5⟩; have A5 := A3.below b5)
    | (go_at_call 53; have r3 := keep b5 (keep b3 (heap_old (heap_old r1 _) _)); refine (hrk _ _ _ A5).mono ?_; rintro e w4 ⟨v4, rfl, s4, n4, b4⟩; obtain ⟨ao4, cap4, rfl⟩ := s4.slice; obtain ⟨f0, f1, f2, g0, g1, g2⟩ := mat_cells (keep b4 r3)))
  refine bodyPost_ret (v := .agg #[.int .i64 C, .int .i64 R, .slice ao4 (trn R C xs).length cap4]) (by simp [results, Tryz.results21, go_sem, f0, f1, f2]) rfl ?_
  have b5' := bt (bt (bt (bt (ball2 w _ _) b1) (ball2 w1 _ _)) b3) b5
  exact ⟨_, rfl, s4.put n4 (lt_of_block r3) _ _ _, n4.mono b5'.size, below_put (bt b5' b4) (by omega) _ _ _⟩
end Go.Proofs.YtiniobcknmaigaaGreat

/-
  Plain arithmetic: numbers by powers of two.
-/
namespace Go.Proofs.YtiniobcknmaigaaGreat.Qm

/-- which power -/
def hk (b : Int) : Nat := if b < 0 then 0 else if 62 < b then 62 else b.toNat
/-- a number by a power of two, rounded -/
def half (n b : Int) : Int := near (n / 2 ^ hk b) (n % 2 ^ hk b) (2 ^ hk b)
theorem hk_mid {b : Int} (h0 : 0 ≤ b) (h1 : b ≤ 62) : hk b = b.toNat := by unfold hk; rw [if_neg (by omega), if_neg (by omega)]
theorem hk_low {b : Int} (h0 : b < 0) : hk b = 0 := by unfold hk; rw [if_pos h0]
theorem hk_high {b : Int} (h0 : 62 < b) : hk b = 62 := by unfold hk; rw [if_neg (by omega), if_pos h0]
theorem hk_le (b : Int) : hk b ≤ 62 := by unfold hk; split <;> (try split) <;> omega
theorem pow_bd (k : Nat) (h : k ≤ 62) : (1 : Int) ≤ 2 ^ k ∧ (2 : Int) ^ k ≤ 4611686018427387904 := by
  have h1 := Nat.pow_le_pow_right (n := 2) (by decide) h
  have h2 := Nat.two_pow_pos k
  have h3 : ((2 ^ k : Nat) : Int) ≤ ((2 ^ 62 : Nat) : Int) := by omega
  have h4 : ((1 : Nat) : Int) ≤ ((2 ^ k : Nat) : Int) := by omega
  exact ⟨by simpa using h4, by simpa using h3⟩
theorem ediv_bd {n d : Int} (hd : 1 ≤ d) (h0 : -9223372036854775808 ≤ n) (h1 : n ≤ 9223372036854775807) : -9223372036854775808 ≤ n / d ∧ n / d ≤ 9223372036854775807 := by
  have e := Int.emod_add_mul_ediv n d
  have m0 := Int.emod_nonneg n (show d ≠ 0 by omega)
  have m1 := Int.emod_lt_of_pos n (show 0 < d by omega)
  constructor
  · by_cases h : n / d < -9223372036854775808
    · have : d * (n / d) ≤ d * (-9223372036854775809) := Int.mul_le_mul_of_nonneg_left (by omega) (by omega)
      omega
    · omega
  · by_cases h : 9223372036854775807 < n / d
    · have : d * 9223372036854775808 ≤ d * (n / d) := Int.mul_le_mul_of_nonneg_left (by omega) (by omega)
      omega
    · omega
/-- what comes out fits into a word -/
theorem half_bd {n : Int} (k : Nat) (h0 : -9223372036854775808 ≤ n) (h1 : n ≤ 9223372036854775807) : near (n / 2 ^ k) (n % 2 ^ k) (2 ^ k) ≤ 9223372036854775807 := by
  cases k with
  | zero =>
    have : near (n / 2 ^ 0) (n % 2 ^ 0) (2 ^ 0) = n := by
      rw [near_stay] <;> simp
    omega
  | succ k =>
    have h := (near_bd (n / 2 ^ (k + 1)) (n % 2 ^ (k + 1)) (2 ^ (k + 1))).2
    have hp : (0 : Int) < 2 ^ k := Int.pow_pos (by omega)
    have e : (2 : Int) ^ (k + 1) = 2 * 2 ^ k := by rw [Int.pow_succ, Int.mul_comm]
    have h2 : n / 2 ^ (k + 1) ≤ 4611686018427387903 := by
      rw [e, ← Int.ediv_ediv_of_nonneg (by omega)]
      have h3 : n / 2 ≤ 4611686018427387903 := by omega
      by_cases hn : 0 ≤ n / 2
      · exact Int.le_trans (Int.ediv_le_self _ hn) h3
      · have : n / 2 / 2 ^ k < 0 := Int.ediv_neg_of_neg_of_pos (by omega) hp
        omega
    omega

end Go.Proofs.YtiniobcknmaigaaGreat.Qm

/-
  The contracts of qfix.Half and qfix.Round.
-/
namespace Go.Proofs.YtiniobcknmaigaaGreat
open Go.RowKit Qm

theorem wrapmod (n : Int) (k : Nat) (hk : k ≤ 62) : IntKind.u64.wrap n % 2 ^ k = n % 2 ^ k := by
  rw [IntKind.wrap_u64]
  have e : (18446744073709551616 : Int) = 2 ^ k * 2 ^ (64 - k) := by rw [← Int.pow_add, show k + (64 - k) = 64 by omega]; rfl
  exact Int.emod_emod_of_dvd _ ⟨_, e⟩
theorem wrap_bd (n : Int) : 0 ≤ IntKind.u64.wrap n ∧ IntKind.u64.wrap n ≤ 18446744073709551615 := by rw [IntKind.wrap_u64]; omega

theorem below0_any (x : Int) (w : World) (hx0 : 0 ≤ x) (hx : x ≤ 18446744073709551615) :
    Calls Tryz.prog 97 #[.int .u64 x, .int .i64 0] w fun e w' => e = .returned (.int .u64 0) ∧ w' = w := by
  have h := below_any x 0 w hx0 hx (by omega) (by omega)
  simpa only [Int.toNat_zero, Int.pow_zero, Int.emod_one] using h
theorem below62_any (x : Int) (w : World) (hx0 : 0 ≤ x) (hx : x ≤ 18446744073709551615) :
    Calls Tryz.prog 97 #[.int .u64 x, .int .i64 62] w fun e w' => e = .returned (.int .u64 (x % 4611686018427387904)) ∧ w' = w := below_any x 62 w hx0 hx (by omega) (by omega)

set_option maxHeartbeats 1000000 in
theorem half_mid (n b : Int) (w : World) (n0 : -9223372036854775808 ≤ n) (n1 : n ≤ 9223372036854775807) (h0 : 0 ≤ b) (h1 : b ≤ 62) :
    Calls Tryz.prog 92 #[.int .i64 n, .int .i64 b] w fun e w' => e = .returned (.int .i64 (half n b)) ∧ ∃ m, w' = w.drewN m := by
  obtain ⟨k, rfl⟩ := Int.eq_ofNat_of_zero_le h0
  have hk : k ≤ 62 := by omega
  unfold half
  rw [hk_mid h0 h1, Int.toNat_natCast]
  obtain ⟨p1, p2⟩ := pow_bd k hk
  obtain ⟨d1, d2⟩ := ediv_bd p1 n0 n1
  have m1 := Int.emod_nonneg n (show (2 : Int) ^ k ≠ 0 by omega)
  have m2 := Int.emod_lt_of_pos n (show (0 : Int) < 2 ^ k by omega)
  have hb := half_bd k n0 n1
  have hwm := wrapmod n k hk
  obtain ⟨u1, u2⟩ := wrap_bd n
  obtain ⟨u, hu⟩ : ∃ u, IntKind.u64.wrap n = u := ⟨_, rfl⟩
  rw [hu] at hwm u1 u2
  go_enter Tryz.func92, Tryz.ntmps92
  go_wp2
  go_quiet ((first | (go_at_call 97; exact Calls.quiet_of_same (below_any _ _ _ (by omega) (by omega) (by omega) (by omega))) | (go_at_call 96; exact Calls.quiet_of_same (nearest_any _ _ _ _ (by omega) (by omega) (by omega) (by omega)))))
  go_wp2
  go_ret
  exact ⟨rfl, _, rfl⟩

set_option maxHeartbeats 1000000 in
theorem half_low (n b : Int) (w : World) (n0 : -9223372036854775808 ≤ n) (n1 : n ≤ 9223372036854775807) (h0 : b < 0) :
    Calls Tryz.prog 92 #[.int .i64 n, .int .i64 b] w fun e w' => e = .returned (.int .i64 (half n b)) ∧ ∃ m, w' = w.drewN m := by
  unfold half
  rw [hk_low h0]
  have hb := half_bd 0 n0 n1
  simp only [Int.pow_zero, Int.ediv_one, Int.emod_one] at hb ⊢
  obtain ⟨u1, u2⟩ := wrap_bd n
  obtain ⟨u, hu⟩ : ∃ u, IntKind.u64.wrap n = u := ⟨_, rfl⟩
  rw [hu] at u1 u2
  go_enter Tryz.func92, Tryz.ntmps92
  go_wp2
  go_quiet ((first | (go_at_call 97; exact Calls.quiet_of_same (below0_any _ _ (by omega) (by omega))) | (go_at_call 96; exact Calls.quiet_of_same (nearest_any _ _ _ _ (by omega) (by omega) (by omega) (by omega)))))
  go_wp2
  go_ret
  exact ⟨rfl, _, rfl⟩

set_option maxHeartbeats 1000000 in
theorem half_high (n b : Int) (w : World) (n0 : -9223372036854775808 ≤ n) (n1 : n ≤ 9223372036854775807) (h0 : 62 < b) :
    Calls Tryz.prog 92 #[.int .i64 n, .int .i64 b] w fun e w' => e = .returned (.int .i64 (half n b)) ∧ ∃ m, w' = w.drewN m := by
  unfold half
  rw [hk_high h0]
  have e62 : (2 : Int) ^ 62 = 4611686018427387904 := rfl
  have hb := half_bd 62 n0 n1
  have hwm := wrapmod n 62 (by omega)
  rw [e62] at hb hwm ⊢
  obtain ⟨u1, u2⟩ := wrap_bd n
  obtain ⟨u, hu⟩ : ∃ u, IntKind.u64.wrap n = u := ⟨_, rfl⟩
  rw [hu] at hwm u1 u2
  clear e62
  go_enter Tryz.func92, Tryz.ntmps92
  go_wp2
  go_quiet ((first | (go_at_call 97; exact Calls.quiet_of_same (below62_any _ _ (by omega) (by omega))) | (go_at_call 96; exact Calls.quiet_of_same (nearest_any _ _ _ _ (by omega) (by omega) (by omega) (by omega)))))
  go_wp2
  go_ret
  exact ⟨rfl, _, rfl⟩

/-- qfix.Half: it only reads, and may draw -/
theorem half_drew (n b : Int) (w : World) (n0 : -9223372036854775808 ≤ n) (n1 : n ≤ 9223372036854775807) :
    Calls Tryz.prog 92 #[.int .i64 n, .int .i64 b] w fun e w' => e = .returned (.int .i64 (half n b)) ∧ ∃ m, w' = w.drewN m := by
  by_cases h : b < 0
  · exact half_low n b w n0 n1 h
  · by_cases h2 : 62 < b
    · exact half_high n b w n0 n1 h2
    · exact half_mid n b w n0 n1 (by omega) (by omega)
/-- qfix.Half -/
theorem half_any (n b : Int) (w : World) (n0 : -9223372036854775808 ≤ n) (n1 : n ≤ 9223372036854775807) :
    Calls Tryz.prog 92 #[.int .i64 n, .int .i64 b] w fun e w' => e = .returned (.int .i64 (half n b)) ∧ Below w.heap.size w w' := by
  refine (half_drew n b w n0 n1).mono ?_
  rintro e w' ⟨rfl, m, rfl⟩
  exact ⟨rfl, below_drewN (Below.refl _ _) _⟩

end Go.Proofs.YtiniobcknmaigaaGreat
