/-
  Texts joined, in the order in which they stand on one another: MathF MathG FactS.
-/
import Derived.Test.YtiniobcknmaigaaGreatG06
import Derived.Test.YtiniobcknmaigaaGreatG14
import Derived.Test.YtiniobcknmaigaaGreatG17
import Derived.Test.YtiniobcknmaigaaGreatG19
/-
  Plain arithmetic: what follows of numbers by powers of two.
-/
namespace Go.Proofs.YtiniobcknmaigaaGreat.Qm

/-- rounded, times the unit, it is off by half a unit at most -/
theorem near_err (n d : Int) (hd : 1 ≤ d) : 2 * (near (n / d) (n % d) d * d - n) ≤ d ∧ -d ≤ 2 * (near (n / d) (n % d) d * d - n) := by
  have e := Int.emod_add_mul_ediv n d
  have m0 := Int.emod_nonneg n (show d ≠ 0 by omega)
  have m1 := Int.emod_lt_of_pos n (show 0 < d by omega)
  rw [Int.mul_comm d] at e
  unfold near
  split
  · rw [Int.add_mul, Int.one_mul]; omega
  · omega
theorem half_err (n : Int) (k : Nat) (hk : k ≤ 62) : 2 * (half n k * 2 ^ k - n) ≤ 2 ^ k ∧ -2 ^ k ≤ 2 * (half n k * 2 ^ k - n) := by
  unfold half
  rw [hk_mid (by omega) (by omega), Int.toNat_natCast]
  exact near_err n (2 ^ k) (pow_bd k hk).1
theorem half_zero (n : Int) : half n 0 = n := by
  unfold half
  rw [hk_mid (by omega) (by omega)]
  have : near (n / 1) (n % 1) 1 = n := by rw [near_stay] <;> simp
  exact this
theorem near_twice (q r d : Int) : near q (2 * r) (2 * d) = near q r d := by
  unfold near
  by_cases h : d < 2 * r ∨ (2 * r = d ∧ q % 2 = 1)
  · rw [if_pos h, if_pos (by omega)]
  · rw [if_neg h, if_neg (by omega)]
theorem half_twice (m : Int) (k : Nat) (hk : k ≤ 60) : half m k = half (2 * m) (k + 1) := by
  unfold half
  rw [hk_mid (by omega) (by omega), hk_mid (by omega) (by omega), Int.toNat_natCast, show ((k : Int) + 1).toNat = k + 1 by omega]
  have hp : (0 : Int) < 2 ^ k := Int.pow_pos (by omega)
  have e : (2 : Int) ^ (k + 1) = 2 * 2 ^ k := by rw [Int.pow_succ, Int.mul_comm]
  rw [e, Int.mul_ediv_mul_of_pos _ _ (by omega), Int.mul_emod_mul_of_pos _ _ (by omega), near_twice]

end Go.Proofs.YtiniobcknmaigaaGreat.Qm

/-
  Plain arithmetic: what follows of sums, products, quotients and roots: orders, signs, bounds, how near.
-/
namespace Go.Proofs.YtiniobcknmaigaaGreat.Qm

theorem ob2_comm (a b : Int) : ob2 b a = ob2 a b := by unfold ob2; exact Bool.or_comm _ _
theorem add_comm' (a b : Int) : add b a = add a b := by unfold add; rw [Int.add_comm]
theorem addB_comm (a b : Int) : addB b a = addB a b := by unfold addB; rw [Int.add_comm, ob2_comm]
theorem pr_comm (a b : Int) : pr b a = pr a b := Int.mul_comm _ _
theorem ng_comm (a b : Int) : ng b a = ng a b := by
  unfold ng
  by_cases h1 : cl a < 0 <;> by_cases h2 : cl b < 0 <;> simp [flip, h1, h2]
theorem mulv_comm (a b : Int) : mulv b a = mulv a b := by unfold mulv; rw [pr_comm, ng_comm]
theorem mul_comm' (a b : Int) : mul b a = mul a b := by unfold mul; rw [mulv_comm]
theorem mulB_comm (a b : Int) : mulB b a = mulB a b := by unfold mulB; rw [mulv_comm, ob2_comm]

theorem ob_out {a : Int} (h : ob a = false) : -70368744177664 ≤ a ∧ a ≤ 70368744177663 := by
  unfold ob at h
  simp at h
  omega

/-- rounded, of a whole number of units -/
theorem near_whole (q d : Int) (hd : 1 ≤ d) : near (q * d / d) (q * d % d) d = q := by
  rw [Int.mul_ediv_cancel _ (by omega), Int.mul_emod_left, near_stay (by omega)]
theorem flip_flip (s : Bool) {n : Int} (h : ¬ n < 0) : flip s n = s := flip_pos h
theorem sg_ab (a : Int) : sg (flip false a) (ab a) = a := by
  by_cases h : a < 0
  · rw [flip_neg h, ab_neg h]; exact Int.neg_neg a
  · rw [flip_pos h, ab_pos h]; rfl
theorem cl_one : cl 16777216 = 16777216 := by decide
theorem mul_one' {a : Int} (h1 : -70368744177664 ≤ a) (h2 : a ≤ 70368744177663) : mul a 16777216 = a ∧ mulB a 16777216 = false := by
  have e : mulv a 16777216 = a := by
    unfold mulv ng pr
    rw [cl_one, cl_in h1 h2, flip_pos (n := 16777216) (by omega), ab_pos (a := 16777216) (by omega), near_whole _ _ (by omega), sg_ab]
  have o : ob2 a 16777216 = false := by unfold ob2; rw [ob_in h1 h2, ob_in (by omega) (by omega)]; rfl
  unfold mul mulB
  rw [e, cl_in h1 h2, ob_in h1 h2, o]
  exact ⟨rfl, rfl⟩
theorem div_one' {a : Int} (h1 : -70368744177664 ≤ a) (h2 : a ≤ 70368744177663) : div a 16777216 = a ∧ divB a 16777216 = false := by
  obtain ⟨d1, d2⟩ := div_nz (a := a) (b := 16777216) (by rw [cl_one]; omega)
  have e : divv a 16777216 = a := by
    unfold divv ng dw dm
    rw [cl_one, cl_in h1 h2, flip_pos (n := 16777216) (by omega), ab_pos (a := 16777216) (by omega), near_whole _ _ (by omega), sg_ab]
  have o : ob2 a 16777216 = false := by unfold ob2; rw [ob_in h1 h2, ob_in (by omega) (by omega)]; rfl
  rw [d1, d2, e, cl_in h1 h2, ob_in h1 h2, o]
  exact ⟨rfl, rfl⟩
theorem sub_self' {a : Int} (h1 : -70368744177664 ≤ a) (h2 : a ≤ 70368744177663) : sub a a = 0 ∧ subB a a = false := by
  have o : ob2 a a = false := by unfold ob2; rw [ob_in h1 h2]; rfl
  unfold sub subB
  rw [Int.sub_self, o]
  exact ⟨by decide, by decide⟩

/-! ### signs -/
theorem ab_minus (a : Int) : ab (0 - a) = ab a := by unfold ab; split <;> split <;> omega
theorem near_zero (d : Int) (hd : 1 ≤ d) : near (0 / d) (0 % d) d = 0 := by rw [Int.zero_ediv, Int.zero_emod, near_stay (by omega)]
theorem sg_not (s : Bool) (n : Int) : sg (!s) n = -sg s n := by cases s <;> simp [sg]
theorem flip_not (s : Bool) (n : Int) : flip (!s) n = !(flip s n) := by unfold flip; split <;> simp
/-- turned round, the sign turns, or there is nothing to turn -/
theorem flip_minus {a : Int} (h : ¬ a = 0) : flip false (0 - a) = !(flip false a) := by
  by_cases h1 : a < 0
  · rw [flip_neg h1, flip_pos (by omega)]; rfl
  · rw [flip_pos h1, flip_neg (by omega)]
theorem mulv_minus {a b : Int} (h1 : -70368744177664 < a) (h2 : a ≤ 70368744177663) : mulv (0 - a) b = -mulv a b := by
  unfold mulv ng pr
  rw [cl_in (a := 0 - a) (by omega) (by omega), cl_in (a := a) (by omega) h2, ab_minus]
  by_cases h : a = 0
  · subst h
    rw [show ab 0 = 0 from rfl, Int.zero_mul, near_zero _ (by omega)]
    unfold sg
    split <;> split <;> rfl
  · rw [flip_minus h, flip_not, sg_not]
theorem divv_minus {a b : Int} (hb : 1 ≤ ab (cl b)) (h1 : -70368744177664 < a) (h2 : a ≤ 70368744177663) : divv (0 - a) b = -divv a b := by
  unfold divv ng dw dm
  rw [cl_in (a := 0 - a) (by omega) (by omega), cl_in (a := a) (by omega) h2, ab_minus]
  by_cases h : a = 0
  · subst h
    rw [show ab 0 = 0 from rfl, Int.zero_mul, near_zero _ hb]
    unfold sg
    split <;> split <;> rfl
  · rw [flip_minus h, flip_not, sg_not]
theorem mul_signs {a b : Int} (h1 : -70368744177664 < a) (h2 : a ≤ 70368744177663) (x : mulB a b = false) (y : mulB (0 - a) b = false) : mul (0 - a) b = 0 - mul a b := by
  unfold mulB at x y
  simp only [Bool.or_eq_false_iff] at x y
  have c := ob_out x.2
  have d := ob_out y.2
  unfold mul
  rw [cl_in c.1 c.2, cl_in d.1 d.2, mulv_minus h1 h2]
  omega
theorem div_signs {a b : Int} (h1 : -70368744177664 < a) (h2 : a ≤ 70368744177663) (x : divB a b = false) (y : divB (0 - a) b = false) : div (0 - a) b = 0 - div a b := by
  by_cases hb : cl b = 0
  · rw [(div_z hb).2] at x
    exact absurd x (by decide)
  · obtain ⟨d1, d2⟩ := div_nz (a := a) hb
    obtain ⟨e1, e2⟩ := div_nz (a := 0 - a) hb
    rw [d2] at x
    rw [e2] at y
    simp only [Bool.or_eq_false_iff] at x y
    have c := ob_out x.2
    have d := ob_out y.2
    rw [d1, e1, cl_in c.1 c.2, cl_in d.1 d.2, divv_minus (ab_nz hb) h1 h2]
    omega
theorem add_signs {a b : Int} (h1 : -70368744177664 < a) (h2 : a ≤ 70368744177663) (h3 : -70368744177664 < b) (h4 : b ≤ 70368744177663) (x : addB a b = false) (y : addB (0 - a) (0 - b) = false) : add (0 - a) (0 - b) = 0 - add a b := by
  unfold addB at x y
  simp only [Bool.or_eq_false_iff] at x y
  have c := ob_out x.2
  have d := ob_out y.2
  unfold add
  rw [cl_in c.1 c.2, cl_in d.1 d.2, cl_in (a := 0 - a) (by omega) (by omega), cl_in (a := 0 - b) (by omega) (by omega), cl_in (a := a) (by omega) h2, cl_in (a := b) (by omega) h4]
  omega

/-! ### bounds -/
theorem div_bd (a b : Int) : -70368744177664 ≤ div a b ∧ div a b ≤ 70368744177663 := by
  by_cases hb : cl b = 0
  · rw [(div_z hb).1]; unfold none0; split <;> (try split) <;> omega
  · rw [(div_nz hb).1]; exact cl_bd _
theorem sqrt_bd (a : Int) : 0 ≤ sqrt a ∧ sqrt a ≤ 34359738367 := by
  by_cases h : cl a < 0
  · rw [(sqrt_neg h).1]; omega
  · rw [(sqrt_pos h).1]
    have h1 := cl_hi a
    obtain ⟨r0, r1, _, _⟩ := root_spec (N := cl a * 16777216) (by omega) (by omega)
    exact ⟨r0, r1⟩

end Go.Proofs.YtiniobcknmaigaaGreat.Qm

/-
  What follows of sums and multiples of right matrices.
-/
namespace Go.Proofs.YtiniobcknmaigaaGreat
open Go.RowKit Go.Sort Qm

namespace Qm
theorem add_none {a : Int} (h1 : -70368744177664 ≤ a) (h2 : a ≤ 70368744177663) : add a 0 = a ∧ addB a 0 = false := by
  unfold add addB ob2
  rw [cl_in h1 h2, cl_in (a := 0) (by omega) (by omega), Int.add_zero, ob_in h1 h2, ob_in (a := 0) (by omega) (by omega)]
  exact ⟨cl_in h1 h2, rfl⟩
theorem mul_none {a : Int} (h1 : -70368744177664 ≤ a) (h2 : a ≤ 70368744177663) : mul a 0 = 0 ∧ mulB a 0 = false := by
  have hv : mulv a 0 = 0 := by
    unfold mulv
    have hp : pr a 0 = 0 := by unfold pr; have : ab (cl 0) = 0 := by decide
                               rw [this, Int.mul_zero]
    rw [hp]
    have hn : near (0 / 16777216) (0 % 16777216) 16777216 = 0 := by decide
    rw [hn]
    unfold sg; split <;> rfl
  unfold mul mulB ob2
  rw [hv, ob_in h1 h2]
  exact ⟨by decide, by decide⟩
theorem pai_comm (xs ys : List Int) (h : xs.length = ys.length) : pai add ys xs = pai add xs ys ∧ paiB addB ys xs = paiB addB xs ys := by
  unfold pai paiB
  rw [h]
  exact ⟨tab_congr fun k _ => add_comm' _ _, anyB_congr fun k _ => addB_comm _ _⟩
theorem pai_self {xs : List Int} (h : AllIn xs) : pai sub xs xs = tab (fun _ => 0) xs.length ∧ paiB subB xs xs = false :=
  ⟨tab_congr fun k _ => (sub_self' (h k).1 (h k).2).1, anyB_none fun k _ => (sub_self' (h k).1 (h k).2).2⟩
theorem pai_none {xs : List Int} (h : AllIn xs) : pai add xs (tab (fun _ => 0) xs.length) = xs ∧ paiB addB xs (tab (fun _ => 0) xs.length) = false := by
  unfold pai paiB
  refine ⟨tab_ge rfl fun k hk => ?_, anyB_none fun k hk => ?_⟩
  · rw [ge_tab hk]; exact (add_none (h k).1 (h k).2).1
  · rw [ge_tab hk]; exact (add_none (h k).1 (h k).2).2
theorem scl_one {xs : List Int} (h : AllIn xs) : scl xs 16777216 = xs ∧ sclB xs 16777216 = false :=
  ⟨tab_ge rfl fun k _ => (mul_one' (h k).1 (h k).2).1, anyB_none fun k _ => (mul_one' (h k).1 (h k).2).2⟩
theorem scl_none {xs : List Int} (h : AllIn xs) : scl xs 0 = tab (fun _ => 0) xs.length ∧ sclB xs 0 = false :=
  ⟨tab_congr fun k _ => (mul_none (h k).1 (h k).2).1, anyB_none fun k _ => (mul_none (h k).1 (h k).2).2⟩
end Qm

theorem sums_facts {ra ca : Int} {xs ys : List Int} {R C R' C' : Nat} (ha : IsRight ra ca xs R C) (hb : IsRight ra ca ys R' C') :
    xs.length = ys.length ∧ ∃ zs o, zs.length ≤ 64 ∧ Tells2 58 ra ca xs ra ca ys ra ca zs o 0 ∧ Tells2 58 ra ca ys ra ca xs ra ca zs o 0 ∧
      Tells2 104 ra ca xs ra ca xs ra ca (tab (fun _ => 0) xs.length) false 0 ∧ Tells2 58 ra ca xs ra ca (tab (fun _ => 0) xs.length) ra ca xs false 0 := by
  have e1 : R' = R := by have h1 := ha.hr; have h2 := hb.hr; omega
  have e2 : C' = C := by have h1 := ha.hc; have h2 := hb.hc; omega
  subst e1; subst e2
  obtain ⟨rfl, rfl, h1, h2, h3, h4, h5, hi⟩ := ha
  have h6 := hb.len
  have hl : xs.length = ys.length := by omega
  have hc := pai_comm xs ys hl
  have hs := pai_self hi
  have hn := pai_none hi
  have hz : (tab (fun _ => (0 : Int)) xs.length).length = R' * C' := by rw [tab_len]; exact h5
  refine ⟨hl, pai add xs ys, paiB addB xs ys, by rw [pai_len, h5]; exact mul_le_64 h2 h4, ?_, ?_, ?_, ?_⟩
  · exact fun w va vb sa sb => (add_mat R' C' h1 h2 h3 h4 va vb xs ys h5 h6 w sa sb).mono fun _ _ ⟨v, x, y, _, z⟩ => ⟨v, x, y, z⟩
  · intro w va vb sa sb
    have := add_mat R' C' h1 h2 h3 h4 va vb ys xs h6 h5 w sa sb
    rw [hc.1, hc.2] at this
    exact this.mono fun _ _ ⟨v, x, y, _, z⟩ => ⟨v, x, y, z⟩
  · intro w va vb sa sb
    have := sub_mat R' C' h1 h2 h3 h4 va vb xs xs h5 h5 w sa sb
    rw [hs.1, hs.2] at this
    exact this.mono fun _ _ ⟨v, x, y, _, z⟩ => ⟨v, x, y, z⟩
  · intro w va vb sa sb
    have := add_mat R' C' h1 h2 h3 h4 va vb xs (tab (fun _ => 0) xs.length) h5 hz w sa sb
    rw [hn.1, hn.2] at this
    exact this.mono fun _ _ ⟨v, x, y, _, z⟩ => ⟨v, x, y, z⟩

/-- a call of a matrix and a number -/
def TellsK (f : Nat) (ra ca : Int) (xs : List Int) (k : Int) (r c : Int) (zs : List Int) (o : Bool) : Prop :=
  ∀ w va, Sees w va xs → Calls Tryz.prog f #[.agg #[.int .i64 ra, .int .i64 ca, va], .int .i64 k] w fun e' b =>
    ∃ v, e' = .returned (.tuple #[.agg #[.int .i64 r, .int .i64 c, v], .bool o]) ∧ Sees b v zs ∧ Below w.heap.size w b
theorem scl_len (xs : List Int) (k : Int) : (scl xs k).length = xs.length := tab_len _ _
theorem scales_facts {ra ca : Int} {xs : List Int} {R C : Nat} (ha : IsRight ra ca xs R C) (k : Int) :
    TellsK 101 ra ca xs 16777216 ra ca xs false ∧ TellsK 101 ra ca xs 0 ra ca (tab (fun _ => 0) xs.length) false ∧ TellsK 101 ra ca xs k ra ca (scl xs k) (sclB xs k) ∧ TellsK 34 ra ca xs k ra ca (scl xs k) (sclB xs k) := by
  obtain ⟨rfl, rfl, h1, h2, h3, h4, h5, hi⟩ := ha
  have g1 := scl_one hi
  have g0 := scl_none hi
  refine ⟨?_, ?_, ?_, ?_⟩
  · intro w va sa
    have := scale_any R C h1 h2 h3 h4 16777216 va xs h5 w sa
    rw [g1.1, g1.2] at this
    exact this.mono fun _ _ ⟨v, x, y, _, z⟩ => ⟨v, x, y, z⟩
  · intro w va sa
    have := scale_any R C h1 h2 h3 h4 0 va xs h5 w sa
    rw [g0.1, g0.2] at this
    exact this.mono fun _ _ ⟨v, x, y, _, z⟩ => ⟨v, x, y, z⟩
  · exact fun w va sa => (scale_any R C h1 h2 h3 h4 k va xs h5 w sa).mono fun _ _ ⟨v, x, y, _, z⟩ => ⟨v, x, y, z⟩
  · exact fun w va sa => (rscale_any R C h1 h2 h3 h4 k va xs h5 w sa).mono fun _ _ ⟨v, x, y, _, z⟩ => ⟨v, x, y, z⟩
end Go.Proofs.YtiniobcknmaigaaGreat
