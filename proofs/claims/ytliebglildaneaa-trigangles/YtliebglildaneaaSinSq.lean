/-
  Plain arithmetic: how the squares grow, turn by turn.
-/
import Derived.Test.YtliebglildaneaaTrigM
import Derived.Test.YtliebglildaneaaMathF
namespace Go.Proofs.Ytliebglildaneaa.Tm

def hiT (n : Nat) : Int := [425146868776699876, 850293754733268936, 1062867210596455354, 1129296428438602997, 1146941702312825352, 1151421960517354010, 1152546413205540922, 1152827813787071615, 1152898193992684638, 1152915803002906493, 1152920218207536888, 1152921334897807042, 1152921626955542708, 1152921712854895920, 1152921747214637391, 1152921768689474774, 1152921786943086027, 1152921804391390732, 1152921821638368797, 1152921838835015201, 1152921856019078690, 1152921873199996450, 1152921890380127778, 1152921907560062498, 1152921924739948066, 1152921941919821346, 1152921959099691554, 1152921976279560994, 1152921993459430242, 1152922010639299442, 1152922027819168630].getD n 0
def loT (n : Nat) : Int := [425146868776699876, 850293720373530568, 1062867133287044026, 1129296311937615093, 1146941549631771144, 1151421772880151066, 1152546191025360154, 1152827557192909270, 1152897903023122661, 1152915477669166305, 1152919858512817282, 1152920940843006036, 1152921198540909384, 1152921250080498693, 1152921250080494900, 1152921237195592063, 1152921221089464453, 1152921204178030658, 1152921187065270320, 1152921169902178347, 1152921152726503465, 1152921135547682856, 1152921118368075815, 1152921101188272166, 1152921084008419365, 1152921066828554276, 1152921049648686115, 1152921032468817186, 1152921015288948065, 1152920998109078896, 1152920980929209715].getD n 0
theorem tabs : ∀ n : Fin 30, hiT n.val + hiT n.val / (2 ^ n.val * 2 ^ n.val) + 17179869184 ≤ hiT (n.val + 1) ∧ loT (n.val + 1) ≤ loT n.val + loT n.val / (2 ^ n.val * 2 ^ n.val) - 17179869184 ∧ hiT n.val ≤ 2305843009213693952 := by decide +kernel

theorem sub_sq (x Y : Int) : (x - Y) * (x - Y) = x * x - 2 * (x * Y) + Y * Y := by
  rw [Int.sub_mul, Int.mul_sub, Int.mul_sub, Int.mul_comm Y x]; omega
theorem add_sq (y X : Int) : (y + X) * (y + X) = y * y + 2 * (y * X) + X * X := by
  rw [Int.add_mul, Int.mul_add, Int.mul_add, Int.mul_comm X y]; omega
theorem cross {x y X Y r s d : Int} (ex : x = X * d + s) (ey : y = Y * d + r) : y * X - x * Y = r * X - s * Y := by
  have h1 : x * Y = X * Y * d + s * Y := by rw [ex, Int.add_mul, Int.mul_right_comm]
  have h2 : y * X = X * Y * d + r * X := by rw [ey, Int.add_mul, Int.mul_right_comm, Int.mul_comm Y X]
  omega

/-- a rest times a whole -/
theorem rest_bd {x X s r d N : Int} (ex : x = X * d + s) (s0 : 0 ≤ s) (s1 : s < d) (r0 : 0 ≤ r) (r1 : r < d) (x0 : -N ≤ x) (x1 : x ≤ N) (hN : 0 ≤ N) : -(N + d) ≤ r * X ∧ r * X ≤ N := by
  by_cases h : 0 ≤ X
  · have a : 0 ≤ r * X := Int.mul_nonneg r0 h
    have b : r * X ≤ d * X := Int.mul_le_mul_of_nonneg_right (by omega) h
    rw [Int.mul_comm d X] at b
    omega
  · have a : r * X ≤ 0 := Int.mul_nonpos_of_nonneg_of_nonpos r0 (by omega)
    have b : d * X ≤ r * X := Int.mul_le_mul_of_nonpos_right (by omega) (by omega)
    rw [Int.mul_comm d X] at b
    omega

/-- a whole's square, times the unit's, is the number's square, but for little -/
theorem whole_sq {x X s d N : Int} (ex : x = X * d + s) (s0 : 0 ≤ s) (s1 : s < d) (x0 : -N ≤ x) (x1 : x ≤ N) (hN : 0 ≤ N) : d * d * (X * X) ≤ x * x + 2 * (N * d) + d * d ∧ x * x - 2 * (N * d) ≤ d * d * (X * X) := by
  have e : d * d * (X * X) = (x - s) * (x - s) := by
    have : x - s = X * d := by omega
    rw [this, Int.mul_assoc X d, Int.mul_left_comm d X d, ← Int.mul_assoc X X, Int.mul_comm (d * d)]
  rw [e, sub_sq]
  have h1 : x * s ≤ N * d := by
    by_cases h : 0 ≤ x
    · exact Int.mul_le_mul x1 (by omega) s0 hN
    · have : x * s ≤ 0 := Int.mul_nonpos_of_nonpos_of_nonneg (by omega) s0
      have : 0 ≤ N * d := Int.mul_nonneg hN (by omega)
      omega
  have h2 : -(N * d) ≤ x * s := by
    by_cases h : 0 ≤ x
    · have : 0 ≤ x * s := Int.mul_nonneg h s0
      have : 0 ≤ N * d := Int.mul_nonneg hN (by omega)
      omega
    · have : -x * s ≤ N * d := Int.mul_le_mul (by omega) (by omega) s0 hN
      rw [Int.neg_mul] at this
      omega
  have h3 : 0 ≤ s * s := Int.mul_nonneg s0 s0
  have h4 : s * s ≤ d * d := Int.mul_le_mul (by omega) (by omega) s0 (by omega)
  omega

theorem of_sq {x G : Int} (h : x * x ≤ G) (hG : G ≤ 2305843009213693952) : -1518500249 ≤ x ∧ x ≤ 1518500249 := by
  constructor
  · by_cases c : -1518500249 ≤ x
    · exact c
    · have : 1518500250 * 1518500250 ≤ -x * -x := Int.mul_le_mul (by omega) (by omega) (by omega) (by omega)
      rw [Int.neg_mul_neg] at this
      omega
  · by_cases c : x ≤ 1518500249
    · exact c
    · have : 1518500250 * 1518500250 ≤ x * x := Int.mul_le_mul (by omega) (by omega) (by omega) (by omega)
      omega

/-- how much both wholes' squares come to -/
theorem wholes_bd {G W D d : Int} (hd : 1 ≤ d) (hD : D = d * d) (u : D * W ≤ G + 4 * (1518500249 * d) + 2 * D) (l : G - 4 * (1518500249 * d) ≤ D * W) : W ≤ G / D + 6074000998 ∧ G / D - 6074000997 ≤ W := by
  have hD1 : d ≤ D := by
    have := Int.mul_le_mul_of_nonneg_right hd (show 0 ≤ d by omega)
    omega
  have e := Int.emod_add_mul_ediv G D
  have m0 := Int.emod_nonneg G (show D ≠ 0 by omega)
  have m1 := Int.emod_lt_of_pos G (show 0 < D by omega)
  constructor
  · by_cases h : W ≤ G / D + 6074000998
    · exact h
    · have := Int.mul_le_mul_of_nonneg_left (show G / D + 6074000999 ≤ W by omega) (show 0 ≤ D by omega)
      rw [Int.mul_add] at this
      omega
  · by_cases h : G / D - 6074000997 ≤ W
    · exact h
    · have := Int.mul_le_mul_of_nonneg_left (show W + 6074000998 ≤ G / D by omega) (show 0 ≤ D by omega)
      rw [Int.mul_add] at this
      omega

theorem turn_sq {x y d lo hi : Int} (hd : 1 ≤ d) (hd2 : d ≤ 536870912) (l : lo ≤ x * x + y * y) (h : x * x + y * y ≤ hi) (hh : hi ≤ 2305843009213693952) :
    (lo + lo / (d * d) - 17179869184 ≤ (x - y / d) * (x - y / d) + (y + x / d) * (y + x / d) ∧ (x - y / d) * (x - y / d) + (y + x / d) * (y + x / d) ≤ hi + hi / (d * d) + 17179869184) ∧
    (lo + lo / (d * d) - 17179869184 ≤ (x + y / d) * (x + y / d) + (y - x / d) * (y - x / d) ∧ (x + y / d) * (x + y / d) + (y - x / d) * (y - x / d) ≤ hi + hi / (d * d) + 17179869184) := by
  have sx : 0 ≤ x * x := by
    rcases Int.le_total 0 x with c | c
    · exact Int.mul_nonneg c c
    · have := Int.mul_nonneg (show 0 ≤ -x by omega) (show 0 ≤ -x by omega); rw [Int.neg_mul_neg] at this; exact this
  have sy : 0 ≤ y * y := by
    rcases Int.le_total 0 y with c | c
    · exact Int.mul_nonneg c c
    · have := Int.mul_nonneg (show 0 ≤ -y by omega) (show 0 ≤ -y by omega); rw [Int.neg_mul_neg] at this; exact this
  obtain ⟨x0, x1⟩ := of_sq (show x * x ≤ hi by omega) hh
  obtain ⟨y0, y1⟩ := of_sq (show y * y ≤ hi by omega) hh
  have ex : x = x / d * d + x % d := by have := Int.emod_add_mul_ediv x d; rw [Int.mul_comm] at this; omega
  have ey : y = y / d * d + y % d := by have := Int.emod_add_mul_ediv y d; rw [Int.mul_comm] at this; omega
  have s0 := Int.emod_nonneg x (show d ≠ 0 by omega)
  have s1 := Int.emod_lt_of_pos x (show 0 < d by omega)
  have r0 := Int.emod_nonneg y (show d ≠ 0 by omega)
  have r1 := Int.emod_lt_of_pos y (show 0 < d by omega)
  have c := cross ex ey
  have b1 := rest_bd ex s0 s1 r0 r1 x0 x1 (by omega)
  have b2 := rest_bd ey r0 r1 s0 s1 y0 y1 (by omega)
  have q1 := whole_sq ex s0 s1 x0 x1 (by omega)
  have q2 := whole_sq ey r0 r1 y0 y1 (by omega)
  have W := wholes_bd (G := x * x + y * y) (W := x / d * (x / d) + y / d * (y / d)) hd rfl (by rw [Int.mul_add]; omega) (by rw [Int.mul_add]; omega)
  have g1 : lo / (d * d) ≤ (x * x + y * y) / (d * d) := Int.ediv_le_ediv (Int.mul_pos (by omega) (by omega)) l
  have g2 : (x * x + y * y) / (d * d) ≤ hi / (d * d) := Int.ediv_le_ediv (Int.mul_pos (by omega) (by omega)) h
  rw [sub_sq, add_sq, add_sq x, sub_sq y]
  omega

theorem runS_sq (z : Int) : ∀ n, n ≤ 30 → loT n ≤ (runS z n).1 * (runS z n).1 + (runS z n).2.1 * (runS z n).2.1 ∧ (runS z n).1 * (runS z n).1 + (runS z n).2.1 * (runS z n).2.1 ≤ hiT n
  | 0, _ => by
    show loT 0 ≤ 652032874 * 652032874 + 0 * 0 ∧ 652032874 * 652032874 + 0 * 0 ≤ hiT 0
    decide +kernel
  | n + 1, h => by
    obtain ⟨l, u⟩ := runS_sq z n (by omega)
    obtain ⟨t1, t2, t3⟩ := tabs ⟨n, by omega⟩
    simp only at t1 t2 t3
    have p1 : (1 : Int) ≤ 2 ^ n := by have : (0 : Int) < 2 ^ n := Int.pow_pos (by omega); omega
    have p2 : (2 : Int) ^ n ≤ 536870912 := by
      have h1 := Nat.pow_le_pow_right (n := 2) (by decide) (show n ≤ 29 by omega)
      have h3 : ((2 ^ n : Nat) : Int) ≤ ((2 ^ 29 : Nat) : Int) := by omega
      simpa using h3
    have s := turn_sq p1 p2 l u t3
    have e : runS z (n + 1) = stS n (runS z n) := rfl
    rw [e]
    unfold stS
    split
    · simp only
      omega
    · simp only
      omega

end Go.Proofs.Ytliebglildaneaa.Tm
