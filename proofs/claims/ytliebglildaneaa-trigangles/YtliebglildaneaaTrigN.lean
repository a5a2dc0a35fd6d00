/-
  Plain arithmetic: bounds on the way of a turning; what the sine and the cosine come to.
-/
import Derived.Test.YtliebglildaneaaSinSq
namespace Go.Proofs.Ytliebglildaneaa.Tm
open Qm

theorem T_bd : ∀ n : Fin 30, 1 ≤ T n.val ∧ T n.val ≤ 536870912 := by decide +kernel
theorem T_out {i : Nat} (h : 30 ≤ i) : T i = 0 := by
  unfold T
  rw [List.getD_eq_getElem?_getD, List.getElem?_eq_none (by simpa using h)]
  rfl

/-! ### the angle that is left stays within a quarter turn -/
theorem runS_z {z : Int} (h0 : -1073741824 ≤ z) (h1 : z ≤ 1073741824) : ∀ n, n ≤ 30 → -1073741824 ≤ (runS z n).2.2 ∧ (runS z n).2.2 ≤ 1073741824
  | 0, _ => ⟨h0, h1⟩
  | n + 1, h => by
    have ih := runS_z h0 h1 n (by omega)
    have t := T_bd ⟨n, by omega⟩
    simp only at t
    rw [show runS z (n + 1) = stS n (runS z n) from rfl]
    unfold stS
    split <;> (simp only; omega)
theorem runS_xy (z : Int) (n : Nat) (h : n ≤ 30) : (-1518500249 ≤ (runS z n).1 ∧ (runS z n).1 ≤ 1518500249) ∧ (-1518500249 ≤ (runS z n).2.1 ∧ (runS z n).2.1 ≤ 1518500249) := by
  obtain ⟨_, u⟩ := runS_sq z n h
  have hh : hiT n ≤ 2305843009213693952 := by
    by_cases c : n < 30
    · exact (tabs ⟨n, c⟩).2.2
    · obtain rfl : n = 30 := by omega
      decide +kernel
  generalize (runS z n).1 = x at *
  generalize (runS z n).2.1 = y at *
  have sx : 0 ≤ x * x := by
    rcases Int.le_total 0 x with c | c
    · exact Int.mul_nonneg c c
    · have := Int.mul_nonneg (show 0 ≤ -x by omega) (show 0 ≤ -x by omega); rw [Int.neg_mul_neg] at this; exact this
  have sy : 0 ≤ y * y := by
    rcases Int.le_total 0 y with c | c
    · exact Int.mul_nonneg c c
    · have := Int.mul_nonneg (show 0 ≤ -y by omega) (show 0 ≤ -y by omega); rw [Int.neg_mul_neg] at this; exact this
  exact ⟨of_sq (show x * x ≤ hiT n by omega) hh, of_sq (show y * y ≤ hiT n by omega) hh⟩

/-! ### the same of the angle of two numbers -/
def bdT (n : Nat) : Int := [288230376151711744, 576460752303423489, 864691128455135234, 1080863910568919043, 1215971899390033924, 1291970143101911045, 1332344210073845766, 1353162088356249607, 1363733667171532808, 1369060751808921609, 1371734698589798410, 1373074283256390011, 1373744729683761296, 1374080116580656746, 1374247850969887784, 1374331728402197958, 1374373669678089139, 1374394640956007812, 1374405126754965302, 1374410369694444196, 1374412991174183757, 1374414301916553575, 1374414957288363495, 1374415284974424708, 1374415448817494378, 1374415530739038979, 1374415571699813721, 1374415592180201703, 1374415602420395847, 1374415607540492957, 1374415610100541522].getD n 0
def zT (n : Nat) : Int := [0, 536870912, 853804318, 1021263225, 1106267981, 1148935312, 1170289777, 1180969615, 1186309860, 1188980023, 1190315110, 1190982654, 1191316426, 1191483312, 1191566755, 1191608477, 1191629338, 1191639768, 1191644983, 1191647591, 1191648895, 1191649547, 1191649873, 1191650036, 1191650117, 1191650158, 1191650178, 1191650188, 1191650193, 1191650196, 1191650197].getD n 0
theorem bdTabs : ∀ n : Fin 30, bdT n.val + bdT n.val / 2 ^ n.val + 1 ≤ bdT (n.val + 1) ∧ 0 ≤ bdT n.val ∧ zT n.val + T n.val ≤ zT (n.val + 1) := by decide +kernel
theorem bdTop : ∀ n : Fin 31, bdT n.val ≤ 2305843009213693952 ∧ zT n.val ≤ 1191650197 := by decide +kernel
theorem div_size {x b d : Int} (hd : 1 ≤ d) (h0 : -b ≤ x) (h1 : x ≤ b) : -(b / d) - 1 ≤ x / d ∧ x / d ≤ b / d := by
  refine ⟨?_, Int.ediv_le_ediv (by omega) h1⟩
  have a : -b / d ≤ x / d := Int.ediv_le_ediv (by omega) h0
  have e := Int.emod_add_mul_ediv b d
  have m0 := Int.emod_nonneg b (show d ≠ 0 by omega)
  have m1 := Int.emod_lt_of_pos b (show 0 < d by omega)
  have k : -(b / d) - 1 ≤ -b / d := by
    apply (Int.le_ediv_iff_mul_le (show 0 < d by omega)).2
    rw [Int.sub_mul, Int.neg_mul, Int.one_mul, Int.mul_comm (b / d) d]
    omega
  omega
theorem runA_bd {p q : Int} (p0 : -288230376151711744 ≤ p) (p1 : p ≤ 288230376151711744) (q0 : -288230376151711744 ≤ q) (q1 : q ≤ 288230376151711744) :
    ∀ n, n ≤ 30 → (-bdT n ≤ (runA p q n).1 ∧ (runA p q n).1 ≤ bdT n) ∧ (-bdT n ≤ (runA p q n).2.1 ∧ (runA p q n).2.1 ≤ bdT n) ∧ (-zT n ≤ (runA p q n).2.2 ∧ (runA p q n).2.2 ≤ zT n)
  | 0, _ => by
    have e1 : bdT 0 = 288230376151711744 := by decide +kernel
    have e2 : zT 0 = 0 := by decide +kernel
    rw [e1, e2]
    exact ⟨⟨p0, p1⟩, ⟨q0, q1⟩, ⟨by show -0 ≤ (0 : Int); omega, by show (0 : Int) ≤ 0; omega⟩⟩
  | n + 1, h => by
    obtain ⟨⟨a1, a2⟩, ⟨b1, b2⟩, ⟨c1, c2⟩⟩ := runA_bd p0 p1 q0 q1 n (by omega)
    obtain ⟨t1, t2, t3⟩ := bdTabs ⟨n, by omega⟩
    have t4 := T_bd ⟨n, by omega⟩
    simp only at t1 t2 t3 t4
    have pp : (1 : Int) ≤ 2 ^ n := by have : (0 : Int) < 2 ^ n := Int.pow_pos (by omega); omega
    have d1 := div_size pp a1 a2
    have d2 := div_size pp b1 b2
    rw [show runA p q (n + 1) = stA n (runA p q n) from rfl]
    unfold stA
    split <;> (simp only; omega)
theorem runA_top {p q : Int} (p0 : -288230376151711744 ≤ p) (p1 : p ≤ 288230376151711744) (q0 : -288230376151711744 ≤ q) (q1 : q ≤ 288230376151711744) (n : Nat) (h : n ≤ 30) :
    (-2305843009213693952 ≤ (runA p q n).1 ∧ (runA p q n).1 ≤ 2305843009213693952) ∧ (-2305843009213693952 ≤ (runA p q n).2.1 ∧ (runA p q n).2.1 ≤ 2305843009213693952) ∧ (-1191650197 ≤ (runA p q n).2.2 ∧ (runA p q n).2.2 ≤ 1191650197) := by
  have a := runA_bd p0 p1 q0 q1 n h
  have b := bdTop ⟨n, by omega⟩
  simp only at b
  omega

/-! ### what the sine and the cosine come to -/
/-- a number by 64, rounded, squared -/
theorem sixty {y s : Int} (h0 : -1518500249 ≤ y) (h1 : y ≤ 1518500249) (e1 : 2 * (s * 64 - y) ≤ 64) (e2 : -64 ≤ 2 * (s * 64 - y)) :
    4096 * (s * s) ≤ y * y + 97184016960 ∧ y * y - 97184015936 ≤ 4096 * (s * s) := by
  obtain ⟨t, ht⟩ : ∃ t, s * 64 = y + t := ⟨s * 64 - y, by omega⟩
  have e : 4096 * (s * s) = (s * 64) * (s * 64) := by
    rw [Int.mul_assoc s 64, Int.mul_left_comm 64 s 64, ← Int.mul_assoc s s]
    generalize s * s = u
    omega
  rw [e, ht, add_sq]
  have b1 : y * t ≤ 1518500249 * 32 := by
    rcases Int.le_total 0 y with c | c
    · rcases Int.le_total 0 t with d | d
      · exact Int.mul_le_mul h1 (by omega) d (by omega)
      · have := Int.mul_nonpos_of_nonneg_of_nonpos c d; omega
    · rcases Int.le_total 0 t with d | d
      · have := Int.mul_nonpos_of_nonpos_of_nonneg c d; omega
      · have : -y * -t ≤ 1518500249 * 32 := Int.mul_le_mul (by omega) (by omega) (by omega) (by omega)
        rw [Int.neg_mul_neg] at this; exact this
  have b2 : -(1518500249 * 32) ≤ y * t := by
    rcases Int.le_total 0 y with c | c
    · rcases Int.le_total 0 t with d | d
      · have := Int.mul_nonneg c d; omega
      · have : y * -t ≤ 1518500249 * 32 := Int.mul_le_mul h1 (by omega) (by omega) (by omega)
        rw [Int.mul_neg] at this; omega
    · rcases Int.le_total 0 t with d | d
      · have : -y * t ≤ 1518500249 * 32 := Int.mul_le_mul (by omega) (by omega) d (by omega)
        rw [Int.neg_mul] at this; omega
      · have := Int.mul_nonneg_of_nonpos_of_nonpos c d; omega
  have b3 : 0 ≤ t * t := by
    rcases Int.le_total 0 t with c | c
    · exact Int.mul_nonneg c c
    · exact Int.mul_nonneg_of_nonpos_of_nonpos c c
  have b4 : t * t ≤ 32 * 32 := by
    rcases Int.le_total 0 t with c | c
    · exact Int.mul_le_mul (by omega) (by omega) c (by omega)
    · have : -t * -t ≤ 32 * 32 := Int.mul_le_mul (by omega) (by omega) (by omega) (by omega)
      rw [Int.neg_mul_neg] at this; exact this
  omega

/-- the sine and the cosine of an angle within a quarter turn -/
def sn (z : Int) : Int := half (runS z 30).2.1 6
def cs (z : Int) : Int := half (runS z 30).1 6
theorem small_of_sq {s : Int} (h : s * s ≤ 281475513581823) : -16777232 ≤ s ∧ s ≤ 16777232 := by
  constructor
  · by_cases c : -16777232 ≤ s
    · exact c
    · have : 16777233 * 16777233 ≤ -s * -s := Int.mul_le_mul (by omega) (by omega) (by omega) (by omega)
      rw [Int.neg_mul_neg] at this
      omega
  · by_cases c : s ≤ 16777232
    · exact c
    · have : 16777233 * 16777233 ≤ s * s := Int.mul_le_mul (by omega) (by omega) (by omega) (by omega)
      omega
theorem squares (z : Int) : (-16777232 ≤ sn z ∧ sn z ≤ 16777232) ∧ (-16777232 ≤ cs z ∧ cs z ≤ 16777232) ∧ sn z * sn z + cs z * cs z - 281474976710656 < 1073741824 ∧ -1073741824 < sn z * sn z + cs z * cs z - 281474976710656 := by
  obtain ⟨l, u⟩ := runS_sq z 30 (by omega)
  obtain ⟨⟨x0, x1⟩, ⟨y0, y1⟩⟩ := runS_xy z 30 (by omega)
  have hl : loT 30 = 1152920980929209715 := by decide +kernel
  have hu : hiT 30 = 1152922027819168630 := by decide +kernel
  rw [hl] at l
  rw [hu] at u
  have a := half_err (runS z 30).2.1 6 (by omega)
  have b := half_err (runS z 30).1 6 (by omega)
  have a' : 2 * (sn z * 64 - (runS z 30).2.1) ≤ 64 ∧ -64 ≤ 2 * (sn z * 64 - (runS z 30).2.1) := a
  have b' : 2 * (cs z * 64 - (runS z 30).1) ≤ 64 ∧ -64 ≤ 2 * (cs z * 64 - (runS z 30).1) := b
  clear a b
  generalize sn z = s at *
  generalize cs z = c at *
  generalize (runS z 30).1 = x at *
  generalize (runS z 30).2.1 = y at *
  have k1 := sixty y0 y1 a'.1 a'.2
  have k2 := sixty x0 x1 b'.1 b'.2
  have s1 : 0 ≤ s * s := by
    rcases Int.le_total 0 s with c | c
    · exact Int.mul_nonneg c c
    · exact Int.mul_nonneg_of_nonpos_of_nonpos c c
  have s2 : 0 ≤ c * c := by
    rcases Int.le_total 0 c with c | c
    · exact Int.mul_nonneg c c
    · exact Int.mul_nonneg_of_nonpos_of_nonpos c c
  exact ⟨small_of_sq (by omega), small_of_sq (by omega), by omega, by omega⟩

end Go.Proofs.Ytliebglildaneaa.Tm
