/-
  Plain arithmetic: square roots.
-/
import Derived.Test.YtiniobcknmaigaaMath
namespace Go.Proofs.Ytiniobcknmaigaa.Qm

theorem pow2 (k : Nat) : (2 : Int) ^ (k + 1) = 2 ^ k + 2 ^ k := by rw [Int.pow_succ]; omega
theorem pow2_pos (k : Nat) : (1 : Int) ≤ 2 ^ k := by have : (0 : Int) < 2 ^ k := Int.pow_pos (by omega); omega

/-- a root that is known but for its last m bits -/
structure RootInv (N r : Int) (m : Nat) : Prop where
  lo : r * r ≤ N
  up : N < (r + 2 ^ m) * (r + 2 ^ m)
  r0 : 0 ≤ r
  rm : r % 2 ^ m = 0
  rb : r + 2 ^ m ≤ 34359738368

theorem RootInv.start {N : Int} (h0 : 0 ≤ N) (h1 : N < 1180591620717411303424) : RootInv N 0 35 :=
  ⟨by omega, by show N < (0 + 34359738368) * (0 + 34359738368); omega, by omega, rfl, by decide⟩

theorem RootInv.half {N r : Int} {m : Nat} (h : RootInv N r (m + 1)) : r % 2 ^ m = 0 := by
  have h1 := h.rm
  have hd : (2 : Int) ^ m ∣ 2 ^ (m + 1) := ⟨2, by rw [Int.pow_succ]⟩
  exact Int.emod_eq_zero_of_dvd (Int.dvd_trans hd (Int.dvd_of_emod_eq_zero h1))

theorem RootInv.yes {N r : Int} {m : Nat} (h : RootInv N r (m + 1)) (c : (r + 2 ^ m) * (r + 2 ^ m) ≤ N) : RootInv N (r + 2 ^ m) m := by
  have hp := pow2 m
  have hq := pow2_pos m
  have hm := h.half
  obtain ⟨lo, up, r0, rm, rb⟩ := h
  rw [hp] at up rb
  refine ⟨c, ?_, by omega, ?_, by omega⟩
  · rw [Int.add_assoc]; exact up
  · rw [Int.add_emod, hm, Int.emod_self]; simp

theorem RootInv.no {N r : Int} {m : Nat} (h : RootInv N r (m + 1)) (c : ¬ (r + 2 ^ m) * (r + 2 ^ m) ≤ N) : RootInv N r m := by
  have hp := pow2 m
  have hq := pow2_pos m
  have hm := h.half
  obtain ⟨lo, up, r0, rm, rb⟩ := h
  exact ⟨lo, by omega, r0, hm, by omega⟩

/-- a root, bit by bit -/
def rootB (N : Int) : Nat → Int → Int
  | 0, r => r
  | m + 1, r => if (r + 2 ^ m) * (r + 2 ^ m) ≤ N then rootB N m (r + 2 ^ m) else rootB N m r
def root (N : Int) : Int := rootB N 35 0

theorem rootB_inv {N : Int} : ∀ (m : Nat) (r : Int), RootInv N r m → RootInv N (rootB N m r) 0
  | 0, _, h => h
  | m + 1, r, h => by
    unfold rootB
    split
    · exact rootB_inv m _ (h.yes ‹_›)
    · exact rootB_inv m _ (h.no ‹_›)

theorem root_spec {N : Int} (h0 : 0 ≤ N) (h1 : N < 1180591620717411303424) : 0 ≤ root N ∧ root N ≤ 34359738367 ∧ root N * root N ≤ N ∧ N < (root N + 1) * (root N + 1) := by
  obtain ⟨lo, up, r0, -, rb⟩ := rootB_inv 35 0 (RootInv.start h0 h1)
  exact ⟨r0, by have : rootB N 35 0 + 1 ≤ 34359738368 := rb; show rootB N 35 0 ≤ _; omega, lo, up⟩

theorem sq_lt {a b : Int} (ha : 0 ≤ a) (hb : 0 ≤ b) (h : a * a < (b + 1) * (b + 1)) : a ≤ b := by
  by_cases c : a ≤ b
  · exact c
  · have : (b + 1) * (b + 1) ≤ a * a := Int.mul_le_mul (by omega) (by omega) (by omega) ha
    omega

theorem root_uniq {N r : Int} (h0 : 0 ≤ N) (h1 : N < 1180591620717411303424) (r0 : 0 ≤ r) (lo : r * r ≤ N) (up : N < (r + 1) * (r + 1)) : r = root N := by
  obtain ⟨s0, _, s1, s2⟩ := root_spec h0 h1
  have a := sq_lt r0 s0 (by omega)
  have b := sq_lt s0 r0 (by omega)
  omega

/-- a square root -/
def sqrt (a : Int) : Int := if cl a < 0 then 0 else root (cl a * 16777216)
def sqrtB (a : Int) : Bool := if cl a < 0 then true else ob a
theorem sqrt_neg {a : Int} (h : cl a < 0) : sqrt a = 0 ∧ sqrtB a = true := by unfold sqrt sqrtB; rw [if_pos h, if_pos h]; exact ⟨rfl, rfl⟩
theorem sqrt_pos {a : Int} (h : ¬ cl a < 0) : sqrt a = root (cl a * 16777216) ∧ sqrtB a = ob a := by unfold sqrt sqrtB; rw [if_neg h, if_neg h]; exact ⟨rfl, rfl⟩

end Go.Proofs.Ytiniobcknmaigaa.Qm
