/-
  Products of diagonals of whole numbers; rows that are apart.
-/
import Derived.Test.YteohdhmimpajmaaFactT
namespace Go.Proofs.Yteohdhmimpajmaa
open Go.RowKit Go.Sort Qm

namespace Qm
theorem ab_scale (x : Int) : ab (x * 16777216) = ab x * 16777216 := by unfold ab; split <;> split <;> omega
theorem sg_prod (x y : Int) : sg (flip (flip false x) y) (ab x * ab y) = x * y := by
  by_cases hx : x < 0
  · by_cases hy : y < 0
    · rw [flip_neg hy, flip_neg hx, ab_neg hx, ab_neg hy, Int.neg_mul_neg]; rfl
    · rw [flip_pos hy, flip_neg hx, ab_neg hx, ab_pos hy, Int.neg_mul]; simp [sg]
  · by_cases hy : y < 0
    · rw [flip_neg hy, flip_pos hx, ab_pos hx, ab_neg hy, Int.mul_neg]; simp [sg]
    · rw [flip_pos hy, flip_pos hx, ab_pos hx, ab_pos hy]; rfl
theorem flip_scale (s : Bool) (x : Int) : flip s (x * 16777216) = flip s x := by unfold flip; split <;> split <;> first | rfl | omega
theorem sg_scale (s : Bool) (x : Int) : sg s (x * 16777216) = sg s x * 16777216 := by cases s <;> simp [sg, Int.neg_mul]
theorem mul_whole {x y : Int} (hx : -128 ≤ x ∧ x ≤ 127) (hy : -128 ≤ y ∧ y ≤ 127) : mul (x * 16777216) (y * 16777216) = x * y * 16777216 ∧ mulB (x * 16777216) (y * 16777216) = false := by
  have h1 : -16384 ≤ x * y ∧ x * y ≤ 16384 := by
    have e := sg_prod x y
    have hb : 0 ≤ ab x * ab y ∧ ab x * ab y ≤ 128 * 128 := by
      have a1 : 0 ≤ ab x ∧ ab x ≤ 128 := by unfold ab; split <;> omega
      have a2 : 0 ≤ ab y ∧ ab y ≤ 128 := by unfold ab; split <;> omega
      exact ⟨Int.mul_nonneg a1.1 a2.1, Int.mul_le_mul a1.2 a2.2 a2.1 (by omega)⟩
    have := sg_bd (flip (flip false x) y) hb.1 hb.2
    rw [e] at this
    omega
  have hv : mulv (x * 16777216) (y * 16777216) = x * y * 16777216 := by
    unfold mulv pr ng
    rw [cl_in (by omega) (by omega), cl_in (a := y * 16777216) (by omega) (by omega), ab_scale, ab_scale, flip_scale, flip_scale]
    have e : ab x * 16777216 * (ab y * 16777216) = (ab x * ab y * 16777216) * 16777216 := by
      rw [Int.mul_assoc, Int.mul_comm 16777216 (ab y * 16777216), ← Int.mul_assoc, ← Int.mul_assoc]
    rw [e, near_whole _ _ (by omega), sg_scale, sg_prod]
  unfold mul mulB ob2
  rw [hv]
  generalize x * y = z at *
  exact ⟨cl_in (by omega) (by omega), by rw [ob_in (by omega) (by omega), ob_in (by omega) (by omega), ob_in (by omega) (by omega)]; rfl⟩
theorem mul_none' {a : Int} (h1 : -70368744177664 ≤ a) (h2 : a ≤ 70368744177663) : mul 0 a = 0 ∧ mulB 0 a = false := by rw [mul_comm', mulB_comm]; exact mul_none h1 h2
/-- small whole numbers -/
def Small (a : Nat → Int) : Prop := ∀ i, -128 ≤ a i ∧ a i ≤ 127
theorem prd_dia {a b : Nat → Int} (ha : Small a) (hb : Small b) (n : Nat) : prd n n n (dia (fun i => a i * 16777216) n) (dia (fun i => b i * 16777216) n) = dia (fun i => a i * b i * 16777216) n ∧ prdB n n n (dia (fun i => a i * 16777216) n) (dia (fun i => b i * 16777216) n) = false := by
  have key : ∀ i j, i < n → j < n → dot n n (dia (fun i => a i * 16777216) n) (dia (fun i => b i * 16777216) n) i j = (if i = j then a i * b i * 16777216 else 0) ∧ dotB n n (dia (fun i => a i * 16777216) n) (dia (fun i => b i * 16777216) n) i j = false := by
    intro i j hi hj
    have A := ha i
    have Bi := hb i
    have hm := mul_whole A Bi
    have hin : -70368744177664 ≤ (if i = j then a i * b i * 16777216 else 0) ∧ (if i = j then a i * b i * 16777216 else 0) ≤ 70368744177663 := by
      split
      · rw [← hm.1]; exact cl_bd _
      · omega
    have hs := smv_one hin.1 hin.2 (fun k => mul (ge (dia (fun i => a i * 16777216) n) (i * n + k)) (ge (dia (fun i => b i * 16777216) n) (k * n + j))) (fun k => mulB (ge (dia (fun i => a i * 16777216) n) (i * n + k)) (ge (dia (fun i => b i * 16777216) n) (k * n + j))) i n (by
      intro k hk
      simp only [dia_at hi hk, dia_at hk hj]
      by_cases e : k = i
      · subst e
        rw [if_pos rfl, if_pos rfl]
        by_cases e2 : k = j
        · rw [if_pos e2, if_pos e2]; exact hm.1
        · rw [if_neg e2, if_neg e2]; exact (mul_none (by omega) (by omega)).1
      · rw [if_neg (fun h => e h.symm), if_neg e]
        have := hb k
        by_cases e2 : k = j
        · rw [if_pos e2]; exact (mul_none' (by omega) (by omega)).1
        · rw [if_neg e2]; decide) (by
      intro k hk
      simp only [dia_at hi hk, dia_at hk hj]
      by_cases e : k = i
      · subst e
        rw [if_pos rfl]
        by_cases e2 : k = j
        · rw [if_pos e2]; exact hm.2
        · rw [if_neg e2]; exact (mul_none (by omega) (by omega)).2
      · rw [if_neg (fun h => e h.symm)]
        have := hb k
        by_cases e2 : k = j
        · rw [if_pos e2]; exact (mul_none' (by omega) (by omega)).2
        · rw [if_neg e2]; decide)
    rw [if_pos hi] at hs
    exact hs
  refine ⟨?_, ?_⟩
  · unfold prd dia
    refine tab_congr fun p hp => ?_
    have hn : 0 < n := by rcases Nat.eq_zero_or_pos n with h | h
                          · subst h; omega
                          · exact h
    exact (key _ _ ((Nat.div_lt_iff_lt_mul hn).2 hp) (Nat.mod_lt p hn)).1
  · refine anyB_none fun p hp => ?_
    have hn : 0 < n := by rcases Nat.eq_zero_or_pos n with h | h
                          · subst h; omega
                          · exact h
    exact (key _ _ ((Nat.div_lt_iff_lt_mul hn).2 hp) (Nat.mod_lt p hn)).2
end Qm

/-- two slices that lie in different memory -/
def Apart (v u : Value) : Prop := ∀ g, v.ownBlock = some g → u.ownBlock ≠ some g
theorem Apart.symm {v u : Value} (h : Apart v u) : Apart u v := fun g hu hv => h g hv hu
theorem app_keep {w w' : World} {base n : Nat} {v v' u : Value} {xs : List Value} (hu : w.ownsRow base 33 1 u n xs) (hap : Apart v u) (hg : w.grownBy w' v.ownBlock) (hb : v'.ownBlock = v.ownBlock ∨ v'.ownBlock = some w.heap.size) :
    w'.ownsRow base 33 1 u n xs ∧ Apart v' u := by
  refine ⟨hu.kept hg ?_, ?_⟩
  · cases e : u.ownBlock with
    | none => exact .inl rfl
    | some g => exact .inr fun h => hap g h.symm e
  · intro g hv hu'
    rcases hb with h | h
    · exact hap g (h ▸ hv) hu'
    · have := (hu.lt g hu').2
      rw [h] at hv
      cases hv
      omega
end Go.Proofs.Yteohdhmimpajmaa
