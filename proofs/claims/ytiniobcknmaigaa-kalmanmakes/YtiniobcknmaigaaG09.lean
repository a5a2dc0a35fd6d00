/-
  Texts joined, in the order in which they stand on one another: RMul Scale RScale.
-/
import Derived.Test.YtiniobcknmaigaaG01
import Derived.Test.YtiniobcknmaigaaG04
import Derived.Test.YtiniobcknmaigaaG08
/-
  The contracts of the document's own Mul: by halves of 24 bits.
-/
namespace Go.Proofs.Ytiniobcknmaigaa
open Go.RowKit Qm

theorem rmul_eqs (a b : Int) :
    (0 ≤ (ab (cl a) / 16777216) * (ab (cl b) / 16777216) ∧ (ab (cl a) / 16777216) * (ab (cl b) / 16777216) ≤ 4194304 * 4194304) ∧
    (0 ≤ (ab (cl a) / 16777216) * (ab (cl b) % 16777216) ∧ (ab (cl a) / 16777216) * (ab (cl b) % 16777216) ≤ 4194304 * 16777215) ∧
    (0 ≤ (ab (cl a) % 16777216) * (ab (cl b) / 16777216) ∧ (ab (cl a) % 16777216) * (ab (cl b) / 16777216) ≤ 16777215 * 4194304) ∧
    (0 ≤ (ab (cl a) % 16777216) * (ab (cl b) % 16777216) ∧ (ab (cl a) % 16777216) * (ab (cl b) % 16777216) ≤ 16777215 * 16777215) := by
  obtain ⟨a1, a2⟩ := ab_bd a
  obtain ⟨b1, b2⟩ := ab_bd b
  exact ⟨mul_bd (by omega) (by omega) (by omega) (by omega), mul_bd (by omega) (by omega) (by omega) (by omega), mul_bd (by omega) (by omega) (by omega) (by omega), mul_bd (by omega) (by omega) (by omega) (by omega)⟩

end Go.Proofs.Ytiniobcknmaigaa

/-
  The contract of mat.Scale.
-/
namespace Go.Proofs.Ytiniobcknmaigaa
open Go.RowKit Go.Sort Qm
theorem enters54 : ∀ (args : Array Value) (a : World), Sem.run Try.prog (callFunc 105 args) a = Result.ok (Next.enter 105 args) a := by
  intro args a
  simp [callFunc, Try.func105, go_sem]
  rfl
namespace Qm
def sclB (xs : List Int) (k : Int) : Bool := anyB (fun p => mulB (ge xs p) k) xs.length
def scl (xs : List Int) (k : Int) : List Int := tab (fun p => mul (ge xs p) k) xs.length
end Qm
/-- reckoned, as Scale calls it -/
theorem scale_reck (R C : Nat) (hR : R ≤ 8) (hC : C ≤ 8) (k : Int) (xs : List Int) (hn : xs.length = R * C) (P bk K : Nat) (w : World) (hA : AtBox w P bk C xs) (hK : w.heap[K]? = some (.cells #[.int .i64 k] 41 (0, 0))) :
    Calls Try.prog 86 #[.agg #[.int .i64 R, .int .i64 C], .func (.func 105) #[] #[.pointer (some ⟨P, 0, none⟩), .pointer (some ⟨K, 0, none⟩)]] w fun e b =>
      ∃ v, e = .returned (.tuple #[.agg #[.int .i64 R, .int .i64 C, v], .bool (sclB xs k)]) ∧ Sees b v (scl xs k) ∧ New w.heap.size v ∧ Below w.heap.size w b := by
  have h64 : R * C ≤ 64 := mul_le_64 hR hC
  unfold sclB scl
  rw [hn]
  refine reckoned_any R C hR hC 105 enters54 #[.pointer (some ⟨P, 0, none⟩), .pointer (some ⟨K, 0, none⟩)] (fun p => mul (ge xs p) k) (fun p => mulB (ge xs p) k) w ?_
  intro i j a hi hj hb
  exact scale1_any i j C P bk K k xs a (by omega) hj hC (by omega) (by rw [hn]; exact at_lt hi hj) (hA.below hb) (cell_of_one (keep hb hK))

set_option maxHeartbeats 800000 in
theorem scale_any (R C : Nat) (h1 : 1 ≤ R) (hR : R ≤ 8) (h2 : 1 ≤ C) (hC : C ≤ 8) (k : Int) (v : Value) (xs : List Int) (hn : xs.length = R * C) (w : World) (hs : Sees w v xs) :
    Calls Try.prog 96 #[.agg #[.int .i64 R, .int .i64 C, v], .int .i64 k] w fun e b =>
      ∃ v, e = .returned (.tuple #[.agg #[.int .i64 R, .int .i64 C, v], .bool (sclB xs k)]) ∧ Sees b v (scl xs k) ∧ New w.heap.size v ∧ Below w.heap.size w b := by
  obtain ⟨ao, cap, rfl⟩ := hs.slice
  have hl : laidB R C xs.length = true := laidB_mk h1 hR h2 hC hn
  obtain ⟨S, hS⟩ : ∃ S, sclB xs k = S := ⟨_, rfl⟩
  have hrk := fun P bk K w hA hK => scale_reck R C hR hC k xs hn P bk K w hA hK
  rw [hS] at hrk ⊢
  clear hn hS
  go_enter Try.func96, Try.ntmps96
  go_wp2_with (first
    | (go_at_call 57; refine (laid_any _ _ _ _ _ _).mono ?_; rintro e w1 ⟨rfl, b1⟩; have a1 := keep b1 (allocs3 w _ _ _).1; have q1 := keep b1 (allocs3 w _ _ _).2.1; have r1 := keep b1 (allocs3 w _ _ _).2.2; have s1 := hs.below (bt (ball3 w _ _ _) b1); obtain ⟨c0, c1, c2, _⟩ := mat_cells a1)
    | (go_at_call 60; refine (numbers_any _ _ _ _ _ _).mono ?_; rintro e w2 ⟨rfl, rfl⟩; obtain ⟨d0, d1, d2, _⟩ := mat_cells (heap_old (heap_old a1 (.cells #[.int .i64 R, .int .i64 C, .slice ao xs.length cap] 24)) (.cells #[.func (.func 83) #[] #[.pointer (some ⟨w1.heap.size, 0, none⟩)]] 96)))
    | (go_at_call 58; refine (sizeOf_any _ _ _ _ _ _).mono ?_; rintro e w3 ⟨rfl, b3⟩; have A3 := (atbox_mk s1).below b3)
    | (go_at_call 86; have r3 := keep b3 (heap_old (heap_old r1 _) _); refine (hrk _ _ _ _ A3 (keep b3 (heap_old (heap_old q1 _) _))).mono ?_; rintro e w4 ⟨v4, rfl, s4, n4, b4⟩; obtain ⟨ao4, cap4, rfl⟩ := s4.slice; obtain ⟨f0, f1, f2, g0, g1, g2⟩ := mat_cells (keep b4 r3)))
  refine bodyPost_ret (v := .tuple #[.agg #[.int .i64 R, .int .i64 C, .slice ao4 (scl xs k).length cap4], .bool S]) (by simp [results, Try.results96, go_sem, f0, f1, f2]) rfl ?_
  exact ⟨_, rfl, s4.put n4 (lt_of_block r3) _ _ _, n4.mono (bt (bt (bt (ball3 w _ _ _) b1) (ball2 w1 _ _)) b3).size, below_put (bt (bt (bt (bt (ball3 w _ _ _) b1) (ball2 w1 _ _)) b3) b4) (by omega) _ _ _⟩
end Go.Proofs.Ytiniobcknmaigaa

/-
  The contract of the document's Scale.
-/
namespace Go.Proofs.Ytiniobcknmaigaa
open Go.RowKit Go.Sort Qm

/-- what stands where up to place k has been filled -/
def Qm.upto (t : Nat → Int) (k : Nat) : Nat → Int := fun p => if p < k then t p else 0
theorem Qm.upto_zero (t : Nat → Int) (n p : Nat) (_ : p < n) : (0 : Int) = upto t 0 p := by simp [upto]
theorem Qm.upto_succ (t : Nat → Int) (k n p : Nat) (_ : p < n) : (if p = k then t k else upto t k p) = upto t (k + 1) p := by
  unfold upto
  by_cases h : p = k
  · subst h; simp
  · rw [if_neg h]
    by_cases h2 : p < k
    · rw [if_pos h2, if_pos (by omega)]
    · rw [if_neg h2, if_neg (by omega)]
theorem Qm.upto_all (t : Nat → Int) (n : Nat) : tab (upto t n) n = tab t n := tab_congr fun p hp => by unfold upto; rw [if_pos hp]

theorem Sees.at {w : World} {ao : Option Addr} {n cap : Nat} {xs : List Int} (h : Sees w (.slice ao n cap) xs) (k : Nat) (hk : k < xs.length) : ∃ ad, ao = some ad ∧ w.cell? (ad.add k) = some (.int .i64 (ge xs k)) := by
  obtain ⟨ao', cap', he, hc⟩ := h
  simp only [Value.slice.injEq] at he
  obtain ⟨ad, h1, _, h2⟩ := hc k hk
  exact ⟨ad, he.1.trans h1, h2⟩
theorem new_at (g n cap : Nat) : New g (.slice (some ⟨g, 0, none⟩) n cap) := fun k e => by cases e; exact Nat.le_refl _

end Go.Proofs.Ytiniobcknmaigaa
