/-
  The contract of mat.Scale.
-/
import Derived.Test.YtiniobcknmaigaaAt
namespace Go.Proofs.Ytiniobcknmaigaa
open Go.RowKit Go.Sort Qm
theorem enters54 : ∀ (args : Array Value) (a : World), Sem.run Try.prog (callFunc 105 args) a = Result.ok (Next.enter 105 args) a := by
  intro args a
  simp [callFunc, Try.func105, go_sem]
  rfl
namespace Qm
def sclB (xs : List Int) (k : Int) : Bool := anyB (fun p => mulB (ge xs p) k) xs.length
def scl (xs : List Int) (k : Int) : List Int := tab (fun p => mul (ge xs p) k) xs.length
end Qm
/-- reckoned, as Scale calls it -/
theorem scale_reck (R C : Nat) (hR : R ≤ 8) (hC : C ≤ 8) (k : Int) (xs : List Int) (hn : xs.length = R * C) (P bk K : Nat) (w : World) (hA : AtBox w P bk C xs) (hK : w.heap[K]? = some (.cells #[.int .i64 k] 41 (0, 0))) :
    Calls Try.prog 86 #[.agg #[.int .i64 R, .int .i64 C], .func (.func 105) #[] #[.pointer (some ⟨P, 0, none⟩), .pointer (some ⟨K, 0, none⟩)]] w fun e b =>
      ∃ v, e = .returned (.tuple #[.agg #[.int .i64 R, .int .i64 C, v], .bool (sclB xs k)]) ∧ Sees b v (scl xs k) ∧ New w.heap.size v ∧ Below w.heap.size w b := by
  have h64 : R * C ≤ 64 := mul_le_64 hR hC
  unfold sclB scl
  rw [hn]
  refine reckoned_any R C hR hC 105 enters54 #[.pointer (some ⟨P, 0, none⟩), .pointer (some ⟨K, 0, none⟩)] (fun p => mul (ge xs p) k) (fun p => mulB (ge xs p) k) w ?_
  intro i j a hi hj hb
  exact scale1_any i j C P bk K k xs a (by omega) hj hC (by omega) (by rw [hn]; exact at_lt hi hj) (hA.below hb) (cell_of_one (keep hb hK))

set_option maxHeartbeats 800000 in
theorem scale_any (R C : Nat) (h1 : 1 ≤ R) (hR : R ≤ 8) (h2 : 1 ≤ C) (hC : C ≤ 8) (k : Int) (v : Value) (xs : List Int) (hn : xs.length = R * C) (w : World) (hs : Sees w v xs) :
    Calls Try.prog 96 #[.agg #[.int .i64 R, .int .i64 C, v], .int .i64 k] w fun e b =>
      ∃ v, e = .returned (.tuple #[.agg #[.int .i64 R, .int .i64 C, v], .bool (sclB xs k)]) ∧ Sees b v (scl xs k) ∧ New w.heap.size v ∧ Below w.heap.size w b := by
  obtain ⟨ao, cap, rfl⟩ := hs.slice
  have hl : laidB R C xs.length = true := laidB_mk h1 hR h2 hC hn
  obtain ⟨S, hS⟩ : ∃ S, sclB xs k = S := ⟨_, rfl⟩
  have hrk := fun P bk K w hA hK => scale_reck R C hR hC k xs hn P bk K w hA hK
  rw [hS] at hrk ⊢
  clear hn hS
  go_enter Try.func96, Try.ntmps96
  go_wp2_with (first
    | (go_at_call 57; refine (laid_any _ _ _ _ _ _).mono ?_; rintro e w1 ⟨rfl, b1⟩; have a1 := keep b1 (allocs3 w _ _ _).1; have q1 := keep b1 (allocs3 w _ _ _).2.1; have r1 := keep b1 (allocs3 w _ _ _).2.2; have s1 := hs.below (bt (ball3 w _ _ _) b1); obtain ⟨c0, c1, c2, _⟩ := mat_cells a1)
    | (go_at_call 60; refine (numbers_any _ _ _ _ _ _).mono ?_; rintro e w2 ⟨rfl, rfl⟩; obtain ⟨d0, d1, d2, _⟩ := mat_cells (heap_old (heap_old a1 (.cells #[.int .i64 R, .int .i64 C, .slice ao xs.length cap] 24)) (.cells #[.func (.func 83) #[] #[.pointer (some ⟨w1.heap.size, 0, none⟩)]] 96)))
    | (go_at_call 58; refine (sizeOf_any _ _ _ _ _ _).mono ?_; rintro e w3 ⟨rfl, b3⟩; have A3 := (atbox_mk s1).below b3)
    | (go_at_call 86; have r3 := keep b3 (heap_old (heap_old r1 _) _); refine (hrk _ _ _ _ A3 (keep b3 (heap_old (heap_old q1 _) _))).mono ?_; rintro e w4 ⟨v4, rfl, s4, n4, b4⟩; obtain ⟨ao4, cap4, rfl⟩ := s4.slice; obtain ⟨f0, f1, f2, g0, g1, g2⟩ := mat_cells (keep b4 r3)))
  refine bodyPost_ret (v := .tuple #[.agg #[.int .i64 R, .int .i64 C, .slice ao4 (scl xs k).length cap4], .bool S]) (by simp [results, Try.results96, go_sem, f0, f1, f2]) rfl ?_
  exact ⟨_, rfl, s4.put n4 (lt_of_block r3) _ _ _, n4.mono (bt (bt (bt (ball3 w _ _ _) b1) (ball2 w1 _ _)) b3).size, below_put (bt (bt (bt (bt (ball3 w _ _ _) b1) (ball2 w1 _ _)) b3) b4) (by omega) _ _ _⟩
end Go.Proofs.Ytiniobcknmaigaa
