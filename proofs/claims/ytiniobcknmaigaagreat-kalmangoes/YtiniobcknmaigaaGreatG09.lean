/-
  Texts joined, in the order in which they stand on one another: RMul Scale RScale.
-/
import Derived.Test.YtiniobcknmaigaaGreatG01
import Derived.Test.YtiniobcknmaigaaGreatG04
import Derived.Test.YtiniobcknmaigaaGreatG08
/-
  The contracts of the document's own Mul: by halves of 24 bits.
-/
namespace Go.Proofs.YtiniobcknmaigaaGreat
open Go.RowKit Qm

set_option maxHeartbeats 400000 in
theorem rabs_any (a : Int) (w : World) (h1 : -70368744177664 ≤ a) (h2 : a ≤ 70368744177663) :
    Calls Tryz.prog 70 #[.int .i64 a] w fun e w' => e = .returned (.int .i64 (ab a)) ∧ w' = w := by
  by_cases h : a < 0
  · rw [ab_neg h]
    go_enter Tryz.func70, Tryz.ntmps70
    go_wp2
    go_ret
    exact ⟨by simp, rfl⟩
  · rw [ab_pos h]
    go_enter Tryz.func70, Tryz.ntmps70
    go_wp2
    go_ret
    exact ⟨rfl, rfl⟩

set_option maxHeartbeats 400000 in
theorem rback_near (n : Int) (s : Bool) (w : World) (h1 : 0 ≤ n) (h2 : n ≤ 4611686018427387904) :
    Calls Tryz.prog 71 #[.int .i64 n, .bool false, .bool s] w fun e w' => e = .returned (.tuple #[.int .i64 (cl (sg s n)), .bool (ob (sg s n))]) ∧ w' = w := by
  cases s
  · rw [sg_f]
    by_cases h : 70368744177663 < n
    · rw [cl_top h, ob_top h]
      go_enter Tryz.func71, Tryz.ntmps71
      go_wp2
      go_ret2
      exact ⟨rfl, rfl⟩
    · rw [cl_in (by omega) (by omega), ob_in (by omega) (by omega)]
      go_enter Tryz.func71, Tryz.ntmps71
      go_wp2
      go_ret2
      exact ⟨rfl, rfl⟩
  · rw [sg_t]
    by_cases h : 70368744177664 < n
    · rw [cl_low (by omega), ob_low (by omega)]
      go_enter Tryz.func71, Tryz.ntmps71
      go_wp2
      go_ret2
      exact ⟨rfl, rfl⟩
    · rw [cl_in (by omega) (by omega), ob_in (by omega) (by omega)]
      go_enter Tryz.func71, Tryz.ntmps71
      go_wp2
      go_ret2
      exact ⟨by simp, rfl⟩

set_option maxHeartbeats 400000 in
theorem rback_far (n m : Int) (s : Bool) (w : World) (hm : 70368744177664 < m) :
    Calls Tryz.prog 71 #[.int .i64 n, .bool true, .bool s] w fun e w' => e = .returned (.tuple #[.int .i64 (cl (sg s m)), .bool (ob (sg s m))]) ∧ w' = w := by
  cases s
  · rw [sg_f, cl_top (by omega), ob_top (by omega)]
    go_enter Tryz.func71, Tryz.ntmps71
    go_wp2
    go_ret2
    exact ⟨rfl, rfl⟩
  · rw [sg_t, cl_low (by omega), ob_low (by omega)]
    go_enter Tryz.func71, Tryz.ntmps71
    go_wp2
    go_ret2
    exact ⟨rfl, rfl⟩

theorem rmul_eqs (a b : Int) :
    (0 ≤ (ab (cl a) / 16777216) * (ab (cl b) / 16777216) ∧ (ab (cl a) / 16777216) * (ab (cl b) / 16777216) ≤ 4194304 * 4194304) ∧
    (0 ≤ (ab (cl a) / 16777216) * (ab (cl b) % 16777216) ∧ (ab (cl a) / 16777216) * (ab (cl b) % 16777216) ≤ 4194304 * 16777215) ∧
    (0 ≤ (ab (cl a) % 16777216) * (ab (cl b) / 16777216) ∧ (ab (cl a) % 16777216) * (ab (cl b) / 16777216) ≤ 16777215 * 4194304) ∧
    (0 ≤ (ab (cl a) % 16777216) * (ab (cl b) % 16777216) ∧ (ab (cl a) % 16777216) * (ab (cl b) % 16777216) ≤ 16777215 * 16777215) := by
  obtain ⟨a1, a2⟩ := ab_bd a
  obtain ⟨b1, b2⟩ := ab_bd b
  exact ⟨mul_bd (by omega) (by omega) (by omega) (by omega), mul_bd (by omega) (by omega) (by omega) (by omega), mul_bd (by omega) (by omega) (by omega) (by omega), mul_bd (by omega) (by omega) (by omega) (by omega)⟩

set_option maxHeartbeats 2000000 in
theorem rmul_near (a b : Int) (w : World) (hf : ¬ 16777216 ≤ (ab (cl a) / 16777216) * (ab (cl b) / 16777216)) :
    Calls Tryz.prog 31 #[.int .i64 a, .int .i64 b] w fun e w' => e = .returned (.tuple #[.int .i64 (mul a b), .bool (mulB a b)]) ∧ w' = w := by
  have hh := halves (ab (cl a)) (ab (cl b))
  obtain ⟨⟨c1, c2⟩, ⟨c3, c4⟩, ⟨c5, c6⟩, ⟨c7, c8⟩⟩ := rmul_eqs a b
  have hp : ab (cl a) * ab (cl b) = pr a b := rfl
  rw [hp] at hh
  have hn : (ab (cl a) / 16777216) * (ab (cl b) / 16777216) * 16777216 + (ab (cl a) / 16777216) * (ab (cl b) % 16777216) + (ab (cl a) % 16777216) * (ab (cl b) / 16777216) + (ab (cl a) % 16777216) * (ab (cl b) % 16777216) / 16777216 = pr a b / 16777216 := by omega
  have hr : (ab (cl a) % 16777216) * (ab (cl b) % 16777216) % 16777216 = pr a b % 16777216 := by omega
  have hl : pr a b / 16777216 ≤ 422212465065984 := by omega
  have h0 : 0 ≤ pr a b / 16777216 := by omega
  have hfd : decide (16777216 ≤ ab (cl a) / 16777216 * (ab (cl b) / 16777216)) = false := by simpa using hf
  clear hh hp
  have hs := ng_eq a b
  have h1 := cl_lo a; have h2 := cl_hi a; have h3 := cl_lo b; have h4 := cl_hi b
  obtain ⟨a1, a2⟩ := ab_bd a
  obtain ⟨b1, b2⟩ := ab_bd b
  unfold mul mulB mulv ng
  by_cases u1 : 16777216 < pr a b % 16777216 * 2
  · rw [near_up (Or.inl (by omega))]
    go_enter Tryz.func31, Tryz.ntmps31
    go_wp2_with (first | (go_at_call 69; refine (rclamp_any _ _).mono ?_; rintro e w' ⟨rfl, rfl⟩) | (go_at_call 70; refine (rabs_any _ _ (by omega) (by omega)).mono ?_; rintro e w' ⟨rfl, rfl⟩) | (go_at_call 71; refine (rback_near _ _ _ (by omega) (by omega)).mono ?_; rintro e w' ⟨rfl, rfl⟩))
    all_goals
      go_ret2
      exact ⟨by simp [ob2, *], rfl⟩
  · by_cases u2 : pr a b % 16777216 * 2 = 16777216
    · have u2' : (pr a b % 16777216 * 2 == 16777216) = true := by simp [u2]
      by_cases u3 : pr a b / 16777216 % 2 = 1
      · rw [near_up (Or.inr ⟨by omega, u3⟩)]
        have u3' : (pr a b / 16777216 % 2 == 1) = true := by simp [u3]
        clear u2 u3
        go_enter Tryz.func31, Tryz.ntmps31
        go_wp2_with (first | (go_at_call 69; refine (rclamp_any _ _).mono ?_; rintro e w' ⟨rfl, rfl⟩) | (go_at_call 70; refine (rabs_any _ _ (by omega) (by omega)).mono ?_; rintro e w' ⟨rfl, rfl⟩) | (go_at_call 71; refine (rback_near _ _ _ (by omega) (by omega)).mono ?_; rintro e w' ⟨rfl, rfl⟩))
        all_goals
          go_ret2
          exact ⟨by simp [ob2, *], rfl⟩
      · rw [near_stay (by omega)]
        have u3' : (pr a b / 16777216 % 2 == 1) = false := by simp [u3]
        clear u2 u3
        go_enter Tryz.func31, Tryz.ntmps31
        go_wp2_with (first | (go_at_call 69; refine (rclamp_any _ _).mono ?_; rintro e w' ⟨rfl, rfl⟩) | (go_at_call 70; refine (rabs_any _ _ (by omega) (by omega)).mono ?_; rintro e w' ⟨rfl, rfl⟩) | (go_at_call 71; refine (rback_near _ _ _ (by omega) (by omega)).mono ?_; rintro e w' ⟨rfl, rfl⟩))
        all_goals
          go_ret2
          exact ⟨by simp [ob2, *], rfl⟩
    · rw [near_stay (by omega)]
      have u2' : (pr a b % 16777216 * 2 == 16777216) = false := by simp [u2]
      clear u2
      go_enter Tryz.func31, Tryz.ntmps31
      go_wp2_with (first | (go_at_call 69; refine (rclamp_any _ _).mono ?_; rintro e w' ⟨rfl, rfl⟩) | (go_at_call 70; refine (rabs_any _ _ (by omega) (by omega)).mono ?_; rintro e w' ⟨rfl, rfl⟩) | (go_at_call 71; refine (rback_near _ _ _ (by omega) (by omega)).mono ?_; rintro e w' ⟨rfl, rfl⟩))
      all_goals
        go_ret2
        exact ⟨by simp [ob2, *], rfl⟩

set_option maxHeartbeats 2000000 in
theorem rmul_far (a b : Int) (w : World) (hf : 16777216 ≤ (ab (cl a) / 16777216) * (ab (cl b) / 16777216)) :
    Calls Tryz.prog 31 #[.int .i64 a, .int .i64 b] w fun e w' => e = .returned (.tuple #[.int .i64 (mul a b), .bool (mulB a b)]) ∧ w' = w := by
  have hh := halves (ab (cl a)) (ab (cl b))
  obtain ⟨⟨c1, c2⟩, ⟨c3, c4⟩, ⟨c5, c6⟩, ⟨c7, c8⟩⟩ := rmul_eqs a b
  have hp : ab (cl a) * ab (cl b) = pr a b := rfl
  rw [hp] at hh
  have hn := (near_bd (pr a b / 16777216) (pr a b % 16777216) 16777216).1
  have hm : 70368744177664 < near (pr a b / 16777216) (pr a b % 16777216) 16777216 := by omega
  clear hh hp hn
  have hs := ng_eq a b
  have h1 := cl_lo a; have h2 := cl_hi a; have h3 := cl_lo b; have h4 := cl_hi b
  obtain ⟨a1, a2⟩ := ab_bd a
  obtain ⟨b1, b2⟩ := ab_bd b
  unfold mul mulB mulv ng
  go_enter Tryz.func31, Tryz.ntmps31
  go_wp2_with (first | (go_at_call 69; refine (rclamp_any _ _).mono ?_; rintro e w' ⟨rfl, rfl⟩) | (go_at_call 70; refine (rabs_any _ _ (by omega) (by omega)).mono ?_; rintro e w' ⟨rfl, rfl⟩) | (go_at_call 71; refine (rback_far _ _ _ _ hm).mono ?_; rintro e w' ⟨rfl, rfl⟩))
  all_goals
    go_ret2
    exact ⟨by simp [ob2, *], rfl⟩

/-- the document's Mul -/
theorem rmul_any (a b : Int) (w : World) :
    Calls Tryz.prog 31 #[.int .i64 a, .int .i64 b] w fun e w' => e = .returned (.tuple #[.int .i64 (mul a b), .bool (mulB a b)]) ∧ w' = w := by
  by_cases h : 16777216 ≤ (ab (cl a) / 16777216) * (ab (cl b) / 16777216)
  · exact rmul_far a b w h
  · exact rmul_near a b w h
end Go.Proofs.YtiniobcknmaigaaGreat

/-
  The contract of mat.Scale.
-/
namespace Go.Proofs.YtiniobcknmaigaaGreat
open Go.RowKit Go.Sort Qm
theorem enters54 : ∀ (args : Array Value) (a : World), Sem.run Tryz.prog (callFunc 113 args) a = Result.ok (Next.enter 113 args) a := by
  intro args a
  simp [callFunc, Tryz.func113, go_sem]
  rfl
namespace Qm
def sclB (xs : List Int) (k : Int) : Bool := anyB (fun p => mulB (ge xs p) k) xs.length
def scl (xs : List Int) (k : Int) : List Int := tab (fun p => mul (ge xs p) k) xs.length
end Qm
/-- reckoned, as Scale calls it -/
theorem scale_reck (R C : Nat) (hR : R ≤ 8) (hC : C ≤ 8) (k : Int) (xs : List Int) (hn : xs.length = R * C) (P bk K : Nat) (w : World) (hA : AtBox w P bk C xs) (hK : w.heap[K]? = some (.cells #[.int .i64 k] 27 (0, 0))) :
    Calls Tryz.prog 85 #[.agg #[.int .i64 R, .int .i64 C], .func (.func 113) #[] #[.pointer (some ⟨P, 0, none⟩), .pointer (some ⟨K, 0, none⟩)]] w fun e b =>
      ∃ v, e = .returned (.tuple #[.agg #[.int .i64 R, .int .i64 C, v], .bool (sclB xs k)]) ∧ Sees b v (scl xs k) ∧ New w.heap.size v ∧ Below w.heap.size w b := by
  have h64 : R * C ≤ 64 := mul_le_64 hR hC
  unfold sclB scl
  rw [hn]
  refine reckoned_any R C hR hC 113 enters54 #[.pointer (some ⟨P, 0, none⟩), .pointer (some ⟨K, 0, none⟩)] (fun p => mul (ge xs p) k) (fun p => mulB (ge xs p) k) w ?_
  intro i j a hi hj hb
  exact scale1_any i j C P bk K k xs a (by omega) hj hC (by omega) (by rw [hn]; exact at_lt hi hj) (hA.below hb) (cell_of_one (keep hb hK))

set_option maxHeartbeats 800000 in
theorem scale_any (R C : Nat) (h1 : 1 ≤ R) (hR : R ≤ 8) (h2 : 1 ≤ C) (hC : C ≤ 8) (k : Int) (v : Value) (xs : List Int) (hn : xs.length = R * C) (w : World) (hs : Sees w v xs) :
    Calls Tryz.prog 101 #[.agg #[.int .i64 R, .int .i64 C, v], .int .i64 k] w fun e b =>
      ∃ v, e = .returned (.tuple #[.agg #[.int .i64 R, .int .i64 C, v], .bool (sclB xs k)]) ∧ Sees b v (scl xs k) ∧ New w.heap.size v ∧ Below w.heap.size w b := by
  obtain ⟨ao, cap, rfl⟩ := hs.slice
  have hl : laidB R C xs.length = true := laidB_mk h1 hR h2 hC hn
  obtain ⟨S, hS⟩ : ∃ S, sclB xs k = S := ⟨_, rfl⟩
  have hrk := fun P bk K w hA hK => scale_reck R C hR hC k xs hn P bk K w hA hK
  rw [hS] at hrk ⊢
  clear hn hS
  go_enter Tryz.func101, Tryz.ntmps101
  go_wp2_with (first
    | (go_at_call 51; refine (laid_any _ _ _ _ _ _).mono ?_; rintro e w1 ⟨rfl, b1⟩; have a1 := keep b1 (allocs3 w _ _ _).1; have q1 := keep b1 (allocs3 w _ _ _).2.1; have r1 := keep b1 (allocs3 w _ _ _).2.2; have s1 := hs.below (bt (ball3 w _ _ _) b1); obtain ⟨c0, c1, c2, _⟩ := mat_cells a1)
    | (go_at_call 52; refine (numbers_any _ _ _ _ _ _).mono ?_; rintro e w2 ⟨rfl, rfl⟩; obtain ⟨d0, d1, d2, _⟩ := mat_cells (heap_old (heap_old a1 (.cells #[.int .i64 R, .int .i64 C, .slice ao xs.length cap] 24)) (.cells #[.func (.func 89) #[] #[.pointer (some ⟨w1.heap.size, 0, none⟩)]] 83)))
    | (go_at_call 54; refine (sizeOf_any _ _ _ _ _ _).mono ?_; rintro e w3 ⟨rfl, b3⟩; have A3 := (atbox_mk s1).below b3)
    | (go_at_call 85; have r3 := keep b3 (heap_old (heap_old r1 _) _); refine (hrk _ _ _ _ A3 (keep b3 (heap_old (heap_old q1 _) _))).mono ?_; rintro e w4 ⟨v4, rfl, s4, n4, b4⟩; obtain ⟨ao4, cap4, rfl⟩ := s4.slice; obtain ⟨f0, f1, f2, g0, g1, g2⟩ := mat_cells (keep b4 r3)))
  refine bodyPost_ret (v := .tuple #[.agg #[.int .i64 R, .int .i64 C, .slice ao4 (scl xs k).length cap4], .bool S]) (by simp [results, Tryz.results101, go_sem, f0, f1, f2]) rfl ?_
  exact ⟨_, rfl, s4.put n4 (lt_of_block r3) _ _ _, n4.mono (bt (bt (bt (ball3 w _ _ _) b1) (ball2 w1 _ _)) b3).size, below_put (bt (bt (bt (bt (ball3 w _ _ _) b1) (ball2 w1 _ _)) b3) b4) (by omega) _ _ _⟩
end Go.Proofs.YtiniobcknmaigaaGreat

/-
  The contract of the document's Scale.
-/
namespace Go.Proofs.YtiniobcknmaigaaGreat
open Go.RowKit Go.Sort Qm

/-- what stands where up to place k has been filled -/
def Qm.upto (t : Nat → Int) (k : Nat) : Nat → Int := fun p => if p < k then t p else 0
theorem Qm.upto_zero (t : Nat → Int) (n p : Nat) (_ : p < n) : (0 : Int) = upto t 0 p := by simp [upto]
theorem Qm.upto_succ (t : Nat → Int) (k n p : Nat) (_ : p < n) : (if p = k then t k else upto t k p) = upto t (k + 1) p := by
  unfold upto
  by_cases h : p = k
  · subst h; simp
  · rw [if_neg h]
    by_cases h2 : p < k
    · rw [if_pos h2, if_pos (by omega)]
    · rw [if_neg h2, if_neg (by omega)]
theorem Qm.upto_all (t : Nat → Int) (n : Nat) : tab (upto t n) n = tab t n := tab_congr fun p hp => by unfold upto; rw [if_pos hp]

theorem Sees.at {w : World} {ao : Option Addr} {n cap : Nat} {xs : List Int} (h : Sees w (.slice ao n cap) xs) (k : Nat) (hk : k < xs.length) : ∃ ad, ao = some ad ∧ w.cell? (ad.add k) = some (.int .i64 (ge xs k)) := by
  obtain ⟨ao', cap', he, hc⟩ := h
  simp only [Value.slice.injEq] at he
  obtain ⟨ad, h1, _, h2⟩ := hc k hk
  exact ⟨ad, he.1.trans h1, h2⟩
theorem new_at (g n cap : Nat) : New g (.slice (some ⟨g, 0, none⟩) n cap) := fun k e => by cases e; exact Nat.le_refl _

set_option maxRecDepth 20000 in
set_option maxHeartbeats 1600000 in
theorem rscale_any (R C : Nat) (h1 : 1 ≤ R) (hR : R ≤ 8) (h2 : 1 ≤ C) (hC : C ≤ 8) (k0 : Int) (v : Value) (xs : List Int) (hn : xs.length = R * C) (w : World) (hs : Sees w v xs) :
    Calls Tryz.prog 34 #[.agg #[.int .i64 R, .int .i64 C, v], .int .i64 k0] w fun e b =>
      ∃ v, e = .returned (.tuple #[.agg #[.int .i64 R, .int .i64 C, v], .bool (sclB xs k0)]) ∧ Sees b v (scl xs k0) ∧ New w.heap.size v ∧ Below w.heap.size w b := by
  have h64 : R * C ≤ 64 := mul_le_64 hR hC
  have hno := fun w => none_any R C hR hC h1 h2 w
  obtain ⟨n, hn'⟩ : ∃ n, xs.length = n := ⟨_, rfl⟩
  have hq : R * C = n := by omega
  rw [hq] at h64 hno
  unfold sclB scl
  rw [hn']
  obtain ⟨S, hS⟩ : ∃ S, anyB (fun p => mulB (ge xs p) k0) n = S := ⟨_, rfl⟩
  have HS : Hid (anyB (fun p => mulB (ge xs p) k0) n = S) := hS
  rw [hS]
  obtain ⟨ao, cap, rfl, ha⟩ := hs
  rw [hn'] at ha ⊢
  have hs : Sees w (.slice ao n cap) xs := ⟨ao, cap, by rw [hn'], by rw [hn']; exact ha⟩
  have hxl : n ≤ xs.length := by omega
  clear hn hn' hq hS ha
  obtain ⟨W, hW⟩ : ∃ W, (w.alloc (.cells #[.int .i64 R, .int .i64 C, .slice ao n cap] 24)).alloc (.cells #[.int .i64 0, .int .i64 0, .slice none 0 0] 24) = W := ⟨_, rfl⟩
  obtain ⟨x1, x2⟩ := allocs2 w (.cells #[.int .i64 R, .int .i64 C, .slice ao n cap] 24) (.cells #[.int .i64 0, .int .i64 0, .slice none 0 0] 24)
  have bq := ball2 w (.cells #[.int .i64 R, .int .i64 C, .slice ao n cap] 24) (.cells #[.int .i64 0, .int .i64 0, .slice none 0 0] 24)
  rw [hW] at x1 x2 bq
  obtain ⟨u0, u1, u2, _⟩ := mat_cells x1
  go_enter Tryz.func34, Tryz.ntmps34
  go_wp2_with (go_at_call 61; refine (hno _).mono ?_; rintro e w1 ⟨g, gc, rfl, hown, b1⟩)
  clear u0 u1 u2
  have hgW := (hown.lt g rfl).1
  have hDg : w.heap.size + 1 < g := Nat.lt_of_lt_of_le (lt_of_block x2) hgW
  have y1 := heap_old (keep b1 x1) (.cells #[.int .i64 R, .int .i64 C, .slice (some ⟨g, 0, none⟩) n gc] 24)
  have y2 := heap_old (keep b1 x2) (.cells #[.int .i64 R, .int .i64 C, .slice (some ⟨g, 0, none⟩) n gc] 24)
  have y3 := heap_new w1 (.cells #[.int .i64 R, .int .i64 C, .slice (some ⟨g, 0, none⟩) n gc] 24)
  have bw := (bt (bt bq b1) (box_below w1 (.cells #[.int .i64 R, .int .i64 C, .slice (some ⟨g, 0, none⟩) n gc] 24)))
  have F0 : Fills (w1.alloc (.cells #[.int .i64 R, .int .i64 C, .slice (some ⟨g, 0, none⟩) n gc] 24)) g gc n (fun _ => 0) (w1.alloc (.cells #[.int .i64 R, .int .i64 C, .slice (some ⟨g, 0, none⟩) n gc] 24)) := Fills.start (hown.alloc _)
  have hgw : w.heap.size ≤ g := Nat.le_trans bq.size hgW
  obtain ⟨V, hV⟩ : ∃ V, w1.alloc (.cells #[.int .i64 R, .int .i64 C, .slice (some ⟨g, 0, none⟩) n gc] 24) = V := ⟨_, rfl⟩
  rw [hV] at y1 y2 y3 bw F0 ⊢
  have gx1 := F0.apart y1
  have gx2 := F0.apart y2
  have gx3 := F0.apart y3
  clear hV hW x1 x2 hown b1 bq hno
  go_loopw [7, 8] (fun m i wr => ∃ k : Nat, k ≤ n ∧ i = .int .i64 k ∧ m = .bool (anyB (fun p => mulB (ge xs p) k0) k) ∧ Fills V g gc n (upto (fun p => mul (ge xs p) k0) k) wr) (fun _ i _ => n - (intOf i).toNat)
  case atStart => exact ⟨0, Nat.zero_le _, rfl, rfl, F0.congr (upto_zero _ n)⟩
  case round =>
    clear F0
    obtain ⟨k, hk, rfl, rfl, hF⟩ := hrel
    obtain ⟨u0, u1, u2, _⟩ := mat_cells (hF.keep y1 gx1)
    obtain ⟨v0, v1, v2, _⟩ := mat_cells (hF.keep y3 gx3)
    by_cases hlt : k < n
    · have hc := hF.cell hlt
      have hf := hF.free k
      have HM : Hid (anyB (fun p => mulB (ge xs p) k0) (k + 1) = (anyB (fun p => mulB (ge xs p) k0) k || mulB (ge xs k) k0)) := rfl
      have HF := (hF.store k (mul (ge xs k) k0)).congr (upto_succ (fun p => mul (ge xs p) k0) k n)
      obtain ⟨ad, rfl, ca⟩ := (hF.sees hs bw hgw).at k (by omega)
      obtain ⟨x, hx⟩ : ∃ x, ge xs k = x := ⟨_, rfl⟩
      obtain ⟨M, hM⟩ : ∃ M, anyB (fun p => mulB (ge xs p) k0) k = M := ⟨_, rfl⟩
      rw [hx] at HM HF ca
      rw [hM] at HM ⊢
      clear hx hM hF
      cases M
      all_goals
        go_wp2_with (go_at_call 31; refine (rmul_any _ _ _).mono ?_; rintro e wy ⟨rfl, rfl⟩)
        go_roundw
        case rel => exact ⟨k + 1, by omega, by go_num, by rw [HM.out]; rfl, HF⟩
        case measure => simp [intOf]; omega
    · have e : k = n := by omega
      subst e
      rw [HS.out]
      obtain ⟨d0, d1, d2, f0, f1, f2⟩ := mat_cells (hF.keep y2 gx2)
      have hsh := hF.shows
      rw [upto_all] at hsh
      have hbl := hF.below bw hgw
      clear hF
      go_wp2
      refine bodyPost_ret (v := .tuple #[.agg #[.int .i64 R, .int .i64 C, .slice (some ⟨g, 0, none⟩) k gc], .bool S]) (by simp [results, Tryz.results34, go_sem, d0, d1, d2]) rfl ?_
      exact ⟨_, rfl, hsh.put (new_at g k gc) hDg _ _ _, (new_at g k gc).mono hgw, below_put hbl (by omega) _ _ _⟩
end Go.Proofs.YtiniobcknmaigaaGreat
