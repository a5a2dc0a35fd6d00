/-
  The contracts of mat.diagonal, mat.Eye and mat.Diag.
-/
import Derived.Test.YtiniobcknmaigaaTrans
namespace Go.Proofs.Ytiniobcknmaigaa
open Go.RowKit Go.Sort Qm

theorem enters73 : ∀ (args : Array Value) (a : World), Sem.run Try.prog (callFunc 82 args) a = Result.ok (Next.enter 82 args) a := by
  intro args a
  simp [callFunc, Try.func82, go_sem]
  rfl
theorem enters50 : ∀ (args : Array Value) (a : World), Sem.run Try.prog (callFunc 97 args) a = Result.ok (Next.enter 97 args) a := by
  intro args a
  simp [callFunc, Try.func97, go_sem]
  rfl
theorem enters53 : ∀ (args : Array Value) (a : World), Sem.run Try.prog (callFunc 56 args) a = Result.ok (Next.enter 56 args) a := by
  intro args a
  simp [callFunc, Try.func56, go_sem]
  rfl
namespace Qm
/-- a diagonal -/
def dia (d : Nat → Int) (n : Nat) : List Int := tab (fun p => if p / n = p % n then d (p / n) else 0) (n * n)
end Qm

section
variable (H : Nat) (hH : ∀ (args : Array Value) (a : World), Sem.run Try.prog (callFunc H args) a = Result.ok (Next.enter H args) a) (caps : Array Value) (d : Nat → Int)
include hH

theorem diagonal1_any (i j : Nat) (T : Nat) (w : World) (hT : w.cell? ⟨T, 0, none⟩ = some (.func (.func H) #[] caps))
    (hc : Calls Try.prog H (#[.int .i64 i] ++ caps) w fun e b => e = .returned (.int .i64 (d i)) ∧ b = w) :
    Calls Try.prog 82 #[.int .i64 i, .int .i64 j, .pointer (some ⟨T, 0, none⟩)] w fun e w' => e = .returned (.int .i64 (if i = j then d i else 0)) ∧ w' = w := by
  by_cases h : i = j
  · rw [if_pos h]
    subst h
    go_enter Try.func82, Try.ntmps82
    go_wp2_with (refine Calls.mono hc ?_; rintro e w' ⟨rfl, rfl⟩)
    go_ret
    exact ⟨rfl, rfl⟩
  · rw [if_neg h]
    have e1 : ¬ ((i : Int) = (j : Int)) := by omega
    go_enter Try.func82, Try.ntmps82
    go_wp2
    go_ret
    exact ⟨rfl, rfl⟩

set_option maxHeartbeats 400000 in
theorem diagonal_any (n : Nat) (hn : n ≤ 8) (w : World) (hc : ∀ i a, i < n → Below w.heap.size w a → Calls Try.prog H (#[.int .i64 (i : Nat)] ++ caps) a fun e b => e = .returned (.int .i64 (d i)) ∧ b = a) :
    Calls Try.prog 55 #[.int .i64 n, .func (.func H) #[] caps] w fun e b => ∃ v, e = .returned (.agg #[.int .i64 n, .int .i64 n, v]) ∧ Sees b v (dia d n) ∧ New w.heap.size v ∧ Below w.heap.size w b := by
  obtain ⟨W, hW⟩ : ∃ W, (w.alloc (.cells #[.func (.func H) #[] caps] 91)).alloc (.cells #[.int .i64 0, .int .i64 0, .slice none 0 0] 24) = W := ⟨_, rfl⟩
  obtain ⟨x1, x2⟩ := allocs2 w (.cells #[.func (.func H) #[] caps] 91) (.cells #[.int .i64 0, .int .i64 0, .slice none 0 0] 24)
  have bW := ball2 w (.cells #[.func (.func H) #[] caps] 91) (.cells #[.int .i64 0, .int .i64 0, .slice none 0 0] 24)
  rw [hW] at x1 x2 bW
  have hf := fill_pure n n hn hn 82 enters73 #[.pointer (some ⟨w.heap.size, 0, none⟩)] (fun p => if p / n = p % n then d (p / n) else 0) W (by
    intro i j a hi hj hb
    have e1 : (i * n + j) % n = j := mod_of hj
    have e2 : (i * n + j) / n = i := div_of hj
    simp only [e1, e2]
    refine (diagonal1_any H hH caps d i j w.heap.size a (cell_of_one (keep hb x1)) (hc i a hi (bt bW hb))).mono ?_
    rintro e b ⟨rfl, rfl⟩
    exact ⟨rfl, Below.refl _ _⟩)
  change Calls Try.prog 61 _ W (fun e b => ∃ v, _ ∧ Sees b v (dia d n) ∧ _) at hf
  rw [← hW] at hf x1 x2 bW
  clear hc hH hW
  go_enter Try.func55, Try.ntmps55
  go_wp2_with (go_at_call 61; refine hf.mono ?_; rintro e w4 ⟨v4, rfl, s4, n4, b4⟩; obtain ⟨ao4, cap4, rfl⟩ := s4.slice; obtain ⟨f0, f1, f2, k0, k1, k2⟩ := mat_cells (keep b4 x2))
  refine bodyPost_ret (v := .agg #[.int .i64 n, .int .i64 n, .slice ao4 (dia d n).length cap4]) (by simp [results, Try.results55, go_sem, f0, f1, f2]) rfl ?_
  exact ⟨_, rfl, s4.put n4 (lt_of_block x2) _ _ _, n4.mono bW.size, below_put (bt bW b4) (by omega) _ _ _⟩
end

theorem eye1_any (i : Int) (w : World) : Calls Try.prog 97 (#[.int .i64 i] ++ #[]) w fun e b => e = .returned (.int .i64 16777216) ∧ b = w := by
  show Calls Try.prog 97 #[.int .i64 i] w _
  go_enter Try.func97, Try.ntmps97
  go_wp2
  go_ret
  exact ⟨rfl, rfl⟩

theorem diag1_any (i : Nat) (L : Nat) (v : Value) (xs : List Int) (w : World) (hi : i < xs.length) (hL : w.cell? ⟨L, 0, none⟩ = some v) (hs : Sees w v xs) :
    Calls Try.prog 56 (#[.int .i64 i] ++ #[.pointer (some ⟨L, 0, none⟩)]) w fun e b => e = .returned (.int .i64 (ge xs i)) ∧ b = w := by
  show Calls Try.prog 56 #[.int .i64 i, .pointer (some ⟨L, 0, none⟩)] w _
  obtain ⟨ao, cap, rfl, hc⟩ := hs
  obtain ⟨ad, rfl, _, hcell⟩ := hc i hi
  clear hc
  go_enter Try.func56, Try.ntmps56
  go_wp2
  go_ret
  exact ⟨rfl, rfl⟩

set_option maxHeartbeats 400000 in
theorem eye_any (n : Nat) (h1 : 1 ≤ n) (hn : n ≤ 8) (w : World) :
    Calls Try.prog 77 #[.int .i64 n] w fun e b => ∃ v, e = .returned (.tuple #[.agg #[.int .i64 n, .int .i64 n, v], .int .i64 0]) ∧ Sees b v (dia (fun _ => 16777216) n) ∧ New w.heap.size v ∧ Below w.heap.size w b := by
  have hk : cntB n = true := cntB_t (by omega) (by omega)
  have hd := fun W => diagonal_any 97 enters50 #[] (fun _ => 16777216) n hn W (fun i a _ _ => eye1_any i a)
  go_enter Try.func77, Try.ntmps77
  go_wp2_with (first
    | (go_at_call 53; refine (mayCount_any _ _).mono ?_; rintro e w' ⟨rfl, rfl⟩)
    | (go_at_call 55; refine (hd _).mono ?_; rintro e w4 ⟨v4, rfl, s4, n4, b4⟩; have r3 := heap_new w (.cells #[.int .i64 0, .int .i64 0, .slice none 0 0] 24); obtain ⟨ao4, cap4, rfl⟩ := s4.slice; obtain ⟨f0, f1, f2, k0, k1, k2⟩ := mat_cells (keep b4 r3)))
  refine bodyPost_ret (v := .tuple #[.agg #[.int .i64 n, .int .i64 n, .slice ao4 (dia (fun _ => 16777216) n).length cap4], .int .i64 0]) (by simp [results, Try.results77, go_sem, f0, f1, f2]) rfl ?_
  exact ⟨_, rfl, s4.put n4 (lt_of_block r3) _ _ _, n4.mono (box_below _ _).size, below_put (bt (box_below _ _) b4) (Nat.le_refl _) _ _ _⟩

theorem eye_not (n : Int) (h : ¬ (1 ≤ n ∧ n ≤ 8)) (w : World) :
    Calls Try.prog 77 #[.int .i64 n] w fun e b => e = .returned (.tuple #[.agg #[.int .i64 0, .int .i64 0, .slice none 0 0], .int .i64 1]) ∧ Below w.heap.size w b := by
  have hk : cntB n = false := cntB_f h
  go_enter Try.func77, Try.ntmps77
  go_wp2_with (go_at_call 53; refine (mayCount_any _ _).mono ?_; rintro e w' ⟨rfl, rfl⟩)
  refine bodyPost_ret (v := .tuple #[.agg #[.int .i64 0, .int .i64 0, .slice none 0 0], .int .i64 1]) (by simp [results, Try.results77, go_sem]) rfl ?_
  exact ⟨rfl, box_below _ _⟩

set_option maxHeartbeats 400000 in
theorem diag_any (v : Value) (xs : List Int) (h1 : 1 ≤ xs.length) (hn : xs.length ≤ 8) (ho : outB xs xs.length = false) (w : World) (hs : Sees w v xs) :
    Calls Try.prog 26 #[v] w fun e b => ∃ v, e = .returned (.tuple #[.agg #[.int .i64 (xs.length : Nat), .int .i64 (xs.length : Nat), v], .int .i64 0]) ∧ Sees b v (dia (ge xs) xs.length) ∧ New w.heap.size v ∧ Below w.heap.size w b := by
  obtain ⟨ao, cap, rfl⟩ := hs.slice
  have hk : cntB (xs.length : Int) = true := cntB_t (by omega) (by omega)
  have bW := ball2 w (.cells #[.slice ao xs.length cap] 22) (.cells #[.int .i64 0, .int .i64 0, .slice none 0 0] 24)
  obtain ⟨x1, x2⟩ := allocs2 w (.cells #[.slice ao xs.length cap] 22) (.cells #[.int .i64 0, .int .i64 0, .slice none 0 0] 24)
  have hct := contains_any (.slice ao xs.length cap) xs _ (by omega) (hs.below bW)
  have hd := diagonal_any 56 enters53 #[.pointer (some ⟨w.heap.size, 0, none⟩)] (ge xs) xs.length hn _ (fun i a hi hb => diag1_any i w.heap.size (.slice ao xs.length cap) xs a hi (cell_of_one (keep hb x1)) (hs.below (bt bW hb)))
  rw [ho] at hct
  go_enter Try.func26, Try.ntmps26
  go_wp2_with (first
    | (go_at_call 53; refine (mayCount_any _ _).mono ?_; rintro e w' ⟨rfl, rfl⟩)
    | (go_at_call 34; refine hct.mono ?_; rintro e w' ⟨rfl, rfl⟩)
    | (go_at_call 55; refine hd.mono ?_; rintro e w4 ⟨v4, rfl, s4, n4, b4⟩; obtain ⟨ao4, cap4, rfl⟩ := s4.slice; obtain ⟨f0, f1, f2, k0, k1, k2⟩ := mat_cells (keep b4 x2)))
  refine bodyPost_ret (v := .tuple #[.agg #[.int .i64 (xs.length : Nat), .int .i64 (xs.length : Nat), .slice ao4 (dia (ge xs) xs.length).length cap4], .int .i64 0]) (by simp [results, Try.results26, go_sem, f0, f1, f2]) rfl ?_
  exact ⟨_, rfl, s4.put n4 (lt_of_block x2) _ _ _, n4.mono bW.size, below_put (bt bW b4) (by omega) _ _ _⟩

set_option maxHeartbeats 400000 in
theorem diag_not (v : Value) (xs : List Int) (hn : xs.length ≤ 100) (h : ¬ (1 ≤ xs.length ∧ xs.length ≤ 8 ∧ outB xs xs.length = false)) (w : World) (hs : Sees w v xs) :
    Calls Try.prog 26 #[v] w fun e b => e = .returned (.tuple #[.agg #[.int .i64 0, .int .i64 0, .slice none 0 0], .int .i64 1]) ∧ Below w.heap.size w b := by
  obtain ⟨ao, cap, rfl⟩ := hs.slice
  have bW := ball2 w (.cells #[.slice ao xs.length cap] 22) (.cells #[.int .i64 0, .int .i64 0, .slice none 0 0] 24)
  have hct := contains_any (.slice ao xs.length cap) xs _ hn (hs.below bW)
  by_cases h2 : 1 ≤ xs.length ∧ xs.length ≤ 8
  · have ho : outB xs xs.length = true := by
      cases e : outB xs xs.length with
      | true => rfl
      | false => exact absurd ⟨h2.1, h2.2, e⟩ h
    have hk : cntB (xs.length : Int) = true := cntB_t (by omega) (by omega)
    rw [ho] at hct
    go_enter Try.func26, Try.ntmps26
    go_wp2_with (first
      | (go_at_call 53; refine (mayCount_any _ _).mono ?_; rintro e w' ⟨rfl, rfl⟩)
      | (go_at_call 34; refine hct.mono ?_; rintro e w' ⟨rfl, rfl⟩))
    refine bodyPost_ret (v := .tuple #[.agg #[.int .i64 0, .int .i64 0, .slice none 0 0], .int .i64 1]) (by simp [results, Try.results26, go_sem]) rfl ?_
    exact ⟨rfl, bW⟩
  · have hk : cntB (xs.length : Int) = false := cntB_f (by omega)
    clear hct
    go_enter Try.func26, Try.ntmps26
    go_wp2_with (go_at_call 53; refine (mayCount_any _ _).mono ?_; rintro e w' ⟨rfl, rfl⟩)
    refine bodyPost_ret (v := .tuple #[.agg #[.int .i64 0, .int .i64 0, .slice none 0 0], .int .i64 1]) (by simp [results, Try.results26, go_sem]) rfl ?_
    exact ⟨rfl, bW⟩
end Go.Proofs.Ytiniobcknmaigaa
