/-
  Texts joined, in the order in which they stand on one another: Paired AddSub RAdd.
-/
import Derived.Test.YtiniobcknmaigaaGreatG04
import Derived.Test.YtiniobcknmaigaaGreatG07
import Derived.Test.YtiniobcknmaigaaGreatG09
import Derived.Deep.RegionWith
import Derived.Deep.CutRange
/-
  The contracts of mat.paired, over whatever call leaves the world as it was, of mat.Add and of mat.Sub.
-/
namespace Go.Proofs.YtiniobcknmaigaaGreat
open Go.RowKit Go.Sort Qm

theorem enters64 : ∀ (args : Array Value) (a : World), Sem.run Tryz.prog (callFunc 109 args) a = Result.ok (Next.enter 109 args) a := by
  intro args a
  simp [callFunc, Tryz.func109, go_sem]
  rfl
theorem enters34 : ∀ (args : Array Value) (a : World), Sem.run Tryz.prog (callFunc 41 args) a = Result.ok (Next.enter 41 args) a := by
  intro args a
  simp [callFunc, Tryz.func41, go_sem]
  rfl
theorem enters37 : ∀ (args : Array Value) (a : World), Sem.run Tryz.prog (callFunc 39 args) a = Result.ok (Next.enter 39 args) a := by
  intro args a
  simp [callFunc, Tryz.func39, go_sem]
  rfl

namespace Qm
/-- what a call tells of each two numbers at the same place -/
def pai (t : Int → Int → Int) (xs ys : List Int) : List Int := tab (fun p => t (ge xs p) (ge ys p)) xs.length
def paiB (o : Int → Int → Bool) (xs ys : List Int) : Bool := anyB (fun p => o (ge xs p) (ge ys p)) xs.length
end Qm

section
variable (G : Nat) (hG : ∀ (args : Array Value) (a : World), Sem.run Tryz.prog (callFunc G args) a = Result.ok (Next.enter G args) a) (t : Int → Int → Int) (o : Int → Int → Bool)
  (hC : ∀ x y w, Calls Tryz.prog G #[.int .i64 x, .int .i64 y] w fun e w' => e = .returned (.tuple #[.int .i64 (t x y), .bool (o x y)]) ∧ w' = w)
include hG hC

set_option maxHeartbeats 400000 in
theorem paired1_any (i j c : Nat) (F P bA Q bB : Nat) (xs ys : List Int) (w : World) (hi : i ≤ 8) (hj : j < c) (hc : c ≤ 8) (hx : xs.length ≤ 64) (hy : ys.length ≤ 64)
    (hxa : i * c + j < xs.length) (hya : i * c + j < ys.length) (hA : AtBox w P bA c xs) (hB : AtBox w Q bB c ys) (hF : w.cell? ⟨F, 0, none⟩ = some (.func (.func G) #[] #[])) :
    Calls Tryz.prog 109 #[.int .i64 i, .int .i64 j, .pointer (some ⟨F, 0, none⟩), .pointer (some ⟨P, 0, none⟩), .pointer (some ⟨Q, 0, none⟩)] w fun e w' =>
      e = .returned (.tuple #[.int .i64 (t (ge xs (i * c + j)) (ge ys (i * c + j))), .bool (o (ge xs (i * c + j)) (ge ys (i * c + j)))]) ∧ Below w.heap.size w w' := by
  have k1 := cell_regrown hA.1
  have k2 := cell_regrown hB.1
  have k3 := cell_regrown hF
  have cA := at_calm i j c P bA xs w hi hj hc hx hxa hA
  have cB := at_calm i j c Q bB ys w hi hj hc hy hya hB
  obtain ⟨x, hx'⟩ : ∃ x, ge xs (i * c + j) = x := ⟨_, rfl⟩
  obtain ⟨y, hy'⟩ : ∃ y, ge ys (i * c + j) = y := ⟨_, rfl⟩
  rw [hx'] at cA ⊢
  rw [hy'] at cB ⊢
  clear hx' hy' hA hB hF hxa hya
  have cM : ∀ (d : Nat) (os : Array Obj), Calls Tryz.prog G #[.int .i64 x, .int .i64 y] (grow (redrawn w d) os) fun e w'' => e = .returned (.tuple #[.int .i64 (t x y), .bool (o x y)]) ∧ ∃ p : Regrown, w'' = grow (redrawn w p.d) p.os :=
    fun d os => Calls.regrown_of ((hC x y _).mono fun e w' hh => ⟨hh.1, by rw [hh.2]; exact Below.refl _ _⟩)
  go_enter Tryz.func109, Tryz.ntmps109
  go_wp2
  refine wp_region_quiet_below (by kernel_rfl) (by kernel_rfl) ?_
  repeat (quiet_step (first | (go_at_call_of 89 (Value.pointer (some ⟨bA, 0, none⟩)); exact cA _ _) | (go_at_call_of 89 (Value.pointer (some ⟨bB, 0, none⟩)); exact cB _ _) | exact cM _ _))
  refine wpQuiet_nil ?_
  intro _ hw'
  obtain ⟨⟨dq, osq⟩, hw''⟩ := hw'
  subst hw''
  go_wp2
  go_ret2
  exact ⟨rfl, below_regrown w dq osq⟩

theorem paired_reck (R C : Nat) (hR : R ≤ 8) (hC8 : C ≤ 8) (xs ys : List Int) (hx : xs.length = R * C) (hy : ys.length = R * C) (F P bA Q bB : Nat) (w : World) (hA : AtBox w P bA C xs) (hB : AtBox w Q bB C ys) (hF : w.heap[F]? = some (.cells #[.func (.func G) #[] #[]] 69 (0, 0))) :
    Calls Tryz.prog 85 #[.agg #[.int .i64 R, .int .i64 C], .func (.func 109) #[] #[.pointer (some ⟨F, 0, none⟩), .pointer (some ⟨P, 0, none⟩), .pointer (some ⟨Q, 0, none⟩)]] w fun e b =>
      ∃ v, e = .returned (.tuple #[.agg #[.int .i64 R, .int .i64 C, v], .bool (paiB o xs ys)]) ∧ Sees b v (pai t xs ys) ∧ New w.heap.size v ∧ Below w.heap.size w b := by
  have h64 : R * C ≤ 64 := mul_le_64 hR hC8
  unfold paiB pai
  rw [hx]
  refine reckoned_any R C hR hC8 109 enters64 #[.pointer (some ⟨F, 0, none⟩), .pointer (some ⟨P, 0, none⟩), .pointer (some ⟨Q, 0, none⟩)] (fun p => t (ge xs p) (ge ys p)) (fun p => o (ge xs p) (ge ys p)) w ?_
  intro i j a hi hj hb
  exact paired1_any G hG t o hC i j C F P bA Q bB xs ys a (by omega) hj hC8 (by omega) (by omega) (by rw [hx]; exact at_lt hi hj) (by rw [hy]; exact at_lt hi hj) (hA.below hb) (hB.below hb) (cell_of_one (keep hb hF))

set_option maxHeartbeats 1600000 in
theorem paired_any (R C : Nat) (r1 : 1 ≤ R) (hR : R ≤ 8) (c1 : 1 ≤ C) (hC8 : C ≤ 8) (va vb : Value) (xs ys : List Int) (hx : xs.length = R * C) (hy : ys.length = R * C) (w : World) (sa : Sees w va xs) (sb : Sees w vb ys) :
    Calls Tryz.prog 90 #[.agg #[.int .i64 R, .int .i64 C, va], .agg #[.int .i64 R, .int .i64 C, vb], .func (.func G) #[] #[]] w fun e b =>
      ∃ v, e = .returned (.tuple #[.agg #[.int .i64 R, .int .i64 C, v], .bool (paiB o xs ys), .int .i64 0]) ∧ Sees b v (pai t xs ys) ∧ New w.heap.size v ∧ Below w.heap.size w b := by
  obtain ⟨ao, cap, rfl⟩ := sa.slice
  obtain ⟨bo, bcap, rfl⟩ := sb.slice
  have hla : laidB R C xs.length = true := laidB_mk r1 hR c1 hC8 hx
  have hlb : laidB R C ys.length = true := laidB_mk r1 hR c1 hC8 hy
  have hrk := fun F P bA Q bB w hA hB hF => paired_reck G hG t o hC R C hR hC8 xs ys hx hy F P bA Q bB w hA hB hF
  obtain ⟨S, hS⟩ : ∃ S, paiB o xs ys = S := ⟨_, rfl⟩
  rw [hS] at hrk ⊢
  clear hx hy hS hG hC
  obtain ⟨x1, x2, x3, x4⟩ := allocs4 w (.cells #[.int .i64 R, .int .i64 C, .slice ao xs.length cap] 24) (.cells #[.int .i64 R, .int .i64 C, .slice bo ys.length bcap] 24) (.cells #[.func (.func G) #[] #[]] 69) (.cells #[.int .i64 0, .int .i64 0, .slice none 0 0] 24)
  have bq := ball4 w (.cells #[.int .i64 R, .int .i64 C, .slice ao xs.length cap] 24) (.cells #[.int .i64 R, .int .i64 C, .slice bo ys.length bcap] 24) (.cells #[.func (.func G) #[] #[]] 69) (.cells #[.int .i64 0, .int .i64 0, .slice none 0 0] 24)
  obtain ⟨u0, u1, u2, _⟩ := mat_cells x1
  obtain ⟨v0, v1, v2, _⟩ := mat_cells x2
  have m0 := cell_regrown u0
  have m1 := cell_regrown u1
  have m2 := cell_regrown u2
  have m3 := cell_regrown v0
  have m4 := cell_regrown v1
  have m5 := cell_regrown v2
  go_enter Tryz.func90, Tryz.ntmps90
  go_upto_region 1 with fail
  refine wp_region_quiet_below (by kernel_rfl) (by kernel_rfl) ?_
  repeat (quiet_step ((go_at_call 54; exact sizeOf_calm _ _ _ _ _ _ _ _)))
  refine wpQuiet_nil ?_
  intro _ hw'
  obtain ⟨⟨dq, osq⟩, hw''⟩ := hw'
  have bz : Below _ _ _ := below_regrown ((((w.alloc (.cells #[.int .i64 R, .int .i64 C, .slice ao xs.length cap] 24)).alloc (.cells #[.int .i64 R, .int .i64 C, .slice bo ys.length bcap] 24)).alloc (.cells #[.func (.func G) #[] #[]] 69)).alloc (.cells #[.int .i64 0, .int .i64 0, .slice none 0 0] 24)) dq osq
  rw [← hw''] at bz
  clear hw'' m0 m1 m2 m3 m4 m5 u0 u1 u2 v0 v1 v2
  rename_i W
  have y1 := keep bz x1
  have y2 := keep bz x2
  have y3 := keep bz x3
  have y4 := keep bz x4
  have b0 := bt bq bz
  clear bz bq x1 x2 x3 x4
  obtain ⟨u0, u1, u2, _⟩ := mat_cells y1
  obtain ⟨v0, v1, v2, _⟩ := mat_cells y2
  go_upto_region 5 with (first
    | (go_at_call_of 51 (Value.slice ao xs.length cap); refine (laid_any _ _ _ _ _ _).mono ?_; rintro e w1 ⟨rfl, b1⟩; have a1 := keep b1 y1; have q1 := keep b1 y2; obtain ⟨c0, c1, c2, _⟩ := mat_cells a1; obtain ⟨d0, d1, d2, _⟩ := mat_cells q1)
    | (go_at_call 51; refine (laid_any _ _ _ _ _ _).mono ?_; rintro e w2 ⟨rfl, b2⟩))
  have a2 := keep b2 a1
  have q2 := keep b2 q1
  have y3' := keep b2 (keep b1 y3)
  have y4' := keep b2 (keep b1 y4)
  clear c0 c1 c2 d0 d1 d2 u0 u1 u2 v0 v1 v2
  refine two_ats (pos := "mat.go:159") (sA := 3) (sB := 4) (dA := 28) (fA := 29) (dB := 30) (fB := 31) (qA := 9) (qB := 10) (fun v28 v29 v30 v31 v9 v10 => ⟨#[.agg #[.int .i64 R, .int .i64 C, .slice ao xs.length cap], .agg #[.int .i64 R, .int .i64 C, .slice bo ys.length bcap], .func (.func G) #[] #[], .pointer (some ⟨w.heap.size, 0, none⟩), .pointer (some ⟨w.heap.size + 1, 0, none⟩), .pointer (some ⟨w.heap.size + 1 + 1, 0, none⟩), .pointer (some ⟨w.heap.size + 1 + 1 + 1, 0, none⟩), .bool false, .int .i64 0, v9, v10, undef, undef, .agg #[.int .i64 R, .int .i64 C, .slice ao xs.length cap], .agg #[.int .i64 R, .int .i64 C], .agg #[.int .i64 R, .int .i64 C, .slice bo ys.length bcap], .agg #[.int .i64 R, .int .i64 C], .bool false, undef, .agg #[.int .i64 R, .int .i64 C, .slice ao xs.length cap], .bool true, .bool false, .bool false, .agg #[.int .i64 R, .int .i64 C, .slice bo ys.length bcap], .bool true, .bool false, .bool false, undef, v28, v29, v30, v31, undef, undef, undef, undef, undef, undef, undef, undef, undef], []⟩) a2 q2 (fun _ _ _ _ _ _ _ => rfl) (fun _ _ _ _ _ _ _ => rfl) (fun _ _ _ _ _ _ _ => rfl) (fun _ _ _ _ _ _ _ => rfl) (fun _ _ _ _ _ _ _ => rfl) (fun _ _ _ _ _ _ _ => rfl) (fun _ _ _ _ _ _ => rfl) (fun _ _ _ _ _ _ => rfl) (fun _ _ _ _ _ _ => rfl) (fun _ _ _ _ _ _ => rfl) (fun _ _ _ _ _ _ => rfl) (fun _ _ _ _ _ _ => rfl) (fun _ _ _ _ _ _ => rfl) (fun _ _ _ _ _ _ => rfl) undef undef undef undef undef undef rfl (by kernel_rfl) ?_
  intro kA kB nA nB w3 b3 z1 z2 z3 z4
  have bw := bt (bt (bt b0 b1) b2) b3
  have A3 : AtBox w3 nA kA C xs := ⟨cell_of_one z3, lt_of_block z3, _, _, z1, sa.below bw⟩
  have B3 : AtBox w3 nB kB C ys := ⟨cell_of_one z4, lt_of_block z4, _, _, z2, sb.below bw⟩
  have a3 := keep b3 a2
  have f3 := keep b3 y3'
  have r3 := keep b3 y4'
  obtain ⟨g0, g1, g2, _⟩ := mat_cells a3
  clear z1 z2 z3 z4
  go_wp2_with (first
    | (go_at_call 54; refine (sizeOf_any _ _ _ _ _ _).mono ?_; rintro e w5 ⟨rfl, b5⟩)
    | (go_at_call 85; refine (hrk _ _ _ _ _ _ (A3.below b5) (B3.below b5) (keep b5 f3)).mono ?_; rintro e w4 ⟨v4, rfl, s4, n4, b4⟩; obtain ⟨ao4, cap4, rfl⟩ := s4.slice; obtain ⟨f0, f1, f2, k0, k1, k2⟩ := mat_cells (heap_old (keep b4 (keep b5 r3)) (.cells #[.int .i64 R, .int .i64 C, .slice ao4 (pai t xs ys).length cap4] 24))))
  refine bodyPost_ret (v := .tuple #[.agg #[.int .i64 R, .int .i64 C, .slice ao4 (pai t xs ys).length cap4], .bool S, .int .i64 0]) (by simp [results, Tryz.results90, go_sem, f0, f1, f2]) rfl ?_
  exact ⟨_, rfl, (s4.alloc _).put n4 (lt_of_block (keep b5 r3)) _ _ _, n4.mono (bt bw b5).size, below_put ((bt (bt bw b5) b4).alloc (bt (bt bw b5) b4).size _) (by omega) _ _ _⟩
end
end Go.Proofs.YtiniobcknmaigaaGreat

/-
  The contracts of mat.Add and of mat.Sub.
-/
namespace Go.Proofs.YtiniobcknmaigaaGreat
open Go.RowKit Go.Sort Qm

set_option maxHeartbeats 800000 in
theorem paired_not (G : Nat) (R C R' C' : Int) (h : ¬ (R = R' ∧ C = C')) (va vb : Value) (xs ys : List Int) (w : World) (sa : Sees w va xs) (sb : Sees w vb ys) :
    Calls Tryz.prog 90 #[.agg #[.int .i64 R, .int .i64 C, va], .agg #[.int .i64 R', .int .i64 C', vb], .func (.func G) #[] #[]] w fun e b =>
      e = .returned (.tuple #[.agg #[.int .i64 0, .int .i64 0, .slice none 0 0], .bool false, .int .i64 9]) ∧ Below w.heap.size w b := by
  obtain ⟨ao, cap, rfl⟩ := sa.slice
  obtain ⟨bo, bcap, rfl⟩ := sb.slice
  clear sa sb
  obtain ⟨W, hW⟩ : ∃ W, (((w.alloc (.cells #[.int .i64 R, .int .i64 C, .slice ao xs.length cap] 24)).alloc (.cells #[.int .i64 R', .int .i64 C', .slice bo ys.length bcap] 24)).alloc (.cells #[.func (.func G) #[] #[]] 69)).alloc (.cells #[.int .i64 0, .int .i64 0, .slice none 0 0] 24) = W := ⟨_, rfl⟩
  obtain ⟨x1, x2, x3, x4⟩ := allocs4 w (.cells #[.int .i64 R, .int .i64 C, .slice ao xs.length cap] 24) (.cells #[.int .i64 R', .int .i64 C', .slice bo ys.length bcap] 24) (.cells #[.func (.func G) #[] #[]] 69) (.cells #[.int .i64 0, .int .i64 0, .slice none 0 0] 24)
  have bq := ball4 w (.cells #[.int .i64 R, .int .i64 C, .slice ao xs.length cap] 24) (.cells #[.int .i64 R', .int .i64 C', .slice bo ys.length bcap] 24) (.cells #[.func (.func G) #[] #[]] 69) (.cells #[.int .i64 0, .int .i64 0, .slice none 0 0] 24)
  rw [hW] at x1 x2 x3 x4 bq
  obtain ⟨u0, u1, u2, _⟩ := mat_cells x1
  obtain ⟨v0, v1, v2, _⟩ := mat_cells x2
  have m0 := cell_regrown u0
  have m1 := cell_regrown u1
  have m2 := cell_regrown u2
  have m3 := cell_regrown v0
  have m4 := cell_regrown v1
  have m5 := cell_regrown v2
  by_cases hr : R = R'
  · subst hr
    have hc : ¬ (C = C') := fun e => h ⟨rfl, e⟩
    have hc' : (C == C') = false := by simpa using hc
    clear h
    go_enter Tryz.func90, Tryz.ntmps90
    go_upto_region 1 with fail
    refine wp_region_quiet_below (by kernel_rfl) (by kernel_rfl) ?_
    clear hW
    repeat (quiet_step ((go_at_call 54; exact sizeOf_calm _ _ _ _ _ _ _ _)))
    refine wpQuiet_nil ?_
    intro _ hw'
    obtain ⟨⟨dq, osq⟩, hw''⟩ := hw'
    have bz : Below _ _ _ := below_regrown W dq osq
    rw [← hw''] at bz
    clear hw'' m0 m1 m2 m3 m4 m5 u0 u1 u2 v0 v1 v2
    have y4 := keep bz x4
    have b0 := bt bq bz
    obtain ⟨f0, f1, f2, g0, g1, g2⟩ := mat_cells y4
    clear bz bq x1 x2 x3 x4
    go_wp2
    refine bodyPost_ret (v := .tuple #[.agg #[.int .i64 0, .int .i64 0, .slice none 0 0], .bool false, .int .i64 9]) (by simp [results, Tryz.results90, go_sem, f0, f1, f2]) rfl ?_
    exact ⟨rfl, below_put b0 (by omega) _ _ _⟩
  · have hc' : (R == R') = false := by simpa using hr
    clear h
    go_enter Tryz.func90, Tryz.ntmps90
    go_upto_region 1 with fail
    refine wp_region_quiet_below (by kernel_rfl) (by kernel_rfl) ?_
    clear hW
    repeat (quiet_step ((go_at_call 54; exact sizeOf_calm _ _ _ _ _ _ _ _)))
    refine wpQuiet_nil ?_
    intro _ hw'
    obtain ⟨⟨dq, osq⟩, hw''⟩ := hw'
    have bz : Below _ _ _ := below_regrown W dq osq
    rw [← hw''] at bz
    clear hw'' m0 m1 m2 m3 m4 m5 u0 u1 u2 v0 v1 v2
    have y4 := keep bz x4
    have b0 := bt bq bz
    obtain ⟨f0, f1, f2, g0, g1, g2⟩ := mat_cells y4
    clear bz bq x1 x2 x3 x4
    go_wp2
    refine bodyPost_ret (v := .tuple #[.agg #[.int .i64 0, .int .i64 0, .slice none 0 0], .bool false, .int .i64 9]) (by simp [results, Tryz.results90, go_sem, f0, f1, f2]) rfl ?_
    exact ⟨rfl, below_put b0 (by omega) _ _ _⟩

set_option maxHeartbeats 400000 in
theorem add_mat (R C : Nat) (r1 : 1 ≤ R) (hR : R ≤ 8) (c1 : 1 ≤ C) (hC8 : C ≤ 8) (va vb : Value) (xs ys : List Int) (hx : xs.length = R * C) (hy : ys.length = R * C) (w : World) (sa : Sees w va xs) (sb : Sees w vb ys) :
    Calls Tryz.prog 58 #[.agg #[.int .i64 R, .int .i64 C, va], .agg #[.int .i64 R, .int .i64 C, vb]] w fun e b =>
      ∃ v, e = .returned (.tuple #[.agg #[.int .i64 R, .int .i64 C, v], .bool (paiB addB xs ys), .int .i64 0]) ∧ Sees b v (pai add xs ys) ∧ New w.heap.size v ∧ Below w.heap.size w b := by
  obtain ⟨ao, cap, rfl⟩ := sa.slice
  obtain ⟨bo, bcap, rfl⟩ := sb.slice
  have bW := ball3 w (.cells #[.int .i64 R, .int .i64 C, .slice ao xs.length cap] 24) (.cells #[.int .i64 R, .int .i64 C, .slice bo ys.length bcap] 24) (.cells #[.int .i64 0, .int .i64 0, .slice none 0 0] 24)
  obtain ⟨_, _, x3⟩ := allocs3 w (.cells #[.int .i64 R, .int .i64 C, .slice ao xs.length cap] 24) (.cells #[.int .i64 R, .int .i64 C, .slice bo ys.length bcap] 24) (.cells #[.int .i64 0, .int .i64 0, .slice none 0 0] 24)
  have hp := paired_any 41 enters34 add addB add_any R C r1 hR c1 hC8 _ _ xs ys hx hy _ (sa.below bW) (sb.below bW)
  obtain ⟨S, hS⟩ : ∃ S, paiB addB xs ys = S := ⟨_, rfl⟩
  rw [hS] at hp ⊢
  clear hx hy hS
  go_enter Tryz.func58, Tryz.ntmps58
  go_wp2_with (go_at_call 90; refine hp.mono ?_; rintro e w4 ⟨v4, rfl, s4, n4, b4⟩; obtain ⟨ao4, cap4, rfl⟩ := s4.slice; obtain ⟨f0, f1, f2, k0, k1, k2⟩ := mat_cells (keep b4 x3))
  refine bodyPost_ret (v := .tuple #[.agg #[.int .i64 R, .int .i64 C, .slice ao4 (pai add xs ys).length cap4], .bool S, .int .i64 0]) (by simp [results, Tryz.results58, go_sem, f0, f1, f2]) rfl ?_
  exact ⟨_, rfl, s4.put n4 (lt_of_block x3) _ _ _, n4.mono bW.size, below_put (bt bW b4) (by omega) _ _ _⟩

set_option maxHeartbeats 400000 in
theorem add_not (R C R' C' : Int) (h : ¬ (R = R' ∧ C = C')) (va vb : Value) (xs ys : List Int) (w : World) (sa : Sees w va xs) (sb : Sees w vb ys) :
    Calls Tryz.prog 58 #[.agg #[.int .i64 R, .int .i64 C, va], .agg #[.int .i64 R', .int .i64 C', vb]] w fun e b =>
      e = .returned (.tuple #[.agg #[.int .i64 0, .int .i64 0, .slice none 0 0], .bool false, .int .i64 9]) ∧ Below w.heap.size w b := by
  obtain ⟨ao, cap, rfl⟩ := sa.slice
  obtain ⟨bo, bcap, rfl⟩ := sb.slice
  have bW := ball3 w (.cells #[.int .i64 R, .int .i64 C, .slice ao xs.length cap] 24) (.cells #[.int .i64 R', .int .i64 C', .slice bo ys.length bcap] 24) (.cells #[.int .i64 0, .int .i64 0, .slice none 0 0] 24)
  obtain ⟨_, _, x3⟩ := allocs3 w (.cells #[.int .i64 R, .int .i64 C, .slice ao xs.length cap] 24) (.cells #[.int .i64 R', .int .i64 C', .slice bo ys.length bcap] 24) (.cells #[.int .i64 0, .int .i64 0, .slice none 0 0] 24)
  have hp := paired_not 41 R C R' C' h _ _ xs ys _ (sa.below bW) (sb.below bW)
  go_enter Tryz.func58, Tryz.ntmps58
  go_wp2_with (go_at_call 90; refine hp.mono ?_; rintro e w4 ⟨rfl, b4⟩; obtain ⟨f0, f1, f2, k0, k1, k2⟩ := mat_cells (keep b4 x3))
  refine bodyPost_ret (v := .tuple #[.agg #[.int .i64 0, .int .i64 0, .slice none 0 0], .bool false, .int .i64 9]) (by simp [results, Tryz.results58, go_sem, f0, f1, f2]) rfl ?_
  exact ⟨rfl, below_put (bt bW b4) (by omega) _ _ _⟩

set_option maxHeartbeats 400000 in
theorem sub_mat (R C : Nat) (r1 : 1 ≤ R) (hR : R ≤ 8) (c1 : 1 ≤ C) (hC8 : C ≤ 8) (va vb : Value) (xs ys : List Int) (hx : xs.length = R * C) (hy : ys.length = R * C) (w : World) (sa : Sees w va xs) (sb : Sees w vb ys) :
    Calls Tryz.prog 104 #[.agg #[.int .i64 R, .int .i64 C, va], .agg #[.int .i64 R, .int .i64 C, vb]] w fun e b =>
      ∃ v, e = .returned (.tuple #[.agg #[.int .i64 R, .int .i64 C, v], .bool (paiB subB xs ys), .int .i64 0]) ∧ Sees b v (pai sub xs ys) ∧ New w.heap.size v ∧ Below w.heap.size w b := by
  obtain ⟨ao, cap, rfl⟩ := sa.slice
  obtain ⟨bo, bcap, rfl⟩ := sb.slice
  have bW := ball3 w (.cells #[.int .i64 R, .int .i64 C, .slice ao xs.length cap] 24) (.cells #[.int .i64 R, .int .i64 C, .slice bo ys.length bcap] 24) (.cells #[.int .i64 0, .int .i64 0, .slice none 0 0] 24)
  obtain ⟨_, _, x3⟩ := allocs3 w (.cells #[.int .i64 R, .int .i64 C, .slice ao xs.length cap] 24) (.cells #[.int .i64 R, .int .i64 C, .slice bo ys.length bcap] 24) (.cells #[.int .i64 0, .int .i64 0, .slice none 0 0] 24)
  have hp := paired_any 39 enters37 sub subB sub_any R C r1 hR c1 hC8 _ _ xs ys hx hy _ (sa.below bW) (sb.below bW)
  obtain ⟨S, hS⟩ : ∃ S, paiB subB xs ys = S := ⟨_, rfl⟩
  rw [hS] at hp ⊢
  clear hx hy hS
  go_enter Tryz.func104, Tryz.ntmps104
  go_wp2_with (go_at_call 90; refine hp.mono ?_; rintro e w4 ⟨v4, rfl, s4, n4, b4⟩; obtain ⟨ao4, cap4, rfl⟩ := s4.slice; obtain ⟨f0, f1, f2, k0, k1, k2⟩ := mat_cells (keep b4 x3))
  refine bodyPost_ret (v := .tuple #[.agg #[.int .i64 R, .int .i64 C, .slice ao4 (pai sub xs ys).length cap4], .bool S, .int .i64 0]) (by simp [results, Tryz.results104, go_sem, f0, f1, f2]) rfl ?_
  exact ⟨_, rfl, s4.put n4 (lt_of_block x3) _ _ _, n4.mono bW.size, below_put (bt bW b4) (by omega) _ _ _⟩

set_option maxHeartbeats 400000 in
theorem sub_not (R C R' C' : Int) (h : ¬ (R = R' ∧ C = C')) (va vb : Value) (xs ys : List Int) (w : World) (sa : Sees w va xs) (sb : Sees w vb ys) :
    Calls Tryz.prog 104 #[.agg #[.int .i64 R, .int .i64 C, va], .agg #[.int .i64 R', .int .i64 C', vb]] w fun e b =>
      e = .returned (.tuple #[.agg #[.int .i64 0, .int .i64 0, .slice none 0 0], .bool false, .int .i64 9]) ∧ Below w.heap.size w b := by
  obtain ⟨ao, cap, rfl⟩ := sa.slice
  obtain ⟨bo, bcap, rfl⟩ := sb.slice
  have bW := ball3 w (.cells #[.int .i64 R, .int .i64 C, .slice ao xs.length cap] 24) (.cells #[.int .i64 R', .int .i64 C', .slice bo ys.length bcap] 24) (.cells #[.int .i64 0, .int .i64 0, .slice none 0 0] 24)
  obtain ⟨_, _, x3⟩ := allocs3 w (.cells #[.int .i64 R, .int .i64 C, .slice ao xs.length cap] 24) (.cells #[.int .i64 R', .int .i64 C', .slice bo ys.length bcap] 24) (.cells #[.int .i64 0, .int .i64 0, .slice none 0 0] 24)
  have hp := paired_not 39 R C R' C' h _ _ xs ys _ (sa.below bW) (sb.below bW)
  go_enter Tryz.func104, Tryz.ntmps104
  go_wp2_with (go_at_call 90; refine hp.mono ?_; rintro e w4 ⟨rfl, b4⟩; obtain ⟨f0, f1, f2, k0, k1, k2⟩ := mat_cells (keep b4 x3))
  refine bodyPost_ret (v := .tuple #[.agg #[.int .i64 0, .int .i64 0, .slice none 0 0], .bool false, .int .i64 9]) (by simp [results, Tryz.results104, go_sem, f0, f1, f2]) rfl ?_
  exact ⟨rfl, below_put (bt bW b4) (by omega) _ _ _⟩
end Go.Proofs.YtiniobcknmaigaaGreat

/-
  The contracts of the document's Add and Sub.
-/
namespace Go.Proofs.YtiniobcknmaigaaGreat
open Go.RowKit Go.Sort Qm

set_option maxRecDepth 20000 in
set_option maxHeartbeats 1600000 in
theorem radd_mat (R C : Nat) (h1 : 1 ≤ R) (hR : R ≤ 8) (h2 : 1 ≤ C) (hC : C ≤ 8) (va vb : Value) (xs ys : List Int) (hn : xs.length = R * C) (hm : ys.length = R * C) (w : World) (sa : Sees w va xs) (sb : Sees w vb ys) :
    Calls Tryz.prog 26 #[.agg #[.int .i64 R, .int .i64 C, va], .agg #[.int .i64 R, .int .i64 C, vb]] w fun e b =>
      ∃ v, e = .returned (.tuple #[.agg #[.int .i64 R, .int .i64 C, v], .bool (paiB addB xs ys), .int .i64 0]) ∧ Sees b v (pai add xs ys) ∧ New w.heap.size v ∧ Below w.heap.size w b := by
  have h64 : R * C ≤ 64 := mul_le_64 hR hC
  have hno := fun w => none_any R C hR hC h1 h2 w
  obtain ⟨n, hn'⟩ : ∃ n, xs.length = n := ⟨_, rfl⟩
  have hq : R * C = n := by omega
  rw [hq] at h64 hno hm
  unfold paiB pai
  rw [hn']
  obtain ⟨S, hS⟩ : ∃ S, anyB (fun p => addB (ge xs p) (ge ys p)) n = S := ⟨_, rfl⟩
  have HS : Hid (anyB (fun p => addB (ge xs p) (ge ys p)) n = S) := hS
  rw [hS]
  obtain ⟨ao, cap, rfl, ha⟩ := sa
  obtain ⟨bo, bcap, rfl, hb⟩ := sb
  rw [hn'] at ha ⊢
  rw [hm] at hb ⊢
  have sa : Sees w (.slice ao n cap) xs := ⟨ao, cap, by rw [hn'], by rw [hn']; exact ha⟩
  have sb : Sees w (.slice bo n bcap) ys := ⟨bo, bcap, by rw [hm], by rw [hm]; exact hb⟩
  have hxl : xs.length ≥ n := by omega
  have hyl : ys.length ≥ n := by omega
  clear hn hn' hq hS ha hb hm
  obtain ⟨W, hW⟩ : ∃ W, ((w.alloc (.cells #[.int .i64 R, .int .i64 C, .slice ao n cap] 24)).alloc (.cells #[.int .i64 R, .int .i64 C, .slice bo n bcap] 24)).alloc (.cells #[.int .i64 0, .int .i64 0, .slice none 0 0] 24) = W := ⟨_, rfl⟩
  obtain ⟨x1, x0, x2⟩ := allocs3 w (.cells #[.int .i64 R, .int .i64 C, .slice ao n cap] 24) (.cells #[.int .i64 R, .int .i64 C, .slice bo n bcap] 24) (.cells #[.int .i64 0, .int .i64 0, .slice none 0 0] 24)
  have bq := ball3 w (.cells #[.int .i64 R, .int .i64 C, .slice ao n cap] 24) (.cells #[.int .i64 R, .int .i64 C, .slice bo n bcap] 24) (.cells #[.int .i64 0, .int .i64 0, .slice none 0 0] 24)
  rw [hW] at x1 x0 x2 bq
  obtain ⟨u0, u1, u2, _⟩ := mat_cells x1
  obtain ⟨t0, t1, t2, _⟩ := mat_cells x0
  go_enter Tryz.func26, Tryz.ntmps26
  go_wp2_with (go_at_call 61; refine (hno _).mono ?_; rintro e w1 ⟨g, gc, rfl, hown, b1⟩)
  clear u0 u1 u2 t0 t1 t2
  have hgW := (hown.lt g rfl).1
  have hDg : w.heap.size + 1 + 1 < g := Nat.lt_of_lt_of_le (lt_of_block x2) hgW
  have y1 := heap_old (keep b1 x1) (.cells #[.int .i64 R, .int .i64 C, .slice (some ⟨g, 0, none⟩) n gc] 24)
  have y0 := heap_old (keep b1 x0) (.cells #[.int .i64 R, .int .i64 C, .slice (some ⟨g, 0, none⟩) n gc] 24)
  have y2 := heap_old (keep b1 x2) (.cells #[.int .i64 R, .int .i64 C, .slice (some ⟨g, 0, none⟩) n gc] 24)
  have y3 := heap_new w1 (.cells #[.int .i64 R, .int .i64 C, .slice (some ⟨g, 0, none⟩) n gc] 24)
  have bw := (bt (bt bq b1) (box_below w1 (.cells #[.int .i64 R, .int .i64 C, .slice (some ⟨g, 0, none⟩) n gc] 24)))
  have F0 : Fills (w1.alloc (.cells #[.int .i64 R, .int .i64 C, .slice (some ⟨g, 0, none⟩) n gc] 24)) g gc n (fun _ => 0) (w1.alloc (.cells #[.int .i64 R, .int .i64 C, .slice (some ⟨g, 0, none⟩) n gc] 24)) := Fills.start (hown.alloc _)
  have hgw : w.heap.size ≤ g := Nat.le_trans bq.size hgW
  obtain ⟨V, hV⟩ : ∃ V, w1.alloc (.cells #[.int .i64 R, .int .i64 C, .slice (some ⟨g, 0, none⟩) n gc] 24) = V := ⟨_, rfl⟩
  rw [hV] at y1 y0 y2 y3 bw F0 ⊢
  have gx1 := F0.apart y1
  have gx0 := F0.apart y0
  have gx2 := F0.apart y2
  have gx3 := F0.apart y3
  clear hV hW x1 x0 x2 hown b1 bq hno
  go_loopw [8, 9] (fun m i wr => ∃ k : Nat, k ≤ n ∧ i = .int .i64 k ∧ m = .bool (anyB (fun p => addB (ge xs p) (ge ys p)) k) ∧ Fills V g gc n (upto (fun p => add (ge xs p) (ge ys p)) k) wr) (fun _ i _ => n - (intOf i).toNat)
  case atStart => exact ⟨0, Nat.zero_le _, rfl, rfl, F0.congr (upto_zero _ n)⟩
  case round =>
    clear F0
    obtain ⟨k, hk, rfl, rfl, hF⟩ := hrel
    obtain ⟨u0, u1, u2, _⟩ := mat_cells (hF.keep y1 gx1)
    obtain ⟨t0, t1, t2, _⟩ := mat_cells (hF.keep y0 gx0)
    obtain ⟨v0, v1, v2, _⟩ := mat_cells (hF.keep y3 gx3)
    by_cases hlt : k < n
    · have hc := hF.cell hlt
      have hf := hF.free k
      have HM : Hid (anyB (fun p => addB (ge xs p) (ge ys p)) (k + 1) = (anyB (fun p => addB (ge xs p) (ge ys p)) k || addB (ge xs k) (ge ys k))) := rfl
      have HF : ∀ m, Fills V g gc n _ _ := fun m => ((hF.drewN m).store k (add (ge xs k) (ge ys k))).congr (upto_succ (fun p => add (ge xs p) (ge ys p)) k n)
      obtain ⟨ad, rfl, ca⟩ := (hF.sees sa bw hgw).at k (by omega)
      obtain ⟨bd, rfl, cb⟩ := (hF.sees sb bw hgw).at k (by omega)
      obtain ⟨x, hx⟩ : ∃ x, ge xs k = x := ⟨_, rfl⟩
      obtain ⟨y, hy⟩ : ∃ y, ge ys k = y := ⟨_, rfl⟩
      obtain ⟨M, hM⟩ : ∃ M, anyB (fun p => addB (ge xs p) (ge ys p)) k = M := ⟨_, rfl⟩
      rw [hx, hy] at HM HF
      rw [hx] at ca
      rw [hy] at cb
      rw [hM] at HM ⊢
      clear hx hy hM hF
      cases M
      all_goals
        go_wp2
        go_quiet ((go_at_call 43; exact Calls.quiet_of_same (radd_any _ _ _)))
        go_wp2
        go_roundw
        case rel => exact ⟨k + 1, by omega, by go_num, by rw [HM.out]; rfl, HF _⟩
        case measure => simp [intOf]; omega
    · have e : k = n := by omega
      subst e
      rw [HS.out]
      obtain ⟨d0, d1, d2, f0, f1, f2⟩ := mat_cells (hF.keep y2 gx2)
      have hsh := hF.shows
      rw [upto_all] at hsh
      have hbl := hF.below bw hgw
      clear hF
      go_wp2
      refine bodyPost_ret (v := .tuple #[.agg #[.int .i64 R, .int .i64 C, .slice (some ⟨g, 0, none⟩) k gc], .bool S, .int .i64 0]) (by simp [results, Tryz.results26, go_sem, d0, d1, d2]) rfl ?_
      exact ⟨_, rfl, hsh.put (new_at g k gc) hDg _ _ _, (new_at g k gc).mono hgw, below_put hbl (by omega) _ _ _⟩

set_option maxRecDepth 20000 in
set_option maxHeartbeats 400000 in
theorem radd_not (R C R' C' : Int) (h : ¬ (R = R' ∧ C = C')) (va vb : Value) (xs ys : List Int) (w : World) (sa : Sees w va xs) (sb : Sees w vb ys) :
    Calls Tryz.prog 26 #[.agg #[.int .i64 R, .int .i64 C, va], .agg #[.int .i64 R', .int .i64 C', vb]] w fun e b =>
      e = .returned (.tuple #[.agg #[.int .i64 0, .int .i64 0, .slice none 0 0], .bool false, .int .i64 9]) ∧ Below w.heap.size w b := by
  obtain ⟨ao, cap, rfl⟩ := sa.slice
  obtain ⟨bo, bcap, rfl⟩ := sb.slice
  clear sa sb
  have b0 := ball3 w (.cells #[.int .i64 R, .int .i64 C, .slice ao xs.length cap] 24) (.cells #[.int .i64 R', .int .i64 C', .slice bo ys.length bcap] 24) (.cells #[.int .i64 0, .int .i64 0, .slice none 0 0] 24)
  by_cases hr : R = R'
  · subst hr
    have hc : ¬ (C = C') := fun e => h ⟨rfl, e⟩
    have hc' : (C == C') = false := by simpa using hc
    clear h
    go_enter Tryz.func26, Tryz.ntmps26
    go_wp2
    refine bodyPost_ret (v := .tuple #[.agg #[.int .i64 0, .int .i64 0, .slice none 0 0], .bool false, .int .i64 9]) (by simp [results, Tryz.results26, go_sem]) rfl ?_
    exact ⟨rfl, b0⟩
  · have hc' : (R == R') = false := by simpa using hr
    clear h
    go_enter Tryz.func26, Tryz.ntmps26
    go_wp2
    refine bodyPost_ret (v := .tuple #[.agg #[.int .i64 0, .int .i64 0, .slice none 0 0], .bool false, .int .i64 9]) (by simp [results, Tryz.results26, go_sem]) rfl ?_
    exact ⟨rfl, b0⟩

set_option maxRecDepth 20000 in
set_option maxHeartbeats 1600000 in
theorem rsub_mat (R C : Nat) (h1 : 1 ≤ R) (hR : R ≤ 8) (h2 : 1 ≤ C) (hC : C ≤ 8) (va vb : Value) (xs ys : List Int) (hn : xs.length = R * C) (hm : ys.length = R * C) (w : World) (sa : Sees w va xs) (sb : Sees w vb ys) :
    Calls Tryz.prog 36 #[.agg #[.int .i64 R, .int .i64 C, va], .agg #[.int .i64 R, .int .i64 C, vb]] w fun e b =>
      ∃ v, e = .returned (.tuple #[.agg #[.int .i64 R, .int .i64 C, v], .bool (paiB subB xs ys), .int .i64 0]) ∧ Sees b v (pai sub xs ys) ∧ New w.heap.size v ∧ Below w.heap.size w b := by
  have h64 : R * C ≤ 64 := mul_le_64 hR hC
  have hno := fun w => none_any R C hR hC h1 h2 w
  obtain ⟨n, hn'⟩ : ∃ n, xs.length = n := ⟨_, rfl⟩
  have hq : R * C = n := by omega
  rw [hq] at h64 hno hm
  unfold paiB pai
  rw [hn']
  obtain ⟨S, hS⟩ : ∃ S, anyB (fun p => subB (ge xs p) (ge ys p)) n = S := ⟨_, rfl⟩
  have HS : Hid (anyB (fun p => subB (ge xs p) (ge ys p)) n = S) := hS
  rw [hS]
  obtain ⟨ao, cap, rfl, ha⟩ := sa
  obtain ⟨bo, bcap, rfl, hb⟩ := sb
  rw [hn'] at ha ⊢
  rw [hm] at hb ⊢
  have sa : Sees w (.slice ao n cap) xs := ⟨ao, cap, by rw [hn'], by rw [hn']; exact ha⟩
  have sb : Sees w (.slice bo n bcap) ys := ⟨bo, bcap, by rw [hm], by rw [hm]; exact hb⟩
  have hxl : xs.length ≥ n := by omega
  have hyl : ys.length ≥ n := by omega
  clear hn hn' hq hS ha hb hm
  obtain ⟨W, hW⟩ : ∃ W, ((w.alloc (.cells #[.int .i64 R, .int .i64 C, .slice ao n cap] 24)).alloc (.cells #[.int .i64 R, .int .i64 C, .slice bo n bcap] 24)).alloc (.cells #[.int .i64 0, .int .i64 0, .slice none 0 0] 24) = W := ⟨_, rfl⟩
  obtain ⟨x1, x0, x2⟩ := allocs3 w (.cells #[.int .i64 R, .int .i64 C, .slice ao n cap] 24) (.cells #[.int .i64 R, .int .i64 C, .slice bo n bcap] 24) (.cells #[.int .i64 0, .int .i64 0, .slice none 0 0] 24)
  have bq := ball3 w (.cells #[.int .i64 R, .int .i64 C, .slice ao n cap] 24) (.cells #[.int .i64 R, .int .i64 C, .slice bo n bcap] 24) (.cells #[.int .i64 0, .int .i64 0, .slice none 0 0] 24)
  rw [hW] at x1 x0 x2 bq
  obtain ⟨u0, u1, u2, _⟩ := mat_cells x1
  obtain ⟨t0, t1, t2, _⟩ := mat_cells x0
  go_enter Tryz.func36, Tryz.ntmps36
  go_wp2_with (go_at_call 61; refine (hno _).mono ?_; rintro e w1 ⟨g, gc, rfl, hown, b1⟩)
  clear u0 u1 u2 t0 t1 t2
  have hgW := (hown.lt g rfl).1
  have hDg : w.heap.size + 1 + 1 < g := Nat.lt_of_lt_of_le (lt_of_block x2) hgW
  have y1 := heap_old (keep b1 x1) (.cells #[.int .i64 R, .int .i64 C, .slice (some ⟨g, 0, none⟩) n gc] 24)
  have y0 := heap_old (keep b1 x0) (.cells #[.int .i64 R, .int .i64 C, .slice (some ⟨g, 0, none⟩) n gc] 24)
  have y2 := heap_old (keep b1 x2) (.cells #[.int .i64 R, .int .i64 C, .slice (some ⟨g, 0, none⟩) n gc] 24)
  have y3 := heap_new w1 (.cells #[.int .i64 R, .int .i64 C, .slice (some ⟨g, 0, none⟩) n gc] 24)
  have bw := (bt (bt bq b1) (box_below w1 (.cells #[.int .i64 R, .int .i64 C, .slice (some ⟨g, 0, none⟩) n gc] 24)))
  have F0 : Fills (w1.alloc (.cells #[.int .i64 R, .int .i64 C, .slice (some ⟨g, 0, none⟩) n gc] 24)) g gc n (fun _ => 0) (w1.alloc (.cells #[.int .i64 R, .int .i64 C, .slice (some ⟨g, 0, none⟩) n gc] 24)) := Fills.start (hown.alloc _)
  have hgw : w.heap.size ≤ g := Nat.le_trans bq.size hgW
  obtain ⟨V, hV⟩ : ∃ V, w1.alloc (.cells #[.int .i64 R, .int .i64 C, .slice (some ⟨g, 0, none⟩) n gc] 24) = V := ⟨_, rfl⟩
  rw [hV] at y1 y0 y2 y3 bw F0 ⊢
  have gx1 := F0.apart y1
  have gx0 := F0.apart y0
  have gx2 := F0.apart y2
  have gx3 := F0.apart y3
  clear hV hW x1 x0 x2 hown b1 bq hno
  go_loopw [8, 9] (fun m i wr => ∃ k : Nat, k ≤ n ∧ i = .int .i64 k ∧ m = .bool (anyB (fun p => subB (ge xs p) (ge ys p)) k) ∧ Fills V g gc n (upto (fun p => sub (ge xs p) (ge ys p)) k) wr) (fun _ i _ => n - (intOf i).toNat)
  case atStart => exact ⟨0, Nat.zero_le _, rfl, rfl, F0.congr (upto_zero _ n)⟩
  case round =>
    clear F0
    obtain ⟨k, hk, rfl, rfl, hF⟩ := hrel
    obtain ⟨u0, u1, u2, _⟩ := mat_cells (hF.keep y1 gx1)
    obtain ⟨t0, t1, t2, _⟩ := mat_cells (hF.keep y0 gx0)
    obtain ⟨v0, v1, v2, _⟩ := mat_cells (hF.keep y3 gx3)
    by_cases hlt : k < n
    · have hc := hF.cell hlt
      have hf := hF.free k
      have HM : Hid (anyB (fun p => subB (ge xs p) (ge ys p)) (k + 1) = (anyB (fun p => subB (ge xs p) (ge ys p)) k || subB (ge xs k) (ge ys k))) := rfl
      have HF : ∀ m, Fills V g gc n _ _ := fun m => ((hF.drewN m).store k (sub (ge xs k) (ge ys k))).congr (upto_succ (fun p => sub (ge xs p) (ge ys p)) k n)
      obtain ⟨ad, rfl, ca⟩ := (hF.sees sa bw hgw).at k (by omega)
      obtain ⟨bd, rfl, cb⟩ := (hF.sees sb bw hgw).at k (by omega)
      obtain ⟨x, hx⟩ : ∃ x, ge xs k = x := ⟨_, rfl⟩
      obtain ⟨y, hy⟩ : ∃ y, ge ys k = y := ⟨_, rfl⟩
      obtain ⟨M, hM⟩ : ∃ M, anyB (fun p => subB (ge xs p) (ge ys p)) k = M := ⟨_, rfl⟩
      rw [hx, hy] at HM HF
      rw [hx] at ca
      rw [hy] at cb
      rw [hM] at HM ⊢
      clear hx hy hM hF
      cases M
      all_goals
        go_wp2
        go_quiet ((go_at_call 42; exact Calls.quiet_of_same (rsub_any _ _ _)))
        go_wp2
        go_roundw
        case rel => exact ⟨k + 1, by omega, by go_num, by rw [HM.out]; rfl, HF _⟩
        case measure => simp [intOf]; omega
    · have e : k = n := by omega
      subst e
      rw [HS.out]
      obtain ⟨d0, d1, d2, f0, f1, f2⟩ := mat_cells (hF.keep y2 gx2)
      have hsh := hF.shows
      rw [upto_all] at hsh
      have hbl := hF.below bw hgw
      clear hF
      go_wp2
      refine bodyPost_ret (v := .tuple #[.agg #[.int .i64 R, .int .i64 C, .slice (some ⟨g, 0, none⟩) k gc], .bool S, .int .i64 0]) (by simp [results, Tryz.results36, go_sem, d0, d1, d2]) rfl ?_
      exact ⟨_, rfl, hsh.put (new_at g k gc) hDg _ _ _, (new_at g k gc).mono hgw, below_put hbl (by omega) _ _ _⟩

set_option maxRecDepth 20000 in
set_option maxHeartbeats 400000 in
theorem rsub_not (R C R' C' : Int) (h : ¬ (R = R' ∧ C = C')) (va vb : Value) (xs ys : List Int) (w : World) (sa : Sees w va xs) (sb : Sees w vb ys) :
    Calls Tryz.prog 36 #[.agg #[.int .i64 R, .int .i64 C, va], .agg #[.int .i64 R', .int .i64 C', vb]] w fun e b =>
      e = .returned (.tuple #[.agg #[.int .i64 0, .int .i64 0, .slice none 0 0], .bool false, .int .i64 9]) ∧ Below w.heap.size w b := by
  obtain ⟨ao, cap, rfl⟩ := sa.slice
  obtain ⟨bo, bcap, rfl⟩ := sb.slice
  clear sa sb
  have b0 := ball3 w (.cells #[.int .i64 R, .int .i64 C, .slice ao xs.length cap] 24) (.cells #[.int .i64 R', .int .i64 C', .slice bo ys.length bcap] 24) (.cells #[.int .i64 0, .int .i64 0, .slice none 0 0] 24)
  by_cases hr : R = R'
  · subst hr
    have hc : ¬ (C = C') := fun e => h ⟨rfl, e⟩
    have hc' : (C == C') = false := by simpa using hc
    clear h
    go_enter Tryz.func36, Tryz.ntmps36
    go_wp2
    refine bodyPost_ret (v := .tuple #[.agg #[.int .i64 0, .int .i64 0, .slice none 0 0], .bool false, .int .i64 9]) (by simp [results, Tryz.results36, go_sem]) rfl ?_
    exact ⟨rfl, b0⟩
  · have hc' : (R == R') = false := by simpa using hr
    clear h
    go_enter Tryz.func36, Tryz.ntmps36
    go_wp2
    refine bodyPost_ret (v := .tuple #[.agg #[.int .i64 0, .int .i64 0, .slice none 0 0], .bool false, .int .i64 9]) (by simp [results, Tryz.results36, go_sem]) rfl ?_
    exact ⟨rfl, b0⟩
end Go.Proofs.YtiniobcknmaigaaGreat
