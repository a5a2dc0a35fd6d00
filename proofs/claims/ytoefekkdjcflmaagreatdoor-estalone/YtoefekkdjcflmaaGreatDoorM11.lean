/- Parts of the proof. -/
import Derived.Deep.CutRange
import Derived.Test.YtoefekkdjcflmaaGreatDoorM08
import Derived.Test.YtoefekkdjcflmaaGreatDoorM10
namespace Go.Proofs.YtoefekkdjcflmaaGreatDoor
open Go.RowKit Go.Sort Qm
theorem Sees.at {w : World} {ao : Option Addr} {n cap : Nat} {xs : List Int} (h : Sees w (.slice ao n cap) xs) (k : Nat) (hk : k < xs.length) : ∃ ad, ao = some ad ∧ w.cell? (ad.add k) = some (.int .i64 (ge xs k)) := by
  obtain ⟨ao', cap', he, hc⟩ := h
  simp only [Value.slice.injEq] at he
  obtain ⟨ad, h1, _, h2⟩ := hc k hk
  exact ⟨ad, he.1.trans h1, h2⟩
theorem new_at (g n cap : Nat) : New g (.slice (some ⟨g, 0, none⟩) n cap) := fun k e => by cases e; exact Nat.le_refl _
theorem enters64 : ∀ (args : Array Value) (a : World), Sem.run Tryz.prog (callFunc 194 args) a = Result.ok (Next.enter 194 args) a := by
  intro args a
  simp [callFunc, Tryz.func194, go_sem]
  rfl
theorem enters34 : ∀ (args : Array Value) (a : World), Sem.run Tryz.prog (callFunc 118 args) a = Result.ok (Next.enter 118 args) a := by
  intro args a
  simp [callFunc, Tryz.func118, go_sem]
  rfl
theorem enters37 : ∀ (args : Array Value) (a : World), Sem.run Tryz.prog (callFunc 103 args) a = Result.ok (Next.enter 103 args) a := by
  intro args a
  simp [callFunc, Tryz.func103, go_sem]
  rfl
namespace Qm
def pai (t : Int → Int → Int) (xs ys : List Int) : List Int := tab (fun p => t (ge xs p) (ge ys p)) xs.length
def paiB (o : Int → Int → Bool) (xs ys : List Int) : Bool := anyB (fun p => o (ge xs p) (ge ys p)) xs.length
end Qm
section
variable (G : Nat) (hG : ∀ (args : Array Value) (a : World), Sem.run Tryz.prog (callFunc G args) a = Result.ok (Next.enter G args) a) (t : Int → Int → Int) (o : Int → Int → Bool)
  (hC : ∀ x y w, Calls Tryz.prog G #[.int .i64 x, .int .i64 y] w fun e w' => e = .returned (.tuple #[.int .i64 (t x y), .bool (o x y)]) ∧ w' = w)
include hG hC
set_option maxHeartbeats 400000 in
theorem paired1_any (i j c : Nat) (F P bA Q bB : Nat) (xs ys : List Int) (w : World) (hi : i ≤ 8) (hj : j < c) (hc : c ≤ 8) (hx : xs.length ≤ 64) (hy : ys.length ≤ 64)
    (hxa : i * c + j < xs.length) (hya : i * c + j < ys.length) (hA : AtBox w P bA c xs) (hB : AtBox w Q bB c ys) (hF : w.cell? ⟨F, 0, none⟩ = some (.func (.func G) #[] #[])) :
    Calls Tryz.prog 194 #[.int .i64 i, .int .i64 j, .pointer (some ⟨F, 0, none⟩), .pointer (some ⟨P, 0, none⟩), .pointer (some ⟨Q, 0, none⟩)] w fun e w' =>
      e = .returned (.tuple #[.int .i64 (t (ge xs (i * c + j)) (ge ys (i * c + j))), .bool (o (ge xs (i * c + j)) (ge ys (i * c + j)))]) ∧ Below w.heap.size w w' := by
  have k1 := cell_regrown hA.1
  have k2 := cell_regrown hB.1
  have k3 := cell_regrown hF
  have cA := at_calm i j c P bA xs w hi hj hc hx hxa hA
  have cB := at_calm i j c Q bB ys w hi hj hc hy hya hB
  obtain ⟨x, hx'⟩ : ∃ x, ge xs (i * c + j) = x := ⟨_, rfl⟩
  obtain ⟨y, hy'⟩ : ∃ y, ge ys (i * c + j) = y := ⟨_, rfl⟩
  rw [hx'] at cA ⊢
  rw [hy'] at cB ⊢
  clear hx' hy' hA hB hF hxa hya
  have cM : ∀ (d : Nat) (os : Array Obj), Calls Tryz.prog G #[.int .i64 x, .int .i64 y] (grow (redrawn w d) os) fun e w'' => e = .returned (.tuple #[.int .i64 (t x y), .bool (o x y)]) ∧ ∃ p : Regrown, w'' = grow (redrawn w p.d) p.os :=
    fun d os => Calls.regrown_of ((hC x y _).mono fun e w' hh => ⟨hh.1, by rw [hh.2]; exact Below.refl _ _⟩)
  go_enter Tryz.func194, Tryz.ntmps194
  go_wp2
  refine wp_region_quiet_below (by kernel_rfl) (by kernel_rfl) ?_
  repeat (quiet_step (first | (go_at_call_of 182 (Value.pointer (some ⟨bA, 0, none⟩)); exact cA _ _) | (go_at_call_of 182 (Value.pointer (some ⟨bB, 0, none⟩)); exact cB _ _) | exact cM _ _))
  refine wpQuiet_nil ?_
  intro _ hw'
  obtain ⟨⟨dq, osq⟩, hw''⟩ := hw'
  subst hw''
  go_wp2
  go_ret2
  exact ⟨rfl, below_regrown w dq osq⟩
theorem paired_reck (R C : Nat) (hR : R ≤ 8) (hC8 : C ≤ 8) (xs ys : List Int) (hx : xs.length = R * C) (hy : ys.length = R * C) (F P bA Q bB : Nat) (w : World) (hA : AtBox w P bA C xs) (hB : AtBox w Q bB C ys) (hF : w.heap[F]? = some (.cells #[.func (.func G) #[] #[]] 112 (0, 0))) :
    Calls Tryz.prog 178 #[.agg #[.int .i64 R, .int .i64 C], .func (.func 194) #[] #[.pointer (some ⟨F, 0, none⟩), .pointer (some ⟨P, 0, none⟩), .pointer (some ⟨Q, 0, none⟩)]] w fun e b =>
      ∃ v, e = .returned (.tuple #[.agg #[.int .i64 R, .int .i64 C, v], .bool (paiB o xs ys)]) ∧ Sees b v (pai t xs ys) ∧ New w.heap.size v ∧ Below w.heap.size w b := by
  have h64 : R * C ≤ 64 := mul_le_64 hR hC8
  unfold paiB pai
  rw [hx]
  refine reckoned_any R C hR hC8 194 enters64 #[.pointer (some ⟨F, 0, none⟩), .pointer (some ⟨P, 0, none⟩), .pointer (some ⟨Q, 0, none⟩)] (fun p => t (ge xs p) (ge ys p)) (fun p => o (ge xs p) (ge ys p)) w ?_
  intro i j a hi hj hb
  exact paired1_any G hG t o hC i j C F P bA Q bB xs ys a (by omega) hj hC8 (by omega) (by omega) (by rw [hx]; exact at_lt hi hj) (by rw [hy]; exact at_lt hi hj) (hA.below hb) (hB.below hb) (cell_of_one (keep hb hF))
set_option maxHeartbeats 1600000 in
theorem paired_any (R C : Nat) (r1 : 1 ≤ R) (hR : R ≤ 8) (c1 : 1 ≤ C) (hC8 : C ≤ 8) (va vb : Value) (xs ys : List Int) (hx : xs.length = R * C) (hy : ys.length = R * C) (w : World) (sa : Sees w va xs) (sb : Sees w vb ys) :
    Calls Tryz.prog 183 #[.agg #[.int .i64 R, .int .i64 C, va], .agg #[.int .i64 R, .int .i64 C, vb], .func (.func G) #[] #[]] w fun e b =>
      ∃ v, e = .returned (.tuple #[.agg #[.int .i64 R, .int .i64 C, v], .bool (paiB o xs ys), .int .i64 0]) ∧ Sees b v (pai t xs ys) ∧ New w.heap.size v ∧ Below w.heap.size w b := by
  obtain ⟨ao, cap, rfl⟩ := sa.slice
  obtain ⟨bo, bcap, rfl⟩ := sb.slice
  have hla : laidB R C xs.length = true := laidB_mk r1 hR c1 hC8 hx
  have hlb : laidB R C ys.length = true := laidB_mk r1 hR c1 hC8 hy
  have hrk := fun F P bA Q bB w hA hB hF => paired_reck G hG t o hC R C hR hC8 xs ys hx hy F P bA Q bB w hA hB hF
  obtain ⟨S, hS⟩ : ∃ S, paiB o xs ys = S := ⟨_, rfl⟩
  rw [hS] at hrk ⊢
  clear hx hy hS hG hC
  obtain ⟨x1, x2, x3, x4⟩ := allocs4 w (.cells #[.int .i64 R, .int .i64 C, .slice ao xs.length cap] 29) (.cells #[.int .i64 R, .int .i64 C, .slice bo ys.length bcap] 29) (.cells #[.func (.func G) #[] #[]] 112) (.cells #[.int .i64 0, .int .i64 0, .slice none 0 0] 29)
  have bq := ball4 w (.cells #[.int .i64 R, .int .i64 C, .slice ao xs.length cap] 29) (.cells #[.int .i64 R, .int .i64 C, .slice bo ys.length bcap] 29) (.cells #[.func (.func G) #[] #[]] 112) (.cells #[.int .i64 0, .int .i64 0, .slice none 0 0] 29)
  obtain ⟨u0, u1, u2, _⟩ := mat_cells x1
  obtain ⟨v0, v1, v2, _⟩ := mat_cells x2
  have m0 := cell_regrown u0
  have m1 := cell_regrown u1
  have m2 := cell_regrown u2
  have m3 := cell_regrown v0
  have m4 := cell_regrown v1
  have m5 := cell_regrown v2
  go_enter Tryz.func183, Tryz.ntmps183
  go_upto_region 1 with fail
  refine wp_region_quiet_below (by kernel_rfl) (by kernel_rfl) ?_
  repeat (quiet_step ((go_at_call 144; exact sizeOf_calm _ _ _ _ _ _ _ _)))
  refine wpQuiet_nil ?_
  intro _ hw'
  obtain ⟨⟨dq, osq⟩, hw''⟩ := hw'
  have bz : Below _ _ _ := below_regrown ((((w.alloc (.cells #[.int .i64 R, .int .i64 C, .slice ao xs.length cap] 29)).alloc (.cells #[.int .i64 R, .int .i64 C, .slice bo ys.length bcap] 29)).alloc (.cells #[.func (.func G) #[] #[]] 112)).alloc (.cells #[.int .i64 0, .int .i64 0, .slice none 0 0] 29)) dq osq
  rw [← hw''] at bz
  clear hw'' m0 m1 m2 m3 m4 m5 u0 u1 u2 v0 v1 v2
  rename_i W
  have y1 := keep bz x1
  have y2 := keep bz x2
  have y3 := keep bz x3
  have y4 := keep bz x4
  have b0 := bt bq bz
  clear bz bq x1 x2 x3 x4
  obtain ⟨u0, u1, u2, _⟩ := mat_cells y1
  obtain ⟨v0, v1, v2, _⟩ := mat_cells y2
  go_upto_region 5 with (first
    | (go_at_call_of 159 (Value.slice ao xs.length cap); refine (laid_any _ _ _ _ _ _).mono ?_; rintro e w1 ⟨rfl, b1⟩; have a1 := keep b1 y1; have q1 := keep b1 y2; obtain ⟨c0, c1, c2, _⟩ := mat_cells a1; obtain ⟨d0, d1, d2, _⟩ := mat_cells q1)
    | (go_at_call 159; refine (laid_any _ _ _ _ _ _).mono ?_; rintro e w2 ⟨rfl, b2⟩))
  have a2 := keep b2 a1
  have q2 := keep b2 q1
  have y3' := keep b2 (keep b1 y3)
  have y4' := keep b2 (keep b1 y4)
  clear c0 c1 c2 d0 d1 d2 u0 u1 u2 v0 v1 v2
  refine two_ats (pos := "mat.go:159") (sA := 3) (sB := 4) (dA := 28) (fA := 29) (dB := 30) (fB := 31) (qA := 9) (qB := 10) (fun v28 v29 v30 v31 v9 v10 => ⟨#[.agg #[.int .i64 R, .int .i64 C, .slice ao xs.length cap], .agg #[.int .i64 R, .int .i64 C, .slice bo ys.length bcap], .func (.func G) #[] #[], .pointer (some ⟨w.heap.size, 0, none⟩), .pointer (some ⟨w.heap.size + 1, 0, none⟩), .pointer (some ⟨w.heap.size + 1 + 1, 0, none⟩), .pointer (some ⟨w.heap.size + 1 + 1 + 1, 0, none⟩), .bool false, .int .i64 0, v9, v10, undef, undef, .agg #[.int .i64 R, .int .i64 C, .slice ao xs.length cap], .agg #[.int .i64 R, .int .i64 C], .agg #[.int .i64 R, .int .i64 C, .slice bo ys.length bcap], .agg #[.int .i64 R, .int .i64 C], .bool false, undef, .agg #[.int .i64 R, .int .i64 C, .slice ao xs.length cap], .bool true, .bool false, .bool false, .agg #[.int .i64 R, .int .i64 C, .slice bo ys.length bcap], .bool true, .bool false, .bool false, undef, v28, v29, v30, v31, undef, undef, undef, undef, undef, undef, undef, undef, undef], []⟩) a2 q2 (fun _ _ _ _ _ _ _ => rfl) (fun _ _ _ _ _ _ _ => rfl) (fun _ _ _ _ _ _ _ => rfl) (fun _ _ _ _ _ _ _ => rfl) (fun _ _ _ _ _ _ _ => rfl) (fun _ _ _ _ _ _ _ => rfl) (fun _ _ _ _ _ _ => rfl) (fun _ _ _ _ _ _ => rfl) (fun _ _ _ _ _ _ => rfl) (fun _ _ _ _ _ _ => rfl) (fun _ _ _ _ _ _ => rfl) (fun _ _ _ _ _ _ => rfl) (fun _ _ _ _ _ _ => rfl) (fun _ _ _ _ _ _ => rfl) undef undef undef undef undef undef rfl (by kernel_rfl) ?_
  intro kA kB nA nB w3 b3 z1 z2 z3 z4
  have bw := bt (bt (bt b0 b1) b2) b3
  have A3 : AtBox w3 nA kA C xs := ⟨cell_of_one z3, lt_of_block z3, _, _, z1, sa.below bw⟩
  have B3 : AtBox w3 nB kB C ys := ⟨cell_of_one z4, lt_of_block z4, _, _, z2, sb.below bw⟩
  have a3 := keep b3 a2
  have f3 := keep b3 y3'
  have r3 := keep b3 y4'
  obtain ⟨g0, g1, g2, _⟩ := mat_cells a3
  clear z1 z2 z3 z4
  go_wp2_with (first
    | (go_at_call 144; refine (sizeOf_any _ _ _ _ _ _).mono ?_; rintro e w5 ⟨rfl, b5⟩)
    | (go_at_call 178; refine (hrk _ _ _ _ _ _ (A3.below b5) (B3.below b5) (keep b5 f3)).mono ?_; rintro e w4 ⟨v4, rfl, s4, n4, b4⟩; obtain ⟨ao4, cap4, rfl⟩ := s4.slice; obtain ⟨f0, f1, f2, k0, k1, k2⟩ := mat_cells (heap_old (keep b4 (keep b5 r3)) (.cells #[.int .i64 R, .int .i64 C, .slice ao4 (pai t xs ys).length cap4] 29))))
  refine bodyPost_ret (v := .tuple #[.agg #[.int .i64 R, .int .i64 C, .slice ao4 (pai t xs ys).length cap4], .bool S, .int .i64 0]) (by simp [results, Tryz.results183, go_sem, f0, f1, f2]) rfl ?_
  exact ⟨_, rfl, (s4.alloc _).put n4 (lt_of_block (keep b5 r3)) _ _ _, n4.mono (bt bw b5).size, below_put ((bt (bt bw b5) b4).alloc (bt (bt bw b5) b4).size _) (by omega) _ _ _⟩
end
end Go.Proofs.YtoefekkdjcflmaaGreatDoor
namespace Go.Proofs.YtoefekkdjcflmaaGreatDoor
open Go.RowKit Go.Sort Qm
set_option maxHeartbeats 400000 in
theorem add_mat (R C : Nat) (r1 : 1 ≤ R) (hR : R ≤ 8) (c1 : 1 ≤ C) (hC8 : C ≤ 8) (va vb : Value) (xs ys : List Int) (hx : xs.length = R * C) (hy : ys.length = R * C) (w : World) (sa : Sees w va xs) (sb : Sees w vb ys) :
    Calls Tryz.prog 165 #[.agg #[.int .i64 R, .int .i64 C, va], .agg #[.int .i64 R, .int .i64 C, vb]] w fun e b =>
      ∃ v, e = .returned (.tuple #[.agg #[.int .i64 R, .int .i64 C, v], .bool (paiB addB xs ys), .int .i64 0]) ∧ Sees b v (pai add xs ys) ∧ New w.heap.size v ∧ Below w.heap.size w b := by
  obtain ⟨ao, cap, rfl⟩ := sa.slice
  obtain ⟨bo, bcap, rfl⟩ := sb.slice
  have bW := ball3 w (.cells #[.int .i64 R, .int .i64 C, .slice ao xs.length cap] 29) (.cells #[.int .i64 R, .int .i64 C, .slice bo ys.length bcap] 29) (.cells #[.int .i64 0, .int .i64 0, .slice none 0 0] 29)
  obtain ⟨_, _, x3⟩ := allocs3 w (.cells #[.int .i64 R, .int .i64 C, .slice ao xs.length cap] 29) (.cells #[.int .i64 R, .int .i64 C, .slice bo ys.length bcap] 29) (.cells #[.int .i64 0, .int .i64 0, .slice none 0 0] 29)
  have hp := paired_any 118 enters34 add addB add_any R C r1 hR c1 hC8 _ _ xs ys hx hy _ (sa.below bW) (sb.below bW)
  obtain ⟨S, hS⟩ : ∃ S, paiB addB xs ys = S := ⟨_, rfl⟩
  rw [hS] at hp ⊢
  clear hx hy hS
  go_enter Tryz.func165, Tryz.ntmps165
  go_wp2_with (go_at_call 183; refine hp.mono ?_; rintro e w4 ⟨v4, rfl, s4, n4, b4⟩; obtain ⟨ao4, cap4, rfl⟩ := s4.slice; obtain ⟨f0, f1, f2, k0, k1, k2⟩ := mat_cells (keep b4 x3))
  refine bodyPost_ret (v := .tuple #[.agg #[.int .i64 R, .int .i64 C, .slice ao4 (pai add xs ys).length cap4], .bool S, .int .i64 0]) (by simp [results, Tryz.results165, go_sem, f0, f1, f2]) rfl ?_
  exact ⟨_, rfl, s4.put n4 (lt_of_block x3) _ _ _, n4.mono bW.size, below_put (bt bW b4) (by omega) _ _ _⟩
set_option maxHeartbeats 400000 in
theorem sub_mat (R C : Nat) (r1 : 1 ≤ R) (hR : R ≤ 8) (c1 : 1 ≤ C) (hC8 : C ≤ 8) (va vb : Value) (xs ys : List Int) (hx : xs.length = R * C) (hy : ys.length = R * C) (w : World) (sa : Sees w va xs) (sb : Sees w vb ys) :
    Calls Tryz.prog 200 #[.agg #[.int .i64 R, .int .i64 C, va], .agg #[.int .i64 R, .int .i64 C, vb]] w fun e b =>
      ∃ v, e = .returned (.tuple #[.agg #[.int .i64 R, .int .i64 C, v], .bool (paiB subB xs ys), .int .i64 0]) ∧ Sees b v (pai sub xs ys) ∧ New w.heap.size v ∧ Below w.heap.size w b := by
  obtain ⟨ao, cap, rfl⟩ := sa.slice
  obtain ⟨bo, bcap, rfl⟩ := sb.slice
  have bW := ball3 w (.cells #[.int .i64 R, .int .i64 C, .slice ao xs.length cap] 29) (.cells #[.int .i64 R, .int .i64 C, .slice bo ys.length bcap] 29) (.cells #[.int .i64 0, .int .i64 0, .slice none 0 0] 29)
  obtain ⟨_, _, x3⟩ := allocs3 w (.cells #[.int .i64 R, .int .i64 C, .slice ao xs.length cap] 29) (.cells #[.int .i64 R, .int .i64 C, .slice bo ys.length bcap] 29) (.cells #[.int .i64 0, .int .i64 0, .slice none 0 0] 29)
  have hp := paired_any 103 enters37 sub subB sub_any R C r1 hR c1 hC8 _ _ xs ys hx hy _ (sa.below bW) (sb.below bW)
  obtain ⟨S, hS⟩ : ∃ S, paiB subB xs ys = S := ⟨_, rfl⟩
  rw [hS] at hp ⊢
  clear hx hy hS
  go_enter Tryz.func200, Tryz.ntmps200
  go_wp2_with (go_at_call 183; refine hp.mono ?_; rintro e w4 ⟨v4, rfl, s4, n4, b4⟩; obtain ⟨ao4, cap4, rfl⟩ := s4.slice; obtain ⟨f0, f1, f2, k0, k1, k2⟩ := mat_cells (keep b4 x3))
  refine bodyPost_ret (v := .tuple #[.agg #[.int .i64 R, .int .i64 C, .slice ao4 (pai sub xs ys).length cap4], .bool S, .int .i64 0]) (by simp [results, Tryz.results200, go_sem, f0, f1, f2]) rfl ?_
  exact ⟨_, rfl, s4.put n4 (lt_of_block x3) _ _ _, n4.mono bW.size, below_put (bt bW b4) (by omega) _ _ _⟩
namespace Qm
def smv (p : Nat → Int) : Nat → Int
  | 0 => 0
  | k + 1 => add (smv p k) (p k)
def smB (p : Nat → Int) (x : Nat → Bool) : Nat → Bool
  | 0 => false
  | k + 1 => smB p x k || x k || addB (smv p k) (p k)
end Qm
set_option maxHeartbeats 800000 in
theorem summed_any (N : Nat) (hN : N ≤ 8) (G : Nat) (hG : ∀ (args : Array Value) (a : World), Sem.run Tryz.prog (callFunc G args) a = Result.ok (Next.enter G args) a) (caps : Array Value) (p : Nat → Int) (x : Nat → Bool) (w : World)
    (hcall : ∀ (k : Nat) a, k < N → Below w.heap.size w a → Calls Tryz.prog G (#[.int .i64 k] ++ caps) a (fun e b => e = .returned (.tuple #[.int .i64 (p k), .bool (x k)]) ∧ Below a.heap.size a b)) :
    Calls Tryz.prog 180 #[.int .i64 N, .func (.func G) #[] caps] w fun e b => e = .returned (.tuple #[.int .i64 (smv p N), .bool (smB p x N)]) ∧ Below w.heap.size w b := by
  go_enter Tryz.func180, Tryz.ntmps180
  go_wp2
  go_loopw [6, 7, 14] (fun s m i wr => ∃ k : Nat, k ≤ N ∧ i = .int .i64 k ∧ s = .int .i64 (smv p k) ∧ m = .bool (smB p x k) ∧ Below w.heap.size w wr) (fun _ _ i _ => N - (intOf i).toNat)
  case atStart => exact ⟨0, Nat.zero_le _, rfl, rfl, rfl, Below.refl _ _⟩
  case round =>
    obtain ⟨k, hk, rfl, rfl, rfl, hb⟩ := hrel
    by_cases hlt : k < N
    · have hc1 := hcall k wr hlt hb
      have HS : Hid (smv p (k + 1) = add (smv p k) (p k)) := rfl
      have HM : Hid (smB p x (k + 1) = (smB p x k || x k || addB (smv p k) (p k))) := rfl
      obtain ⟨S, hS⟩ : ∃ S, smv p k = S := ⟨_, rfl⟩
      obtain ⟨M, hM⟩ : ∃ M, smB p x k = M := ⟨_, rfl⟩
      obtain ⟨X, hX⟩ : ∃ X, x k = X := ⟨_, rfl⟩
      obtain ⟨Q, hQ⟩ : ∃ Q, p k = Q := ⟨_, rfl⟩
      rw [hS, hM, hX, hQ] at HM
      rw [hS, hQ] at HS
      rw [hX, hQ] at hc1
      rw [hS, hM]
      clear hS hM hX hQ
      cases M <;> cases X
      all_goals
        go_wp2_with (first | (go_at_call 118; refine (add_any _ _ _).mono ?_; rintro e wy ⟨rfl, rfl⟩) | (refine Calls.mono hc1 ?_; rintro e wx ⟨rfl, bx⟩))
        go_roundw
        case rel => exact ⟨k + 1, by omega, by go_num, by rw [HS.out], by rw [HM.out]; rfl, bt hb bx⟩
        case measure => simp [intOf]; omega
    · have e : k = N := by omega
      subst e
      go_wp2
      go_ret2
      exact ⟨rfl, hb⟩
end Go.Proofs.YtoefekkdjcflmaaGreatDoor
namespace Go.Proofs.YtoefekkdjcflmaaGreatDoor
open Go.RowKit Go.Sort Qm
theorem enters44 : ∀ (args : Array Value) (a : World), Sem.run Tryz.prog (callFunc 181 args) a = Result.ok (Next.enter 181 args) a := by
  intro args a
  simp [callFunc, Tryz.func181, go_sem]
  rfl
theorem enters42 : ∀ (args : Array Value) (a : World), Sem.run Tryz.prog (callFunc 179 args) a = Result.ok (Next.enter 179 args) a := by
  intro args a
  simp [callFunc, Tryz.func179, go_sem]
  rfl
set_option maxHeartbeats 400000 in
theorem mul2_any (i j k N C : Nat) (P bA Q bB I J : Nat) (xs ys : List Int) (w : World) (hi : i ≤ 8) (hk : k < N) (hN : N ≤ 8) (hj : j < C) (hC : C ≤ 8) (hx : xs.length ≤ 64) (hy : ys.length ≤ 64)
    (hxa : i * N + k < xs.length) (hya : k * C + j < ys.length) (hA : AtBox w P bA N xs) (hB : AtBox w Q bB C ys) (hI : w.cell? ⟨I, 0, none⟩ = some (.int .i64 i)) (hJ : w.cell? ⟨J, 0, none⟩ = some (.int .i64 j)) :
    Calls Tryz.prog 181 #[.int .i64 k, .pointer (some ⟨P, 0, none⟩), .pointer (some ⟨I, 0, none⟩), .pointer (some ⟨Q, 0, none⟩), .pointer (some ⟨J, 0, none⟩)] w fun e w' =>
      e = .returned (.tuple #[.int .i64 (mul (ge xs (i * N + k)) (ge ys (k * C + j))), .bool (mulB (ge xs (i * N + k)) (ge ys (k * C + j)))]) ∧ Below w.heap.size w w' := by
  have k1 := cell_regrown hA.1
  have k2 := cell_regrown hB.1
  have k3 := cell_regrown hI
  have k4 := cell_regrown hJ
  have cA := at_calm i k N P bA xs w hi hk hN hx hxa hA
  have cB := at_calm k j C Q bB ys w (by omega) hj hC hy hya hB
  obtain ⟨x, hx'⟩ : ∃ x, ge xs (i * N + k) = x := ⟨_, rfl⟩
  obtain ⟨y, hy'⟩ : ∃ y, ge ys (k * C + j) = y := ⟨_, rfl⟩
  rw [hx'] at cA ⊢
  rw [hy'] at cB ⊢
  clear hx' hy' hA hB hI hJ hxa hya
  have cM := mul_calm x y w
  go_enter Tryz.func181, Tryz.ntmps181
  go_wp2
  refine wp_region_quiet_below (by kernel_rfl) (by kernel_rfl) ?_
  repeat (quiet_step (first | (go_at_call_of 182 (Value.pointer (some ⟨bA, 0, none⟩)); exact cA _ _) | (go_at_call_of 182 (Value.pointer (some ⟨bB, 0, none⟩)); exact cB _ _) | (go_at_call 99; exact cM _ _)))
  refine wpQuiet_nil ?_
  intro _ hw'
  obtain ⟨⟨dq, osq⟩, hw''⟩ := hw'
  subst hw''
  go_wp2
  go_ret2
  exact ⟨rfl, below_regrown w dq osq⟩
namespace Qm
def dot (n c : Nat) (xs ys : List Int) (i j : Nat) : Int := smv (fun k => mul (ge xs (i * n + k)) (ge ys (k * c + j))) n
def dotB (n c : Nat) (xs ys : List Int) (i j : Nat) : Bool := smB (fun k => mul (ge xs (i * n + k)) (ge ys (k * c + j))) (fun k => mulB (ge xs (i * n + k)) (ge ys (k * c + j))) n
def prd (r n c : Nat) (xs ys : List Int) : List Int := tab (fun p => dot n c xs ys (p / c) (p % c)) (r * c)
def prdB (r n c : Nat) (xs ys : List Int) : Bool := anyB (fun p => dotB n c xs ys (p / c) (p % c)) (r * c)
end Qm
set_option maxHeartbeats 400000 in
theorem mul1_any (i j R N C : Nat) (A P bA Q bB : Nat) (xs ys : List Int) (w : World) (hi : i < R) (hR : R ≤ 8) (hN : N ≤ 8) (hj : j < C) (hC : C ≤ 8) (hx : xs.length = R * N) (hy : ys.length = N * C)
    (hA : AtBox w P bA N xs) (hB : AtBox w Q bB C ys) (h0 : w.cell? ⟨A, 1, none⟩ = some (.int .i64 N)) :
    Calls Tryz.prog 179 #[.int .i64 i, .int .i64 j, .pointer (some ⟨A, 0, none⟩), .pointer (some ⟨P, 0, none⟩), .pointer (some ⟨Q, 0, none⟩)] w fun e w' =>
      e = .returned (.tuple #[.int .i64 (dot N C xs ys i j), .bool (dotB N C xs ys i j)]) ∧ Below w.heap.size w w' := by
  have h64 : R * N ≤ 64 := mul_le_64 hR hN
  have h65 : N * C ≤ 64 := mul_le_64 hN hC
  obtain ⟨W, hW⟩ : ∃ W, (w.alloc (.cells #[.int .i64 i] 3)).alloc (.cells #[.int .i64 j] 3) = W := ⟨_, rfl⟩
  have bW : Below w.heap.size w W := by rw [← hW]; exact ball2 _ _ _
  have hsm := summed_any N hN 181 enters44 #[.pointer (some ⟨P, 0, none⟩), .pointer (some ⟨w.heap.size, 0, none⟩), .pointer (some ⟨Q, 0, none⟩), .pointer (some ⟨w.heap.size + 1, 0, none⟩)]
    (fun k => mul (ge xs (i * N + k)) (ge ys (k * C + j))) (fun k => mulB (ge xs (i * N + k)) (ge ys (k * C + j))) W (by
      intro k a hk hb
      obtain ⟨x1, x2⟩ := allocs2 w (.cells #[.int .i64 i] 3) (.cells #[.int .i64 j] 3)
      rw [hW] at x1 x2
      exact mul2_any i j k N C P bA Q bB w.heap.size (w.heap.size + 1) xs ys a (by omega) hk hN hj hC (by omega) (by omega) (by rw [hx]; exact at_lt hi hk) (by rw [hy]; exact at_lt hk hj) (hA.below (bt bW hb)) (hB.below (bt bW hb)) (cell_of_one (keep hb x1)) (cell_of_one (keep hb x2)))
  have hAc : A < w.heap.size := block_lt_of_cell h0
  have h1 : W.cell? ⟨A, 1, none⟩ = some (.int .i64 N) := by rw [bW.cell (p := ⟨A, 1, none⟩) hAc]; exact h0
  change Calls Tryz.prog 180 _ W (fun e b => e = .returned (.tuple #[.int .i64 (dot N C xs ys i j), .bool (dotB N C xs ys i j)]) ∧ _) at hsm
  obtain ⟨D, hD⟩ : ∃ D, dot N C xs ys i j = D := ⟨_, rfl⟩
  obtain ⟨E, hE⟩ : ∃ E, dotB N C xs ys i j = E := ⟨_, rfl⟩
  rw [hD, hE] at hsm ⊢
  rw [← hW] at hsm h1 bW
  clear hW hD hE hA hB hx hy h0
  go_enter Tryz.func179, Tryz.ntmps179
  go_wp2_with (go_at_call 180; refine hsm.mono ?_; rintro e wx ⟨rfl, bx⟩)
  go_ret2
  exact ⟨rfl, bt bW bx⟩
theorem mul_reck (R N C : Nat) (hR : R ≤ 8) (hN : N ≤ 8) (hC : C ≤ 8) (xs ys : List Int) (hx : xs.length = R * N) (hy : ys.length = N * C) (A P bA Q bB : Nat) (w : World) (hA : AtBox w P bA N xs) (hB : AtBox w Q bB C ys) (h0 : w.cell? ⟨A, 1, none⟩ = some (.int .i64 N)) :
    Calls Tryz.prog 178 #[.agg #[.int .i64 R, .int .i64 C], .func (.func 179) #[] #[.pointer (some ⟨A, 0, none⟩), .pointer (some ⟨P, 0, none⟩), .pointer (some ⟨Q, 0, none⟩)]] w fun e b =>
      ∃ v, e = .returned (.tuple #[.agg #[.int .i64 R, .int .i64 C, v], .bool (prdB R N C xs ys)]) ∧ Sees b v (prd R N C xs ys) ∧ New w.heap.size v ∧ Below w.heap.size w b := by
  refine reckoned_any R C hR hC 179 enters42 #[.pointer (some ⟨A, 0, none⟩), .pointer (some ⟨P, 0, none⟩), .pointer (some ⟨Q, 0, none⟩)] (fun p => dot N C xs ys (p / C) (p % C)) (fun p => dotB N C xs ys (p / C) (p % C)) w ?_
  intro i j a hi hj hb
  have e1 : (i * C + j) % C = j := mod_of hj
  have e2 : (i * C + j) / C = i := div_of hj
  simp only [e1, e2]
  exact mul1_any i j R N C A P bA Q bB xs ys a hi hR hN hj hC hx hy (hA.below hb) (hB.below hb) (by rw [hb.cell (p := ⟨A, 1, none⟩) (block_lt_of_cell h0)]; exact h0)
end Go.Proofs.YtoefekkdjcflmaaGreatDoor
namespace Go.Proofs.YtoefekkdjcflmaaGreatDoor
open Go.RowKit Go.Sort Qm
set_option maxHeartbeats 1600000 in
theorem mul_mat (R N C : Nat) (r1 : 1 ≤ R) (hR : R ≤ 8) (n1 : 1 ≤ N) (hN : N ≤ 8) (c1 : 1 ≤ C) (hC : C ≤ 8) (va vb : Value) (xs ys : List Int) (hx : xs.length = R * N) (hy : ys.length = N * C) (w : World) (sa : Sees w va xs) (sb : Sees w vb ys) :
    Calls Tryz.prog 157 #[.agg #[.int .i64 R, .int .i64 N, va], .agg #[.int .i64 N, .int .i64 C, vb]] w fun e b =>
      ∃ v, e = .returned (.tuple #[.agg #[.int .i64 R, .int .i64 C, v], .bool (prdB R N C xs ys), .int .i64 0]) ∧ Sees b v (prd R N C xs ys) ∧ New w.heap.size v ∧ Below w.heap.size w b := by
  obtain ⟨ao, cap, rfl⟩ := sa.slice
  obtain ⟨bo, bcap, rfl⟩ := sb.slice
  have hla : laidB R N xs.length = true := laidB_mk r1 hR n1 hN hx
  have hlb : laidB N C ys.length = true := laidB_mk n1 hN c1 hC hy
  have hrk := fun A P bA Q bB w hA hB h0 => mul_reck R N C hR hN hC xs ys hx hy A P bA Q bB w hA hB h0
  obtain ⟨S, hS⟩ : ∃ S, prdB R N C xs ys = S := ⟨_, rfl⟩
  rw [hS] at hrk ⊢
  clear hx hy hS
  go_enter Tryz.func157, Tryz.ntmps157
  go_upto_region 5 with (first
    | (go_at_call_of 159 (Value.slice ao xs.length cap); refine (laid_any _ _ _ _ _ _).mono ?_; rintro e w1 ⟨rfl, b1⟩; have a1 := keep b1 (allocs3 w _ _ _).1; have q1 := keep b1 (allocs3 w _ _ _).2.1; have r1 := keep b1 (allocs3 w _ _ _).2.2; obtain ⟨c0, c1, c2, _⟩ := mat_cells a1; obtain ⟨d0, d1, d2, _⟩ := mat_cells q1)
    | (go_at_call 159; refine (laid_any _ _ _ _ _ _).mono ?_; rintro e w2 ⟨rfl, b2⟩; have a2 := keep b2 a1; have q2 := keep b2 q1; have r2 := keep b2 r1; obtain ⟨e0, e1, e2, _⟩ := mat_cells a2; obtain ⟨f0, f1, f2, _⟩ := mat_cells q2))
  refine two_ats (pos := "mat.go:62") (sA := 2) (sB := 3) (dA := 26) (fA := 27) (dB := 28) (fB := 29) (qA := 7) (qB := 8) (fun v26 v27 v28 v29 v7 v8 => ⟨#[.agg #[.int .i64 R, .int .i64 N, .slice ao xs.length cap], .agg #[.int .i64 N, .int .i64 C, .slice bo ys.length bcap], .pointer (some ⟨w.heap.size, 0, none⟩), .pointer (some ⟨w.heap.size + 1, 0, none⟩), .pointer (some ⟨w.heap.size + 1 + 1, 0, none⟩), .bool false, .int .i64 0, v7, v8, undef, undef, .pointer (some ⟨w.heap.size, 1, none⟩), .int .i64 N, .pointer (some ⟨w.heap.size + 1, 0, none⟩), .int .i64 N, .bool false, undef, .agg #[.int .i64 R, .int .i64 N, .slice ao xs.length cap], .bool true, .bool false, .bool false, .agg #[.int .i64 N, .int .i64 C, .slice bo ys.length bcap], .bool true, .bool false, .bool false, undef, v26, v27, v28, v29, undef, undef, undef, undef, undef, undef, undef, undef, undef, undef, undef, undef], []⟩) a2 q2 (fun _ _ _ _ _ _ _ => rfl) (fun _ _ _ _ _ _ _ => rfl) (fun _ _ _ _ _ _ _ => rfl) (fun _ _ _ _ _ _ _ => rfl) (fun _ _ _ _ _ _ _ => rfl) (fun _ _ _ _ _ _ _ => rfl) (fun _ _ _ _ _ _ => rfl) (fun _ _ _ _ _ _ => rfl) (fun _ _ _ _ _ _ => rfl) (fun _ _ _ _ _ _ => rfl) (fun _ _ _ _ _ _ => rfl) (fun _ _ _ _ _ _ => rfl) (fun _ _ _ _ _ _ => rfl) (fun _ _ _ _ _ _ => rfl) undef undef undef undef undef undef rfl (by kernel_rfl) ?_
  intro kA kB nA nB w3 b3 z1 z2 z3 z4
  have bw := bt (bt (bt (ball3 w _ _ _) b1) b2) b3
  have A3 : AtBox w3 nA kA N xs := ⟨cell_of_one z3, lt_of_block z3, _, _, z1, sa.below bw⟩
  have B3 : AtBox w3 nB kB C ys := ⟨cell_of_one z4, lt_of_block z4, _, _, z2, sb.below bw⟩
  have a3 := keep b3 a2
  have q3 := keep b3 q2
  have r3 := keep b3 r2
  obtain ⟨g0, g1, g2, _⟩ := mat_cells a3
  obtain ⟨h0, h1, h2, _⟩ := mat_cells q3
  clear z1 z2 z3 z4 c0 c1 c2 d0 d1 d2 e0 e1 e2 f0 f1 f2
  go_wp2_with (go_at_call 178; refine (hrk _ _ _ _ _ _ A3 B3 g1).mono ?_; rintro e w4 ⟨v4, rfl, s4, n4, b4⟩; obtain ⟨ao4, cap4, rfl⟩ := s4.slice; obtain ⟨f0, f1, f2, k0, k1, k2⟩ := mat_cells (heap_old (keep b4 r3) (.cells #[.int .i64 R, .int .i64 C, .slice ao4 (prd R N C xs ys).length cap4] 29)))
  refine bodyPost_ret (v := .tuple #[.agg #[.int .i64 R, .int .i64 C, .slice ao4 (prd R N C xs ys).length cap4], .bool S, .int .i64 0]) (by simp [results, Tryz.results157, go_sem, f0, f1, f2]) rfl ?_
  exact ⟨_, rfl, (s4.alloc _).put n4 (lt_of_block r3) _ _ _, n4.mono bw.size, below_put ((bt bw b4).alloc (bt bw b4).size _) (by omega) _ _ _⟩
end Go.Proofs.YtoefekkdjcflmaaGreatDoor

