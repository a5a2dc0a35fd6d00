/- Parts of the proof. -/
import Derived.Test.YtoefekkdjcflmaaGreatDoorM03
namespace Go.Proofs.YtoefekkdjcflmaaGreatDoor.Qt
open Go.RowKit Go.Sort Go.Proofs.YtoefekkdjcflmaaGreatDoor.Qm Go.Proofs.YtoefekkdjcflmaaGreatDoor.Qt.Qm
set_option maxHeartbeats 1000000 in
theorem mul1_any (k : Nat) (hk : k < 4) (P Q : Nat) (p q : Nat → Int) (w : World) (hP : Box4 w P p) (hQ : Box4 w Q q) (hG : Less w) :
    Calls Tryz.prog 100 #[.int .i64 k, .pointer (some ⟨P, 0, none⟩), .pointer (some ⟨Q, 0, none⟩)] w fun e w' =>
      e = .returned (.tuple #[.int .i64 (qm p q k), .bool (qmB p q k)]) ∧ Below w.heap.size w w' := by
  have hsm := summed_any 102 enters28 #[.pointer (some ⟨P, 0, none⟩), .pointer (some ⟨Q, 0, none⟩), .pointer (some ⟨w.heap.size, 0, none⟩)] (tm p q k) (tmB p q k) (w.alloc (.cells #[.int .i64 k] 3)) (by
    intro i a hi hb
    have b0 := ball1 w (.cells #[.int .i64 k] 3)
    exact mul11_any k i hk hi P Q w.heap.size p q a (hP.below (bt b0 hb)) (hQ.below (bt b0 hb)) (cell_of_one (keep hb (heap_new _ _))) (hG.below (bt b0 hb)))
  change Calls Tryz.prog 101 _ _ (fun e b => e = .returned (.tuple #[.int .i64 (qm p q k), .bool (qmB p q k)]) ∧ _) at hsm
  obtain ⟨D, hD⟩ : ∃ D, qm p q k = D := ⟨_, rfl⟩
  obtain ⟨E, hE⟩ : ∃ E, qmB p q k = E := ⟨_, rfl⟩
  rw [hD, hE] at hsm ⊢
  clear hD hE hP hQ hG
  go_enter Tryz.func100, Tryz.ntmps100
  go_wp2_with (go_at_call 101; refine hsm.mono ?_; rintro e wx ⟨rfl, bx⟩)
  go_ret2
  exact ⟨rfl, bt (ball1 _ _) bx⟩
theorem put4 {B D : Nat} {w a : World} (h : Below B w a) (hD : B ≤ D) (x y z u : Value) : Below B w ((((a.setCell ⟨D, 0, none⟩ x).setCell ⟨D, 1, none⟩ y).setCell ⟨D, 2, none⟩ z).setCell ⟨D, 3, none⟩ u) :=
  (((h.setCell hD x).setCell hD y).setCell hD z).setCell hD u
set_option maxHeartbeats 1000000 in
theorem qmul_any (p q : Nat → Int) (w : World) (hG : Less w) :
    Calls Tryz.prog 62 #[.agg #[.int .i64 (p 0), .int .i64 (p 1), .int .i64 (p 2), .int .i64 (p 3)], .agg #[.int .i64 (q 0), .int .i64 (q 1), .int .i64 (q 2), .int .i64 (q 3)]] w fun e w' =>
      e = .returned (.tuple #[.agg #[.int .i64 (qm p q 0), .int .i64 (qm p q 1), .int .i64 (qm p q 2), .int .i64 (qm p q 3)], .bool (anyB (qmB p q) 4)]) ∧ Below w.heap.size w w' := by
  obtain ⟨W, hW⟩ : ∃ W, ((w.alloc (.cells #[.int .i64 (p 0), .int .i64 (p 1), .int .i64 (p 2), .int .i64 (p 3)] 26)).alloc (.cells #[.int .i64 (q 0), .int .i64 (q 1), .int .i64 (q 2), .int .i64 (q 3)] 26)).alloc (.cells #[.int .i64 0, .int .i64 0, .int .i64 0, .int .i64 0] 26) = W := ⟨_, rfl⟩
  obtain ⟨g1, g2, g3⟩ := allocs3 w (.cells #[.int .i64 (p 0), .int .i64 (p 1), .int .i64 (p 2), .int .i64 (p 3)] 26) (.cells #[.int .i64 (q 0), .int .i64 (q 1), .int .i64 (q 2), .int .i64 (q 3)] 26) (.cells #[.int .i64 0, .int .i64 0, .int .i64 0, .int .i64 0] 26)
  have bW := ball3 w (.cells #[.int .i64 (p 0), .int .i64 (p 1), .int .i64 (p 2), .int .i64 (p 3)] 26) (.cells #[.int .i64 (q 0), .int .i64 (q 1), .int .i64 (q 2), .int .i64 (q 3)] 26) (.cells #[.int .i64 0, .int .i64 0, .int .i64 0, .int .i64 0] 26)
  rw [hW] at g1 g2 g3 bW
  have ht := told_any 100 enters26 #[.pointer (some ⟨w.heap.size, 0, none⟩), .pointer (some ⟨w.heap.size + 1, 0, none⟩)] (qm p q) (qmB p q) W (by
    intro k a hk hb
    exact mul1_any k hk w.heap.size (w.heap.size + 1) p q a ((Box4.of g1).below hb) ((Box4.of g2).below hb) (hG.below (bt bW hb)))
  obtain ⟨X, hX⟩ : ∃ X, anyB (qmB p q) 4 = X := ⟨_, rfl⟩
  obtain ⟨z0, hz0⟩ : ∃ z, qm p q 0 = z := ⟨_, rfl⟩
  obtain ⟨z1, hz1⟩ : ∃ z, qm p q 1 = z := ⟨_, rfl⟩
  obtain ⟨z2, hz2⟩ : ∃ z, qm p q 2 = z := ⟨_, rfl⟩
  obtain ⟨z3, hz3⟩ : ∃ z, qm p q 3 = z := ⟨_, rfl⟩
  rw [hX, hz0, hz1, hz2, hz3] at ht ⊢
  rw [← hW] at ht
  have HW : Hid (_ = W) := hW
  clear hX hz0 hz1 hz2 hz3 hG hW
  go_enter Tryz.func62, Tryz.ntmps62
  go_wp2_with (go_at_call 89; refine ht.mono ?_; rintro e wx ⟨rfl, bx⟩; rw [HW.out] at bx; obtain ⟨d0, d1, d2, d3, f0, f1, f2, f3⟩ := four_cells (keep bx g3))
  refine bodyPost_ret (v := .tuple #[.agg #[.int .i64 z0, .int .i64 z1, .int .i64 z2, .int .i64 z3], .bool X]) (by simp [results, Tryz.results62, go_sem, d0, d1, d2, d3]) rfl ?_
  exact ⟨rfl, put4 (bt bW bx) (by omega) _ _ _ _⟩
end Go.Proofs.YtoefekkdjcflmaaGreatDoor.Qt
namespace Go.Proofs.YtoefekkdjcflmaaGreatDoor
open Go.RowKit Qm
theorem le_words (x n : Int) : x ≤ n ↔ (hi64 x < hi64 n ∨ (hi64 x = hi64 n ∧ lo64 x ≤ lo64 n)) := by unfold hi64 lo64; omega
theorem words (a : Int) : hi64 (a * 16777216) = a / 1099511627776 ∧ lo64 (a * 16777216) = IntKind.u64.wrap (a * 16777216) := by
  unfold hi64 lo64; rw [IntKind.wrap_u64]; omega
set_option maxHeartbeats 400000 in
theorem sqrt_below (a : Int) (w : World) (h : cl a < 0) :
    Calls Tryz.prog 105 #[.int .i64 a] w fun e w' => e = .returned (.tuple #[.int .i64 (sqrt a), .bool (sqrtB a)]) ∧ w' = w := by
  obtain ⟨e1, e2⟩ := sqrt_neg h
  rw [e1, e2]
  clear e1 e2
  go_enter Tryz.func105, Tryz.ntmps105
  go_wp2_with (go_at_call 91; refine (clamp_any _ _).mono ?_; rintro e w' ⟨rfl, rfl⟩)
  go_ret2
  exact ⟨rfl, rfl⟩
set_option maxHeartbeats 2000000 in
theorem sqrt_rest (a : Int) (w : World) (h : ¬ cl a < 0) :
    Calls Tryz.prog 105 #[.int .i64 a] w fun e w' => e = .returned (.tuple #[.int .i64 (sqrt a), .bool (sqrtB a)]) ∧ w' = w := by
  obtain ⟨e1, e2⟩ := sqrt_pos h
  rw [e1, e2]
  clear e1 e2
  have h1 := cl_hi a
  obtain ⟨z1, z2⟩ := words (cl a)
  obtain ⟨N, hN⟩ : ∃ N, cl a * 16777216 = N := ⟨_, rfl⟩
  have n0 : 0 ≤ N := by omega
  have n1 : N < 1180591620717411303424 := by omega
  rw [hN] at z1 z2 ⊢
  obtain ⟨l1, l2⟩ := lo64_bd N
  obtain ⟨i1, i2⟩ := hi64_bd n0 (by omega)
  have z1' := z1.symm
  have z2' := z2.symm
  clear z1 z2
  obtain ⟨hN64, e64⟩ : ∃ x, hi64 N = x := ⟨_, rfl⟩
  obtain ⟨lN64, f64⟩ : ∃ x, lo64 N = x := ⟨_, rfl⟩
  have E1 : Hid (hi64 N = hN64) := e64
  have E2 : Hid (lo64 N = lN64) := f64
  rw [e64] at z1' i1 i2
  rw [f64] at z2' l1 l2
  have HN : Hid (cl a * 16777216 = N) := hN
  clear e64 f64
  go_enter Tryz.func105, Tryz.ntmps105
  go_wp2_with (go_at_call 91; refine (clamp_any _ _).mono ?_; rintro e w' ⟨rfl, rfl⟩)
  go_loop [7, 25] (fun x i => ∃ (m : Nat) (r : Int), m ≤ 35 ∧ Hid (RootInv N r m) ∧ x = .int .u64 r ∧ i = .int .i64 (35 - (m : Int))) (fun _ i => (35 - intOf i).toNat)
  case atStart => exact ⟨35, 0, by omega, RootInv.start n0 n1, rfl, rfl⟩
  case round =>
    obtain ⟨m, r, hm, hi, rfl, rfl⟩ := hrel
    cases m with
    | zero =>
      obtain ⟨lo, up, r0, -, rb⟩ := hi.out
      have hr : r = root N := root_uniq n0 n1 r0 lo up
      have rb' : r ≤ 34359738368 := by have : (2 : Int) ^ 0 = 1 := rfl; omega
      clear lo up rb
      have HR : Hid (r = root N) := hr
      clear hr
      go_wp2
      go_ret2
      exact ⟨by rw [← HR.out]; rfl, rfl⟩
    | succ m =>
      have hi' := hi.out
      have q0 := pow2_pos m
      have qq := pow2 m
      have rr := hi'.half
      have rb := hi'.rb
      have r0 := hi'.r0
      have rm := hi'.rm
      have hor : bits BinOp.or IntKind.u64 r (2 ^ m) = r + 2 ^ m := bits_join .u64 64 (by decide) (fun n h0 h1 => by rw [IntKind.wrap_u64]; omega) (m + 1) r (2 ^ m) r0 rm (by omega) (by omega) (by omega) (by omega)
      rw [qq] at rb
      clear qq rr rm hi'
      obtain ⟨p, hp⟩ : ∃ p : Int, (2 : Int) ^ m = p := ⟨_, rfl⟩
      rw [hp] at hor q0 rb
      obtain ⟨x, hx⟩ : ∃ x, r + p = x := ⟨_, rfl⟩
      rw [hx] at hor
      have x0 : 0 ≤ x := by omega
      have x1 : x ≤ 34359738368 := by omega
      have HX : Hid (r + p = x) := hx
      clear hx
      have hp2 : (2 : Int) ^ (34 - (34 - m)) = p := by rw [show 34 - (34 - m) = m by omega]; exact hp
      have hle := le_words (x * x) N
      rw [E1.out, E2.out] at hle
      have LE : Hid (x * x ≤ N ↔ (hi64 (x * x) < hN64 ∨ (hi64 (x * x) = hN64 ∧ lo64 (x * x) ≤ lN64))) := hle
      clear hle
      by_cases c1 : hi64 (x * x) < hN64
      · have c : x * x ≤ N := LE.out.2 (Or.inl c1)
        have HI : Hid (RootInv N (r + 2 ^ m) m) := hi.out.yes (by rw [hp, HX.out]; exact c)
        rw [hp, HX.out] at HI
        clear c
        go_wp2_with (go_at_call 150; refine (mul64_any _ _ _ (by omega) (by omega) (by omega) (by omega)).mono ?_; rintro e w' ⟨rfl, rfl⟩)
        go_round
        case rel => exact ⟨m, x, by omega, HI, rfl, by go_num⟩
        case measure => simp [intOf]; omega
      · by_cases c2 : hi64 (x * x) = hN64
        · have c2' : (hi64 (x * x) == hN64) = true := by simp [c2]
          by_cases c3 : lo64 (x * x) ≤ lN64
          · have c : x * x ≤ N := LE.out.2 (Or.inr ⟨c2, c3⟩)
            have HI : Hid (RootInv N (r + 2 ^ m) m) := hi.out.yes (by rw [hp, HX.out]; exact c)
            rw [hp, HX.out] at HI
            clear c c2
            go_wp2_with (go_at_call 150; refine (mul64_any _ _ _ (by omega) (by omega) (by omega) (by omega)).mono ?_; rintro e w' ⟨rfl, rfl⟩)
            go_round
            case rel => exact ⟨m, x, by omega, HI, rfl, by go_num⟩
            case measure => simp [intOf]; omega
          · have c : ¬ x * x ≤ N := by rw [LE.out]; omega
            have HI : Hid (RootInv N r m) := hi.out.no (by rw [hp, HX.out]; exact c)
            clear c c2
            go_wp2_with (go_at_call 150; refine (mul64_any _ _ _ (by omega) (by omega) (by omega) (by omega)).mono ?_; rintro e w' ⟨rfl, rfl⟩)
            go_round
            case rel => exact ⟨m, r, by omega, HI, rfl, by go_num⟩
            case measure => simp [intOf]; omega
        · have c2' : (hi64 (x * x) == hN64) = false := by simp [c2]
          have c : ¬ x * x ≤ N := by rw [LE.out]; omega
          have HI : Hid (RootInv N r m) := hi.out.no (by rw [hp, HX.out]; exact c)
          clear c c2
          go_wp2_with (go_at_call 150; refine (mul64_any _ _ _ (by omega) (by omega) (by omega) (by omega)).mono ?_; rintro e w' ⟨rfl, rfl⟩)
          go_round
          case rel => exact ⟨m, r, by omega, HI, rfl, by go_num⟩
          case measure => simp [intOf]; omega
theorem sqrt_any (a : Int) (w : World) :
    Calls Tryz.prog 105 #[.int .i64 a] w fun e w' => e = .returned (.tuple #[.int .i64 (sqrt a), .bool (sqrtB a)]) ∧ w' = w := by
  by_cases h : cl a < 0
  · exact sqrt_below a w h
  · exact sqrt_rest a w h
end Go.Proofs.YtoefekkdjcflmaaGreatDoor
namespace Go.Proofs.YtoefekkdjcflmaaGreatDoor.Qt
open Go.RowKit Go.Sort Go.Proofs.YtoefekkdjcflmaaGreatDoor.Qm Go.Proofs.YtoefekkdjcflmaaGreatDoor.Qt.Qm
namespace Qm
def nm (p : Nat → Int) : Int := sm4 (fun k => mul (p k) (p k))
def nmB (p : Nat → Int) : Bool := anyB (fun k => mulB (p k) (p k)) 4 || sm4B (fun k => mul (p k) (p k))
def un (p : Nat → Int) (k : Nat) : Int := if sqrt (nm p) = 0 then (if k = 0 then 16777216 else 0) else div (p k) (sqrt (nm p))
def unB (p : Nat → Int) : Bool := if sqrt (nm p) = 0 then true else (nmB p || sqrtB (nm p) || anyB (fun k => divB (p k) (sqrt (nm p))) 4)
def cj (p : Nat → Int) (k : Nat) : Int := if k = 0 then p 0 else sub 0 (p k)
def cjB (p : Nat → Int) (k : Nat) : Bool := if k = 0 then false else subB 0 (p k)
end Qm
open Go.Proofs.YtoefekkdjcflmaaGreatDoor.Qt.Qm
theorem enters32 : ∀ (args : Array Value) (a : World), Sem.run Tryz.prog (callFunc 152 args) a = Result.ok (Next.enter 152 args) a := by
  intro args a; simp [callFunc, Tryz.func152, go_sem]; rfl
theorem enters34 : ∀ (args : Array Value) (a : World), Sem.run Tryz.prog (callFunc 106 args) a = Result.ok (Next.enter 106 args) a := by
  intro args a; simp [callFunc, Tryz.func106, go_sem]; rfl
theorem enters60 : ∀ (args : Array Value) (a : World), Sem.run Tryz.prog (callFunc 155 args) a = Result.ok (Next.enter 155 args) a := by
  intro args a; simp [callFunc, Tryz.func155, go_sem]; rfl
theorem enters40 : ∀ (args : Array Value) (a : World), Sem.run Tryz.prog (callFunc 90 args) a = Result.ok (Next.enter 90 args) a := by
  intro args a; simp [callFunc, Tryz.func90, go_sem]; rfl
theorem div_calm (a b : Int) (w : World) (d : Nat) (os : Array Obj) : Calls Tryz.prog 107 #[.int .i64 a, .int .i64 b] (grow (redrawn w d) os) fun e w'' => e = .returned (.tuple #[.int .i64 (div a b), .bool (divB a b)]) ∧ ∃ p : Regrown, w'' = grow (redrawn w p.d) p.os :=
  Calls.regrown_of (div_any a b _)
set_option maxHeartbeats 1000000 in
theorem norm1_any (i : Nat) (hi : i < 4) (P : Nat) (p : Nat → Int) (w : World) (hP : Box4 w P p) :
    Calls Tryz.prog 152 #[.int .i64 i, .pointer (some ⟨P, 0, none⟩)] w fun e w' => e = .returned (.tuple #[.int .i64 (mul (p i) (p i)), .bool (mulB (p i) (p i))]) ∧ Below w.heap.size w w' := by
  have c1 := cell_regrown (hP i hi)
  have cM := mul_calm (p i) (p i) w
  obtain ⟨x, hx'⟩ : ∃ x, p i = x := ⟨_, rfl⟩
  rw [hx'] at c1 cM ⊢
  clear hx' hP
  have i1 : (i : Int) < 4 := by omega
  have i2 : (0 : Int) ≤ (i : Int) := by omega
  go_enter Tryz.func152, Tryz.ntmps152
  go_wp2
  refine wp_region_quiet_below (by kernel_rfl) (by kernel_rfl) ?_
  repeat (quiet_step (first | exact cM _ _))
  refine wpQuiet_nil ?_
  intro _ hw'
  obtain ⟨⟨dq, osq⟩, hw''⟩ := hw'
  subst hw''
  go_wp2
  go_ret2
  exact ⟨rfl, below_regrown w dq osq⟩
set_option maxHeartbeats 1000000 in
theorem norm_any (p : Nat → Int) (w : World) :
    Calls Tryz.prog 104 #[.agg #[.int .i64 (p 0), .int .i64 (p 1), .int .i64 (p 2), .int .i64 (p 3)]] w fun e w' => e = .returned (.tuple #[.int .i64 (nm p), .bool (nmB p)]) ∧ Below w.heap.size w w' := by
  have hsm := summed_any 152 enters32 #[.pointer (some ⟨w.heap.size, 0, none⟩)] (fun k => mul (p k) (p k)) (fun k => mulB (p k) (p k)) (w.alloc (.cells #[.int .i64 (p 0), .int .i64 (p 1), .int .i64 (p 2), .int .i64 (p 3)] 26)) (by
    intro i a hi hb
    exact norm1_any i hi w.heap.size p a ((Box4.of (heap_new _ _)).below hb))
  change Calls Tryz.prog 101 _ _ (fun e b => e = .returned (.tuple #[.int .i64 (nm p), .bool (nmB p)]) ∧ _) at hsm
  obtain ⟨D, hD⟩ : ∃ D, nm p = D := ⟨_, rfl⟩
  obtain ⟨E, hE⟩ : ∃ E, nmB p = E := ⟨_, rfl⟩
  rw [hD, hE] at hsm ⊢
  clear hD hE
  go_enter Tryz.func104, Tryz.ntmps104
  go_wp2_with (go_at_call 101; refine hsm.mono ?_; rintro e wx ⟨rfl, bx⟩)
  go_ret2
  exact ⟨rfl, bt (ball1 _ _) bx⟩
set_option maxHeartbeats 1000000 in
theorem unit1_any (i : Nat) (hi : i < 4) (P L : Nat) (p : Nat → Int) (n : Int) (w : World) (hP : Box4 w P p) (hL : w.cell? ⟨L, 0, none⟩ = some (.int .i64 n)) :
    Calls Tryz.prog 106 #[.int .i64 i, .pointer (some ⟨P, 0, none⟩), .pointer (some ⟨L, 0, none⟩)] w fun e w' => e = .returned (.tuple #[.int .i64 (div (p i) n), .bool (divB (p i) n)]) ∧ Below w.heap.size w w' := by
  have c1 := cell_regrown (hP i hi)
  have c2 := cell_regrown hL
  have cM := div_calm (p i) n w
  obtain ⟨x, hx'⟩ : ∃ x, p i = x := ⟨_, rfl⟩
  rw [hx'] at c1 cM ⊢
  clear hx' hP hL
  have i1 : (i : Int) < 4 := by omega
  have i2 : (0 : Int) ≤ (i : Int) := by omega
  go_enter Tryz.func106, Tryz.ntmps106
  go_wp2
  refine wp_region_quiet_below (by kernel_rfl) (by kernel_rfl) ?_
  repeat (quiet_step (first | exact cM _ _))
  refine wpQuiet_nil ?_
  intro _ hw'
  obtain ⟨⟨dq, osq⟩, hw''⟩ := hw'
  subst hw''
  go_wp2
  go_ret2
  exact ⟨rfl, below_regrown w dq osq⟩
set_option maxHeartbeats 1000000 in
theorem turned1_any (i : Nat) (hi : i < 4) (P : Nat) (p : Nat → Int) (w : World) (hP : Box4 w P p) :
    Calls Tryz.prog 155 #[.int .i64 i, .pointer (some ⟨P, 0, none⟩)] w fun e w' => e = .returned (.tuple #[.int .i64 (cj p i), .bool (cjB p i)]) ∧ Below w.heap.size w w' := by
  have c0 := hP 0 (by omega)
  have c1 := hP i hi
  unfold cj cjB
  by_cases h : i = 0
  · subst h
    clear hP
    simp only [if_true]
    go_enter Tryz.func155, Tryz.ntmps155
    go_wp2
    go_ret2
    exact ⟨rfl, Below.refl _ _⟩
  · rw [if_neg h, if_neg h]
    obtain ⟨x, hx'⟩ : ∃ x, p i = x := ⟨_, rfl⟩
    rw [hx'] at c1 ⊢
    clear hx' hP c0
    have h0 : ((i : Int) == 0) = false := by simp; omega
    go_enter Tryz.func155, Tryz.ntmps155
    go_wp2_with (go_at_call 103; refine (sub_any _ _ _).mono ?_; rintro e wy ⟨rfl, rfl⟩)
    go_ret2
    exact ⟨rfl, Below.refl _ _⟩
set_option maxHeartbeats 1000000 in
theorem right1_any (i : Nat) (hi : i < 4) (P : Nat) (p : Nat → Int) (w : World) (hP : Box4 w P p) :
    Calls Tryz.prog 90 #[.int .i64 i, .pointer (some ⟨P, 0, none⟩)] w fun e w' => e = .returned (.tuple #[.int .i64 (cl (p i)), .bool (ob (p i))]) ∧ Below w.heap.size w w' := by
  have c1 := hP i hi
  obtain ⟨x, hx'⟩ : ∃ x, p i = x := ⟨_, rfl⟩
  rw [hx'] at c1 ⊢
  clear hx' hP
  go_enter Tryz.func90, Tryz.ntmps90
  go_wp2_with (go_at_call 91; refine (clamp_any _ _).mono ?_; rintro e wy ⟨rfl, rfl⟩)
  go_ret2
  exact ⟨rfl, Below.refl _ _⟩
set_option maxHeartbeats 1000000 in
theorem turned_any (p : Nat → Int) (w : World) :
    Calls Tryz.prog 108 #[.agg #[.int .i64 (p 0), .int .i64 (p 1), .int .i64 (p 2), .int .i64 (p 3)]] w fun e w' => e = .returned (.tuple #[.agg #[.int .i64 (cj p 0), .int .i64 (cj p 1), .int .i64 (cj p 2), .int .i64 (cj p 3)], .bool (anyB (cjB p) 4)]) ∧ Below w.heap.size w w' := by
  obtain ⟨W, hW⟩ : ∃ W, (w.alloc (.cells #[.int .i64 (p 0), .int .i64 (p 1), .int .i64 (p 2), .int .i64 (p 3)] 26)).alloc (.cells #[.int .i64 0, .int .i64 0, .int .i64 0, .int .i64 0] 26) = W := ⟨_, rfl⟩
  obtain ⟨g1, g2⟩ := allocs2 w (.cells #[.int .i64 (p 0), .int .i64 (p 1), .int .i64 (p 2), .int .i64 (p 3)] 26) (.cells #[.int .i64 0, .int .i64 0, .int .i64 0, .int .i64 0] 26)
  have bW := ball2 w (.cells #[.int .i64 (p 0), .int .i64 (p 1), .int .i64 (p 2), .int .i64 (p 3)] 26) (.cells #[.int .i64 0, .int .i64 0, .int .i64 0, .int .i64 0] 26)
  rw [hW] at g1 g2 bW
  have ht := told_any 155 enters60 #[.pointer (some ⟨w.heap.size, 0, none⟩)] (cj p) (cjB p) W (by
    intro k a hk hb
    exact turned1_any k hk w.heap.size p a ((Box4.of g1).below hb))
  obtain ⟨X, hX⟩ : ∃ X, anyB (cjB p) 4 = X := ⟨_, rfl⟩
  obtain ⟨z0, hz0⟩ : ∃ z, cj p 0 = z := ⟨_, rfl⟩
  obtain ⟨z1, hz1⟩ : ∃ z, cj p 1 = z := ⟨_, rfl⟩
  obtain ⟨z2, hz2⟩ : ∃ z, cj p 2 = z := ⟨_, rfl⟩
  obtain ⟨z3, hz3⟩ : ∃ z, cj p 3 = z := ⟨_, rfl⟩
  rw [hX, hz0, hz1, hz2, hz3] at ht ⊢
  rw [← hW] at ht
  have HW : Hid (_ = W) := hW
  clear hX hz0 hz1 hz2 hz3 hW
  go_enter Tryz.func108, Tryz.ntmps108
  go_wp2_with (go_at_call 89; refine ht.mono ?_; rintro e wx ⟨rfl, bx⟩; rw [HW.out] at bx; obtain ⟨d0, d1, d2, d3, f0, f1, f2, f3⟩ := four_cells (keep bx g2))
  refine bodyPost_ret (v := .tuple #[.agg #[.int .i64 z0, .int .i64 z1, .int .i64 z2, .int .i64 z3], .bool X]) (by simp [results, Tryz.results108, go_sem, d0, d1, d2, d3]) rfl ?_
  exact ⟨rfl, put4 (bt bW bx) (by omega) _ _ _ _⟩
set_option maxHeartbeats 1000000 in
theorem right_any (p : Nat → Int) (w : World) :
    Calls Tryz.prog 46 #[.agg #[.int .i64 (p 0), .int .i64 (p 1), .int .i64 (p 2), .int .i64 (p 3)]] w fun e w' => e = .returned (.bool (!anyB (fun k => ob (p k)) 4)) ∧ Below w.heap.size w w' := by
  have ht := told_any 90 enters40 #[.pointer (some ⟨w.heap.size, 0, none⟩)] (fun k => cl (p k)) (fun k => ob (p k)) (w.alloc (.cells #[.int .i64 (p 0), .int .i64 (p 1), .int .i64 (p 2), .int .i64 (p 3)] 26)) (by
    intro k a hk hb
    exact right1_any k hk w.heap.size p a ((Box4.of (heap_new _ _)).below hb))
  obtain ⟨X, hX⟩ : ∃ X, anyB (fun k => ob (p k)) 4 = X := ⟨_, rfl⟩
  rw [hX] at ht ⊢
  clear hX
  go_enter Tryz.func46, Tryz.ntmps46
  go_wp2_with (go_at_call 89; refine ht.mono ?_; rintro e wx ⟨rfl, bx⟩)
  go_ret
  exact ⟨rfl, (bt (ball1 _ _) bx).alloc (bt (ball1 _ _) bx).size _⟩
end Go.Proofs.YtoefekkdjcflmaaGreatDoor.Qt
namespace Go.Proofs.YtoefekkdjcflmaaGreatDoor.Qt
open Go.RowKit Go.Sort Go.Proofs.YtoefekkdjcflmaaGreatDoor.Qm Go.Proofs.YtoefekkdjcflmaaGreatDoor.Qt.Qm
set_option maxHeartbeats 1000000 in
theorem unit_any (p : Nat → Int) (w : World) :
    Calls Tryz.prog 63 #[.agg #[.int .i64 (p 0), .int .i64 (p 1), .int .i64 (p 2), .int .i64 (p 3)]] w fun e w' => e = .returned (.tuple #[.agg #[.int .i64 (un p 0), .int .i64 (un p 1), .int .i64 (un p 2), .int .i64 (un p 3)], .bool (unB p)]) ∧ Below w.heap.size w w' := by
  obtain ⟨W, hW⟩ : ∃ W, (w.alloc (.cells #[.int .i64 (p 0), .int .i64 (p 1), .int .i64 (p 2), .int .i64 (p 3)] 26)).alloc (.cells #[.int .i64 0, .int .i64 0, .int .i64 0, .int .i64 0] 26) = W := ⟨_, rfl⟩
  obtain ⟨g1, g2⟩ := allocs2 w (.cells #[.int .i64 (p 0), .int .i64 (p 1), .int .i64 (p 2), .int .i64 (p 3)] 26) (.cells #[.int .i64 0, .int .i64 0, .int .i64 0, .int .i64 0] 26)
  have bW := ball2 w (.cells #[.int .i64 (p 0), .int .i64 (p 1), .int .i64 (p 2), .int .i64 (p 3)] 26) (.cells #[.int .i64 0, .int .i64 0, .int .i64 0, .int .i64 0] 26)
  rw [hW] at g1 g2 bW
  have hn := norm_any p W
  rw [← hW] at hn
  have HW : Hid (_ = W) := hW
  clear hW
  unfold un unB
  obtain ⟨m, hm⟩ : ∃ m, nm p = m := ⟨_, rfl⟩
  obtain ⟨X, hX⟩ : ∃ X, nmB p = X := ⟨_, rfl⟩
  rw [hm, hX] at hn
  simp only [hm, hX]
  clear hm hX
  have hq : ∀ a, Calls Tryz.prog 105 #[.int .i64 m] a fun e w' => e = .returned (.tuple #[.int .i64 (sqrt m), .bool (sqrtB m)]) ∧ w' = a := fun a => sqrt_any m a
  obtain ⟨n, hn'⟩ : ∃ n, sqrt m = n := ⟨_, rfl⟩
  obtain ⟨Y, hY⟩ : ∃ Y, sqrtB m = Y := ⟨_, rfl⟩
  simp only [hn', hY] at hq ⊢
  clear hn' hY
  have ht : ∀ wx, Below W.heap.size W wx → Calls Tryz.prog 89 #[.func (.func 106) #[] #[.pointer (some ⟨w.heap.size, 0, none⟩), .pointer (some ⟨wx.heap.size, 0, none⟩)]] (wx.alloc (.cells #[.int .i64 n] 22)) fun e b =>
      e = .returned (.tuple #[.agg #[.int .i64 (div (p 0) n), .int .i64 (div (p 1) n), .int .i64 (div (p 2) n), .int .i64 (div (p 3) n)], .bool (anyB (fun k => divB (p k) n) 4)]) ∧ Below (wx.alloc (.cells #[.int .i64 n] 22)).heap.size (wx.alloc (.cells #[.int .i64 n] 22)) b := by
    intro wx bx
    refine told_any 106 enters34 #[.pointer (some ⟨w.heap.size, 0, none⟩), .pointer (some ⟨wx.heap.size, 0, none⟩)] (fun k => div (p k) n) (fun k => divB (p k) n) (wx.alloc (.cells #[.int .i64 n] 22)) ?_
    intro k a hk hb
    exact unit1_any k hk w.heap.size wx.heap.size p n a ((Box4.of g1).below (bt (bt bx (ball1 _ _)) hb)) (cell_of_one (keep hb (heap_new _ _)))
  obtain ⟨Z, hZ⟩ : ∃ Z, anyB (fun k => divB (p k) n) 4 = Z := ⟨_, rfl⟩
  simp only [hZ] at ht ⊢
  clear hZ g1
  by_cases h0 : n = 0
  · subst h0
    simp only [if_true, if_false, show ¬ (1 : Nat) = 0 by decide, show ¬ (2 : Nat) = 0 by decide, show ¬ (3 : Nat) = 0 by decide]
    clear ht
    go_enter Tryz.func63, Tryz.ntmps63
    go_wp2_with (first | (go_at_call 104; refine hn.mono ?_; rintro e wx ⟨rfl, bx⟩; rw [HW.out] at bx; obtain ⟨d0, d1, d2, d3, f0, f1, f2, f3⟩ := four_cells (heap_old (keep bx g2) (.cells #[.int .i64 0] 22))) | (go_at_call 105; refine (hq _).mono ?_; rintro e wy ⟨rfl, rfl⟩))
    refine bodyPost_ret (v := .tuple #[.agg #[.int .i64 16777216, .int .i64 0, .int .i64 0, .int .i64 0], .bool true]) (by simp [results, Tryz.results63, go_sem, d0, d1, d2, d3]) rfl ?_
    exact ⟨rfl, put4 ((bt bW bx).alloc ((bt bW bx).size) _) (by omega) _ _ _ _⟩
  · simp only [if_neg h0]
    have h1 : (n == 0) = false := by simpa using h0
    obtain ⟨z0, hz0⟩ : ∃ z, div (p 0) n = z := ⟨_, rfl⟩
    obtain ⟨z1, hz1⟩ : ∃ z, div (p 1) n = z := ⟨_, rfl⟩
    obtain ⟨z2, hz2⟩ : ∃ z, div (p 2) n = z := ⟨_, rfl⟩
    obtain ⟨z3, hz3⟩ : ∃ z, div (p 3) n = z := ⟨_, rfl⟩
    simp only [hz0, hz1, hz2, hz3] at ht ⊢
    clear hz0 hz1 hz2 hz3 h0
    cases X <;> cases Y
    all_goals
      go_enter Tryz.func63, Tryz.ntmps63
      go_wp2_with (first | (go_at_call 104; refine hn.mono ?_; rintro e wx ⟨rfl, bx⟩; rw [HW.out] at bx) | (go_at_call 105; refine (hq _).mono ?_; rintro e wy ⟨rfl, rfl⟩) | (go_at_call 89; refine (ht _ bx).mono ?_; rintro e wz ⟨rfl, bz⟩; obtain ⟨d0, d1, d2, d3, f0, f1, f2, f3⟩ := four_cells (heap_old (keep (bt (bt bx (ball1 _ _)) bz) g2) (.cells #[.int .i64 z0, .int .i64 z1, .int .i64 z2, .int .i64 z3] 25))))
      refine bodyPost_ret (v := .tuple #[.agg #[.int .i64 z0, .int .i64 z1, .int .i64 z2, .int .i64 z3], .bool _]) (by simp [results, Tryz.results63, go_sem, d0, d1, d2, d3]; rfl) rfl ?_
      have b9 := bt bW (bt (bt bx (ball1 _ _)) bz)
      exact ⟨rfl, put4 (b9.alloc b9.size _) (by omega) _ _ _ _⟩
namespace Qm
def vq (x : Int) (v : Nat → Int) (k : Nat) : Int := if k = 0 then x else v (k - 1)
def sl (v : Nat → Int) (h : Int) : Nat → Int := vq 16777216 (fun k => mul (v k) h)
def slB (v : Nat → Int) (h : Int) (k : Nat) : Bool := if k = 0 then false else mulB (v (k - 1)) h
def tn (q v : Nat → Int) (k : Nat) : Int := qm (qm q (vq 0 v)) (cj q) k
def tnB (q v : Nat → Int) : Bool := anyB (qmB q (vq 0 v)) 4 || anyB (cjB q) 4 || anyB (qmB (qm q (vq 0 v)) (cj q)) 4
end Qm
open Go.Proofs.YtoefekkdjcflmaaGreatDoor.Qt.Qm
def Box3 (w : World) (B : Nat) (v : Nat → Int) : Prop := ∀ k : Nat, k < 3 → w.cell? ⟨B, k, none⟩ = some (.int .i64 (v k))
theorem Box3.below {w w' : World} {B : Nat} {v : Nat → Int} (h : Box3 w B v) (hb : Below w.heap.size w w') : Box3 w' B v := fun k hk => by
  rw [hb.cell (p := ⟨B, k, none⟩) (block_lt_of_cell (h k hk))]; exact h k hk
theorem three_cells {w : World} {b : Nat} {x y z : Value} {t : TypeId} (h : w.heap[b]? = some (.cells #[x, y, z] t (0, 0))) :
    w.cell? ⟨b, 0, none⟩ = some x ∧ w.cell? ⟨b, 1, none⟩ = some y ∧ w.cell? ⟨b, 2, none⟩ = some z ∧ w.frozen? ⟨b, 0, none⟩ = false ∧ w.frozen? ⟨b, 1, none⟩ = false ∧ w.frozen? ⟨b, 2, none⟩ = false := by
  simp [World.cell?, World.frozen?, h]
theorem Box3.of {w : World} {B : Nat} {v : Nat → Int} {t : TypeId} (h : w.heap[B]? = some (.cells #[.int .i64 (v 0), .int .i64 (v 1), .int .i64 (v 2)] t (0, 0))) : Box3 w B v := by
  obtain ⟨c0, c1, c2, _⟩ := three_cells h
  intro k hk
  have h1 : k = 0 ∨ k = 1 ∨ k = 2 := by omega
  rcases h1 with rfl | rfl | rfl
  · exact c0
  · exact c1
  · exact c2
theorem enters44 : ∀ (args : Array Value) (a : World), Sem.run Tryz.prog (callFunc 98 args) a = Result.ok (Next.enter 98 args) a := by
  intro args a; simp [callFunc, Tryz.func98, go_sem]; rfl
set_option maxHeartbeats 1000000 in
theorem small1_any (k : Nat) (hk : k < 4) (P L : Nat) (v : Nat → Int) (h : Int) (w : World) (hP : Box3 w P v) (hL : w.cell? ⟨L, 0, none⟩ = some (.int .i64 h)) :
    Calls Tryz.prog 98 #[.int .i64 k, .pointer (some ⟨P, 0, none⟩), .pointer (some ⟨L, 0, none⟩)] w fun e w' => e = .returned (.tuple #[.int .i64 (sl v h k), .bool (slB v h k)]) ∧ Below w.heap.size w w' := by
  unfold sl slB vq
  by_cases h0 : k = 0
  · subst h0
    clear hP hL
    simp only [if_true]
    go_enter Tryz.func98, Tryz.ntmps98
    go_wp2
    go_ret2
    exact ⟨rfl, Below.refl _ _⟩
  · rw [if_neg h0, if_neg h0]
    have c1 := cell_regrown (hP (k - 1) (by omega))
    have c2 := cell_regrown hL
    have cM := mul_calm (v (k - 1)) h w
    obtain ⟨x, hx'⟩ : ∃ x, v (k - 1) = x := ⟨_, rfl⟩
    rw [hx'] at c1 cM
    simp only [hx']
    clear hx' hP hL
    have h1 : k = 1 ∨ k = 2 ∨ k = 3 := by omega
    have e0 : IntKind.i64.wrap 0 = 0 := by decide
    have e1 : IntKind.i64.wrap 1 = 1 := by decide
    have e2 : IntKind.i64.wrap 2 = 2 := by decide
    rcases h1 with rfl | rfl | rfl
    all_goals
      clear h0 hk
      simp only [Nat.reduceSub] at c1
      go_enter Tryz.func98, Tryz.ntmps98
      go_wp2
      refine wp_region_quiet_below (by kernel_rfl) (by kernel_rfl) ?_
      repeat (quiet_step (first | exact cM _ _))
      refine wpQuiet_nil ?_
      intro _ hw'
      obtain ⟨⟨dq, osq⟩, hw''⟩ := hw'
      subst hw''
      go_wp2
      go_ret2
      exact ⟨rfl, below_regrown w dq osq⟩
set_option maxHeartbeats 1000000 in
theorem small_any (v : Nat → Int) (b : Int) (w : World) (b0 : -9223372036854775808 ≤ b) (b1 : b ≤ 9223372036854775807) :
    Calls Tryz.prog 60 #[.agg #[.int .i64 (v 0), .int .i64 (v 1), .int .i64 (v 2)], .int .i64 b] w fun e w' => e = .returned (.tuple #[.agg #[.int .i64 (un (sl v (half b 1)) 0), .int .i64 (un (sl v (half b 1)) 1), .int .i64 (un (sl v (half b 1)) 2), .int .i64 (un (sl v (half b 1)) 3)], .bool (anyB (slB v (half b 1)) 4 || unB (sl v (half b 1)))]) ∧ Below w.heap.size w w' := by
  obtain ⟨W, hW⟩ : ∃ W, (w.alloc (.cells #[.int .i64 (v 0), .int .i64 (v 1), .int .i64 (v 2)] 37)).alloc (.cells #[.int .i64 0, .int .i64 0, .int .i64 0, .int .i64 0] 26) = W := ⟨_, rfl⟩
  obtain ⟨g1, g2⟩ := allocs2 w (.cells #[.int .i64 (v 0), .int .i64 (v 1), .int .i64 (v 2)] 37) (.cells #[.int .i64 0, .int .i64 0, .int .i64 0, .int .i64 0] 26)
  have bW := ball2 w (.cells #[.int .i64 (v 0), .int .i64 (v 1), .int .i64 (v 2)] 37) (.cells #[.int .i64 0, .int .i64 0, .int .i64 0, .int .i64 0] 26)
  rw [hW] at g1 g2 bW
  have hh := half_any b 1 W b0 b1
  rw [← hW] at hh
  have HW : Hid (_ = W) := hW
  clear hW
  obtain ⟨h, hh'⟩ : ∃ h, half b 1 = h := ⟨_, rfl⟩
  rw [hh'] at hh
  simp only [hh']
  clear hh'
  have ht : ∀ wx, Below W.heap.size W wx → Calls Tryz.prog 89 #[.func (.func 98) #[] #[.pointer (some ⟨w.heap.size, 0, none⟩), .pointer (some ⟨wx.heap.size, 0, none⟩)]] (wx.alloc (.cells #[.int .i64 h] 22)) fun e b =>
      e = .returned (.tuple #[.agg #[.int .i64 (sl v h 0), .int .i64 (sl v h 1), .int .i64 (sl v h 2), .int .i64 (sl v h 3)], .bool (anyB (slB v h) 4)]) ∧ Below (wx.alloc (.cells #[.int .i64 h] 22)).heap.size (wx.alloc (.cells #[.int .i64 h] 22)) b := by
    intro wx bx
    refine told_any 98 enters44 #[.pointer (some ⟨w.heap.size, 0, none⟩), .pointer (some ⟨wx.heap.size, 0, none⟩)] (sl v h) (slB v h) (wx.alloc (.cells #[.int .i64 h] 22)) ?_
    intro k a hk hb
    exact small1_any k hk w.heap.size wx.heap.size v h a ((Box3.of g1).below (bt (bt bx (ball1 _ _)) hb)) (cell_of_one (keep hb (heap_new _ _)))
  have hu := unit_any (sl v h)
  obtain ⟨X, hX⟩ : ∃ X, anyB (slB v h) 4 = X := ⟨_, rfl⟩
  obtain ⟨Y, hY⟩ : ∃ Y, unB (sl v h) = Y := ⟨_, rfl⟩
  obtain ⟨z0, hz0⟩ : ∃ z, un (sl v h) 0 = z := ⟨_, rfl⟩
  obtain ⟨z1, hz1⟩ : ∃ z, un (sl v h) 1 = z := ⟨_, rfl⟩
  obtain ⟨z2, hz2⟩ : ∃ z, un (sl v h) 2 = z := ⟨_, rfl⟩
  obtain ⟨z3, hz3⟩ : ∃ z, un (sl v h) 3 = z := ⟨_, rfl⟩
  obtain ⟨s0, hs0⟩ : ∃ z, sl v h 0 = z := ⟨_, rfl⟩
  obtain ⟨s1, hs1⟩ : ∃ z, sl v h 1 = z := ⟨_, rfl⟩
  obtain ⟨s2, hs2⟩ : ∃ z, sl v h 2 = z := ⟨_, rfl⟩
  obtain ⟨s3, hs3⟩ : ∃ z, sl v h 3 = z := ⟨_, rfl⟩
  simp only [hX, hs0, hs1, hs2, hs3] at ht
  simp only [hY, hz0, hz1, hz2, hz3, hs0, hs1, hs2, hs3] at hu
  simp only [hX, hY, hz0, hz1, hz2, hz3]
  clear hX hY hz0 hz1 hz2 hz3 hs0 hs1 hs2 hs3 g1
  cases X
  all_goals
    go_enter Tryz.func60, Tryz.ntmps60
    go_wp2_with (first | (go_at_call 97; refine hh.mono ?_; rintro e wx ⟨rfl, bx⟩; rw [HW.out] at bx) | (go_at_call 89; refine (ht _ bx).mono ?_; rintro e wz ⟨rfl, bz⟩; have bq := bt (bt bx (ball1 _ _)) bz; have bq2 := bq.alloc bq.size (.cells #[.int .i64 s0, .int .i64 s1, .int .i64 s2, .int .i64 s3] 25)) | (go_at_call 63; refine (hu _).mono ?_; rintro e wy ⟨rfl, by'⟩; obtain ⟨d0, d1, d2, d3, f0, f1, f2, f3⟩ := four_cells (heap_old (keep (bt bq2 by') g2) (.cells #[.int .i64 z0, .int .i64 z1, .int .i64 z2, .int .i64 z3] 26))))
    refine bodyPost_ret (v := .tuple #[.agg #[.int .i64 z0, .int .i64 z1, .int .i64 z2, .int .i64 z3], .bool _]) (by simp [results, Tryz.results60, go_sem, d0, d1, d2, d3]; rfl) rfl ?_
    have b9 := bt bW (bt bq2 by')
    exact ⟨rfl, put4 (b9.alloc b9.size _) (by omega) _ _ _ _⟩
end Go.Proofs.YtoefekkdjcflmaaGreatDoor.Qt

