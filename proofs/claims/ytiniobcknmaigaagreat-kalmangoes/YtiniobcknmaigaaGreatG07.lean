/-
  Texts joined, in the order in which they stand on one another: Even Of Same.
-/
import Derived.Test.YtiniobcknmaigaaGreatG01
import Derived.Test.YtiniobcknmaigaaGreatG06
/-
  The contract of mat.Even.
-/
namespace Go.Proofs.YtiniobcknmaigaaGreat
open Go.RowKit Go.Sort Qm

theorem enters57 : ∀ (args : Array Value) (a : World), Sem.run Tryz.prog (callFunc 91 args) a = Result.ok (Next.enter 91 args) a := by
  intro args a
  simp [callFunc, Tryz.func91, go_sem]
  rfl
namespace Qm
/-- are all numbers in bounds? -/
def AllIn (xs : List Int) : Prop := ∀ k, -70368744177664 ≤ ge xs k ∧ ge xs k ≤ 70368744177663
/-- a matrix of c rows and columns, made even -/
def evn (c : Nat) (xs : List Int) : List Int := tab (fun p => half (ge xs p + ge xs ((p % c) * c + p / c)) 1) (c * c)
end Qm

theorem half_calm (a b : Int) (n0 : -9223372036854775808 ≤ a) (n1 : a ≤ 9223372036854775807) (w : World) (d : Nat) (os : Array Obj) : Calls Tryz.prog 92 #[.int .i64 a, .int .i64 b] (grow (redrawn w d) os) fun e w'' => e = .returned (.int .i64 (half a b)) ∧ ∃ p : Regrown, w'' = grow (redrawn w p.d) p.os :=
  Calls.regrown_of (half_any a b _ n0 n1)
theorem sizeOf_calm (R c : Int) (ao : Option Addr) (n cap : Nat) (w : World) (d : Nat) (os : Array Obj) :
    Calls Tryz.prog 54 #[.agg #[.int .i64 R, .int .i64 c, .slice ao n cap]] (grow (redrawn w d) os) fun e w'' => e = .returned (.agg #[.int .i64 R, .int .i64 c]) ∧ ∃ p : Regrown, w'' = grow (redrawn w p.d) p.os :=
  Calls.regrown_of (sizeOf_any R c ao n cap _)
theorem turned_calm (R c : Int) (w : World) (d : Nat) (os : Array Obj) :
    Calls Tryz.prog 55 #[.agg #[.int .i64 R, .int .i64 c]] (grow (redrawn w d) os) fun e w'' => e = .returned (.agg #[.int .i64 c, .int .i64 R]) ∧ ∃ p : Regrown, w'' = grow (redrawn w p.d) p.os :=
  Calls.regrown_of (turned_any R c _)
theorem wrap_in {n : Int} (h0 : -9223372036854775808 ≤ n) (h1 : n ≤ 9223372036854775807) : IntKind.i64.wrap n = n := by rw [IntKind.wrap_i64]; omega

set_option maxHeartbeats 400000 in
theorem even1_any (i j c : Nat) (P bk : Nat) (xs : List Int) (w : World) (hi : i < c) (hj : j < c) (hc : c ≤ 8) (hn : xs.length = c * c) (ha : AllIn xs) (h : AtBox w P bk c xs) :
    Calls Tryz.prog 91 #[.int .i64 i, .int .i64 j, .pointer (some ⟨P, 0, none⟩)] w fun e w' => e = .returned (.int .i64 (half (ge xs (i * c + j) + ge xs (j * c + i)) 1)) ∧ Below w.heap.size w w' := by
  have h64 : c * c ≤ 64 := mul_le_64 hc hc
  have k1 := cell_regrown h.1
  have cA : ∀ (a b : Nat), a < c → b < c → ∀ d os, Calls Tryz.prog 89 #[.int .i64 a, .int .i64 b, .pointer (some ⟨bk, 0, none⟩)] (grow (redrawn w d) os) fun e w'' => e = .returned (.int .i64 (ge xs (a * c + b))) ∧ ∃ p : Regrown, w'' = grow (redrawn w p.d) p.os :=
    fun a b h1 h2 => at_calm a b c P bk xs w (by omega) h2 hc (by omega) (by rw [hn]; exact at_lt h1 h2) h
  have x1 := ha (i * c + j)
  have y1 := ha (j * c + i)
  obtain ⟨x, hx'⟩ : ∃ x, ge xs (i * c + j) = x := ⟨_, rfl⟩
  obtain ⟨y, hy'⟩ : ∃ y, ge xs (j * c + i) = y := ⟨_, rfl⟩
  rw [hx'] at x1 ⊢
  rw [hy'] at y1 ⊢
  clear h hn ha
  obtain ⟨z, hz⟩ : ∃ z, x + y = z := ⟨_, rfl⟩
  have hw : IntKind.i64.wrap z = z := wrap_in (by omega) (by omega)
  have cM := half_calm z 1 (by omega) (by omega) w
  rw [hz]
  go_enter Tryz.func91, Tryz.ntmps91
  go_wp2
  refine wp_region_quiet_below (by kernel_rfl) (by kernel_rfl) ?_
  repeat (quiet_step (first | (go_at_call 89; exact cA _ _ (by assumption) (by assumption) _ _) | (go_at_call 92; exact cM _ _)))
  refine wpQuiet_nil ?_
  intro _ hw'
  obtain ⟨⟨dq, osq⟩, hw''⟩ := hw'
  subst hw''
  go_wp2
  go_ret
  exact ⟨rfl, below_regrown w dq osq⟩

theorem even_fill (C : Nat) (hC : C ≤ 8) (xs : List Int) (hn : xs.length = C * C) (ha : AllIn xs) (P bk : Nat) (w : World) (hA : AtBox w P bk C xs) :
    Calls Tryz.prog 53 #[.agg #[.int .i64 C, .int .i64 C], .func (.func 91) #[] #[.pointer (some ⟨P, 0, none⟩)]] w fun e b =>
      ∃ v, e = .returned (.agg #[.int .i64 C, .int .i64 C, v]) ∧ Sees b v (evn C xs) ∧ New w.heap.size v ∧ Below w.heap.size w b := by
  refine fill_pure C C hC hC 91 enters57 #[.pointer (some ⟨P, 0, none⟩)] (fun p => half (ge xs p + ge xs ((p % C) * C + p / C)) 1) w ?_
  intro i j a hi hj hb
  have e1 : (i * C + j) % C = j := mod_of hj
  have e2 : (i * C + j) / C = i := div_of hj
  simp only [e1, e2]
  exact even1_any i j C P bk xs a hi hj hC hn ha (hA.below hb)

set_option maxHeartbeats 800000 in
theorem even_any (C : Nat) (h1 : 1 ≤ C) (hC : C ≤ 8) (v : Value) (xs : List Int) (hn : xs.length = C * C) (ha : AllIn xs) (w : World) (hs : Sees w v xs) :
    Calls Tryz.prog 59 #[.agg #[.int .i64 C, .int .i64 C, v]] w fun e b =>
      ∃ v, e = .returned (.tuple #[.agg #[.int .i64 C, .int .i64 C, v], .bool false, .int .i64 0]) ∧ Sees b v (evn C xs) ∧ New w.heap.size v ∧ Below w.heap.size w b := by
  obtain ⟨ao, cap, rfl⟩ := hs.slice
  have hl : laidB C C xs.length = true := laidB_mk h1 hC h1 hC hn
  have hrk := fun P bk w hA => even_fill C hC xs hn ha P bk w hA
  clear hn ha
  go_enter Tryz.func59, Tryz.ntmps59
  go_wp2
  obtain ⟨x1, x2⟩ := allocs2 w (.cells #[.int .i64 C, .int .i64 C, .slice ao xs.length cap] 24) (.cells #[.int .i64 0, .int .i64 0, .slice none 0 0] 24)
  obtain ⟨k0, k1, k2, _⟩ := mat_cells x1
  have m0 := cell_regrown k0
  have m1 := cell_regrown k1
  have m2 := cell_regrown k2
  refine wp_region_quiet_below (by kernel_rfl) (by kernel_rfl) ?_
  repeat (quiet_step (first | exact sizeOf_calm _ _ _ _ _ _ _ _ | exact turned_calm _ _ _ _ _))
  refine wpQuiet_nil ?_
  intro _ hw'
  obtain ⟨⟨dq, osq⟩, hw''⟩ := hw'
  subst hw''
  have b0 := bt (ball2 w (.cells #[.int .i64 C, .int .i64 C, .slice ao xs.length cap] 24) (.cells #[.int .i64 0, .int .i64 0, .slice none 0 0] 24)) (below_regrown ((w.alloc (.cells #[.int .i64 C, .int .i64 C, .slice ao xs.length cap] 24)).alloc (.cells #[.int .i64 0, .int .i64 0, .slice none 0 0] 24)) dq osq)
  have y1 := keep (below_regrown ((w.alloc (.cells #[.int .i64 C, .int .i64 C, .slice ao xs.length cap] 24)).alloc (.cells #[.int .i64 0, .int .i64 0, .slice none 0 0] 24)) dq osq) x1
  have y2 := keep (below_regrown ((w.alloc (.cells #[.int .i64 C, .int .i64 C, .slice ao xs.length cap] 24)).alloc (.cells #[.int .i64 0, .int .i64 0, .slice none 0 0] 24)) dq osq) x2
  obtain ⟨W, hW⟩ : ∃ W, grow (redrawn ((w.alloc (.cells #[.int .i64 C, .int .i64 C, .slice ao xs.length cap] 24)).alloc (.cells #[.int .i64 0, .int .i64 0, .slice none 0 0] 24)) dq) osq = W := ⟨_, rfl⟩
  rw [hW] at b0 y1 y2 ⊢
  clear hW m0 m1 m2 k0 k1 k2 x1 x2
  obtain ⟨k0, k1, k2, _⟩ := mat_cells y1
  go_wp2_with (first
    | (go_at_call 51; refine (laid_any _ _ _ _ _ _).mono ?_; rintro e w1 ⟨rfl, b1⟩; have a1 := keep b1 y1; have r1 := keep b1 y2; have s1 := hs.below (bt b0 b1); obtain ⟨c0, c1, c2, _⟩ := mat_cells a1)
    | (go_at_call 52; refine (numbers_any _ _ _ _ _ _).mono ?_; rintro e w2 ⟨rfl, rfl⟩; obtain ⟨d0, d1, d2, _⟩ := mat_cells (heap_old (heap_old a1 (.cells #[.int .i64 C, .int .i64 C, .slice ao xs.length cap] 24)) (.cells #[.func (.func 89) #[] #[.pointer (some ⟨w1.heap.size, 0, none⟩)]] 83)))
    | (go_at_call 54; refine (sizeOf_any _ _ _ _ _ _).mono ?_; rintro e w3 ⟨rfl, b3⟩; have A3 := (atbox_mk s1).below b3)
    | (go_at_call 53; have r3 := keep b3 (heap_old (heap_old r1 _) _); refine (hrk _ _ _ A3).mono ?_; rintro e w4 ⟨v4, rfl, s4, n4, b4⟩; obtain ⟨ao4, cap4, rfl⟩ := s4.slice; obtain ⟨f0, f1, f2, g0, g1, g2⟩ := mat_cells (heap_old (keep b4 r3) (.cells #[.int .i64 C, .int .i64 C, .slice ao4 (evn C xs).length cap4] 24))))
  refine bodyPost_ret (v := .tuple #[.agg #[.int .i64 C, .int .i64 C, .slice ao4 (evn C xs).length cap4], .bool false, .int .i64 0]) (by simp [results, Tryz.results59, go_sem, f0, f1, f2]) rfl ?_
  have b5 := bt (bt (bt b0 b1) (ball2 w1 _ _)) b3
  exact ⟨_, rfl, (s4.alloc _).put n4 (lt_of_block r3) _ _ _, n4.mono b5.size, below_put ((bt b5 b4).alloc (bt b5 b4).size _) (by omega) _ _ _⟩

set_option maxHeartbeats 800000 in
theorem even_not (R C : Nat) (h : R ≠ C) (v : Value) (xs : List Int) (w : World) (hs : Sees w v xs) :
    Calls Tryz.prog 59 #[.agg #[.int .i64 R, .int .i64 C, v]] w fun e b =>
      e = .returned (.tuple #[.agg #[.int .i64 0, .int .i64 0, .slice none 0 0], .bool false, .int .i64 9]) ∧ Below w.heap.size w b := by
  obtain ⟨ao, cap, rfl⟩ := hs.slice
  clear hs
  have e1 : ((R : Int) == (C : Int)) = false := by simp; omega
  have e2 : ((C : Int) == (R : Int)) = false := by simp; omega
  have e3 : ¬ ((R : Int) = (C : Int)) := by omega
  have e4 : ¬ (R = C) := h
  clear h
  go_enter Tryz.func59, Tryz.ntmps59
  go_wp2
  obtain ⟨x1, x2⟩ := allocs2 w (.cells #[.int .i64 R, .int .i64 C, .slice ao xs.length cap] 24) (.cells #[.int .i64 0, .int .i64 0, .slice none 0 0] 24)
  obtain ⟨k0, k1, k2, _⟩ := mat_cells x1
  have m0 := cell_regrown k0
  have m1 := cell_regrown k1
  have m2 := cell_regrown k2
  refine wp_region_quiet_below (by kernel_rfl) (by kernel_rfl) ?_
  repeat (quiet_step (first | (go_at_call 54; exact sizeOf_calm _ _ _ _ _ _ _ _) | (go_at_call 55; exact turned_calm _ _ _ _ _)))
  refine wpQuiet_nil ?_
  intro _ hw'
  obtain ⟨⟨dq, osq⟩, hw''⟩ := hw'
  subst hw''
  have b0 := bt (ball2 w (.cells #[.int .i64 R, .int .i64 C, .slice ao xs.length cap] 24) (.cells #[.int .i64 0, .int .i64 0, .slice none 0 0] 24)) (below_regrown ((w.alloc (.cells #[.int .i64 R, .int .i64 C, .slice ao xs.length cap] 24)).alloc (.cells #[.int .i64 0, .int .i64 0, .slice none 0 0] 24)) dq osq)
  have y2 := keep (below_regrown ((w.alloc (.cells #[.int .i64 R, .int .i64 C, .slice ao xs.length cap] 24)).alloc (.cells #[.int .i64 0, .int .i64 0, .slice none 0 0] 24)) dq osq) x2
  obtain ⟨W, hW⟩ : ∃ W, grow (redrawn ((w.alloc (.cells #[.int .i64 R, .int .i64 C, .slice ao xs.length cap] 24)).alloc (.cells #[.int .i64 0, .int .i64 0, .slice none 0 0] 24)) dq) osq = W := ⟨_, rfl⟩
  rw [hW] at b0 y2 ⊢
  clear hW m0 m1 m2 k0 k1 k2 x1 x2
  obtain ⟨f0, f1, f2, g0, g1, g2⟩ := mat_cells y2
  go_wp2
  refine bodyPost_ret (v := .tuple #[.agg #[.int .i64 0, .int .i64 0, .slice none 0 0], .bool false, .int .i64 9]) (by simp [results, Tryz.results59, go_sem, f0, f1, f2]) rfl ?_
  exact ⟨rfl, below_put b0 (by omega) _ _ _⟩
end Go.Proofs.YtiniobcknmaigaaGreat

/-
  The contracts of qfix.Of, of the document's Of and In.
-/
namespace Go.Proofs.YtiniobcknmaigaaGreat
open Go.RowKit Qm

namespace Qm
/-- a whole number -/
def ofq (n : Int) : Int := cl (n * 16777216)
def ofB (n : Int) : Bool := ob (n * 16777216)
/-- is a number in bounds? -/
def inB (a : Int) : Bool := !(ob a)
theorem inB_cl (a : Int) : inB (cl a) = true := by unfold inB; rw [ob_in (cl_lo a) (cl_hi a)]; rfl
end Qm

set_option maxHeartbeats 400000 in
theorem rin_any (a : Int) (w : World) :
    Calls Tryz.prog 15 #[.int .i64 a] w fun e w' => e = .returned (.bool (inB a)) ∧ w' = w := by
  unfold inB
  by_cases h1 : 70368744177663 < a
  · rw [ob_top h1]
    have h2 : ¬ a ≤ 70368744177663 := by omega
    go_enter Tryz.func15, Tryz.ntmps15
    go_wp2
    all_goals
      go_ret
      exact ⟨by simp, rfl⟩
  · by_cases h2 : a < -70368744177664
    · rw [ob_low h2]
      go_enter Tryz.func15, Tryz.ntmps15
      go_wp2
      all_goals
        go_ret
        exact ⟨by simp, rfl⟩
    · rw [ob_in (by omega) (by omega)]
      go_enter Tryz.func15, Tryz.ntmps15
      go_wp2
      all_goals
        go_ret
        exact ⟨by simp, rfl⟩
end Go.Proofs.YtiniobcknmaigaaGreat

/-
  The contracts of slices.Equal and mat.Same.
-/
namespace Go.Proofs.YtiniobcknmaigaaGreat
open Go.RowKit Go.Sort Qm

namespace Qm
/-- are two the same? -/
def eqB (xs ys : List Int) : Bool := decide (xs = ys)
def sameB (r c : Int) (xs : List Int) (r' c' : Int) (ys : List Int) : Bool := decide (r = r') && (decide (c = c') && eqB xs ys)
theorem eq_of_ge {xs ys : List Int} (h : xs.length = ys.length) (g : ∀ k, k < xs.length → ge xs k = ge ys k) : xs = ys := by
  rw [← tab_self xs, ← tab_self ys, ← h]
  exact tab_congr g
theorem eqB_len {xs ys : List Int} (h : xs.length ≠ ys.length) : eqB xs ys = false := by unfold eqB; simp; intro e; rw [e] at h; exact h rfl
theorem eqB_at {xs ys : List Int} {k : Nat} (h : ge xs k ≠ ge ys k) : eqB xs ys = false := by unfold eqB; simp; intro e; rw [e] at h; exact h rfl
theorem eqB_all {xs ys : List Int} (h : xs.length = ys.length) (g : ∀ k, k < xs.length → ge xs k = ge ys k) : eqB xs ys = true := by unfold eqB; simp; exact eq_of_ge h g
end Qm

set_option maxHeartbeats 400000 in
theorem equal_any (va vb : Value) (xs ys : List Int) (w : World) (hx : xs.length ≤ 100) (hy : ys.length ≤ 100) (sa : Sees w va xs) (sb : Sees w vb ys) :
    Calls Tryz.prog 107 #[va, vb] w fun e w' => e = .returned (.bool (eqB xs ys)) ∧ Below w.heap.size w w' := by
  obtain ⟨ao, cap, rfl, ha⟩ := sa
  obtain ⟨bo, bcap, rfl, hb⟩ := sb
  obtain ⟨n, hn⟩ : ∃ n, xs.length = n := ⟨_, rfl⟩
  obtain ⟨m, hm⟩ : ∃ m, ys.length = m := ⟨_, rfl⟩
  rw [hn] at hx ha ⊢
  rw [hm] at hy hb ⊢
  by_cases hne : n = m
  · subst hne
    have HN : Hid (xs.length = n ∧ ys.length = n) := ⟨hn, hm⟩
    obtain ⟨E, hE⟩ : ∃ E, eqB xs ys = E := ⟨_, rfl⟩
    rw [hE]
    have HE : Hid (eqB xs ys = E) := hE
    clear hn hm hE
    go_enter Tryz.func107, Tryz.ntmps107
    go_wp2
    go_loopw [13] (fun i wr => ∃ k : Nat, k ≤ n ∧ i = .int .i64 k ∧ Hid (∀ j, j < k → ge xs j = ge ys j) ∧ Below w.heap.size w wr) (fun i _ => n - (intOf i).toNat)
    case atStart => exact ⟨0, Nat.zero_le _, rfl, fun j hj => absurd hj (Nat.not_lt_zero _), Below.refl _ _⟩
    case round =>
      obtain ⟨k, hk, rfl, hno, hbl⟩ := hrel
      by_cases hlt : k < n
      · obtain ⟨ad, rfl, la, ca⟩ := ha k hlt
        obtain ⟨bd, rfl, lb, cb⟩ := hb k hlt
        have ca' : wr.cell? (ad.add k) = _ := (hbl.cell (by rw [add_block]; exact la)).trans ca
        have cb' : wr.cell? (bd.add k) = _ := (hbl.cell (by rw [add_block]; exact lb)).trans cb
        clear ca cb
        by_cases he : ge xs k = ge ys k
        · have e1 : (ge xs k == ge ys k) = true := by simpa using he
          obtain ⟨x, hx'⟩ : ∃ x, ge xs k = x := ⟨_, rfl⟩
          have hy' : ge ys k = x := by rw [← he]; exact hx'
          have HX : Hid (ge xs k = ge ys k) := he
          clear e1 he
          go_wp2
          go_quiet (fail)
          go_wp2
          go_roundw
          case rel =>
            refine ⟨k + 1, by omega, by go_num, ?_, Below.trans hbl (below_drewN (Below.refl _ _) _)⟩
            intro j hj
            by_cases e : j = k
            · subst e; exact HX.out
            · exact hno.out j (by omega)
          case measure => simp [intOf]; omega
        · have HX : Hid (eqB xs ys = false) := eqB_at he
          have e1 : (ge xs k == ge ys k) = false := by simpa using he
          obtain ⟨x, hx'⟩ : ∃ x, ge xs k = x := ⟨_, rfl⟩
          obtain ⟨y, hy'⟩ : ∃ y, ge ys k = y := ⟨_, rfl⟩
          rw [hx', hy'] at e1 he
          have e2 : ¬ (x = y) := he
          clear he
          go_wp2
          go_quiet (fail)
          go_wp2
          go_ret
          exact ⟨by rw [← HE.out, HX.out]; rfl, Below.trans hbl (below_drewN (Below.refl _ _) _)⟩
      · have e : k = n := by omega
        subst e
        go_wp2
        go_ret
        refine ⟨?_, hbl⟩
        rw [← HE.out, eqB_all (by rw [HN.out.1, HN.out.2]) (by rw [HN.out.1]; exact hno.out)]
        rfl
  · have hE : eqB xs ys = false := eqB_len (by omega)
    rw [hE]
    clear hE hn hm
    have e1 : ¬ ((n : Int) = (m : Int)) := by omega
    go_enter Tryz.func107, Tryz.ntmps107
    go_wp2
    go_ret
    exact ⟨rfl, Below.refl _ _⟩

theorem equal_calm (va vb : Value) (xs ys : List Int) (w : World) (hx : xs.length ≤ 100) (hy : ys.length ≤ 100) (sa : Sees w va xs) (sb : Sees w vb ys) (d : Nat) (os : Array Obj) :
    Calls Tryz.prog 107 #[va, vb] (grow (redrawn w d) os) fun e w'' => e = .returned (.bool (eqB xs ys)) ∧ ∃ p : Regrown, w'' = grow (redrawn w p.d) p.os :=
  Calls.regrown_of (equal_any va vb xs ys _ hx hy (sa.below (below_regrown w d os)) (sb.below (below_regrown w d os)))

set_option maxHeartbeats 800000 in
theorem same_any (r c r' c' : Int) (va vb : Value) (xs ys : List Int) (w : World) (hx : xs.length ≤ 100) (hy : ys.length ≤ 100) (sa : Sees w va xs) (sb : Sees w vb ys) :
    Calls Tryz.prog 82 #[.agg #[.int .i64 r, .int .i64 c, va], .agg #[.int .i64 r', .int .i64 c', vb]] w fun e w' => e = .returned (.bool (sameB r c xs r' c' ys)) ∧ Below w.heap.size w w' := by
  obtain ⟨ao, cap, rfl⟩ := sa.slice
  obtain ⟨bo, bcap, rfl⟩ := sb.slice
  obtain ⟨W, hW⟩ : ∃ W, (w.alloc (.cells #[.int .i64 r, .int .i64 c, .slice ao xs.length cap] 24)).alloc (.cells #[.int .i64 r', .int .i64 c', .slice bo ys.length bcap] 24) = W := ⟨_, rfl⟩
  obtain ⟨x1, x2⟩ := allocs2 w (.cells #[.int .i64 r, .int .i64 c, .slice ao xs.length cap] 24) (.cells #[.int .i64 r', .int .i64 c', .slice bo ys.length bcap] 24)
  have bq := ball2 w (.cells #[.int .i64 r, .int .i64 c, .slice ao xs.length cap] 24) (.cells #[.int .i64 r', .int .i64 c', .slice bo ys.length bcap] 24)
  rw [hW] at x1 x2 bq
  have cE := equal_calm (.slice ao xs.length cap) (.slice bo ys.length bcap) xs ys W hx hy (sa.below bq) (sb.below bq)
  obtain ⟨u0, u1, u2, _⟩ := mat_cells x1
  obtain ⟨v0, v1, v2, _⟩ := mat_cells x2
  have m0 := cell_regrown u0
  have m1 := cell_regrown u1
  have m2 := cell_regrown u2
  have m3 := cell_regrown v0
  have m4 := cell_regrown v1
  have m5 := cell_regrown v2
  obtain ⟨E, hE⟩ : ∃ E, eqB xs ys = E := ⟨_, rfl⟩
  have hS : sameB r c xs r' c' ys = (decide (r = r') && (decide (c = c') && E)) := by rw [← hE]; rfl
  rw [hS]
  rw [hE] at cE
  clear hE hS sa sb u0 u1 u2 v0 v1 v2 x1 x2
  by_cases h1 : r = r'
  · subst h1
    by_cases h2 : c = c'
    · subst h2
      go_enter Tryz.func82, Tryz.ntmps82
      go_wp2
      refine wp_region_quiet_below (by kernel_rfl) (by kernel_rfl) ?_
      clear hW
      repeat (quiet_step (first | (go_at_call 54; exact sizeOf_calm _ _ _ _ _ _ _ _) | (go_at_call 107; exact cE _ _)))
      refine wpQuiet_nil ?_
      intro _ hw'
      obtain ⟨⟨dq, osq⟩, hw''⟩ := hw'
      subst hw''
      have bz := below_regrown W dq osq
      go_wp2
      go_ret
      exact ⟨by simp, bt bq bz⟩
    · have e1 : (c == c') = false := by simpa using h2
      go_enter Tryz.func82, Tryz.ntmps82
      go_wp2
      refine wp_region_quiet_below (by kernel_rfl) (by kernel_rfl) ?_
      clear hW
      repeat (quiet_step (first | (go_at_call 54; exact sizeOf_calm _ _ _ _ _ _ _ _) | (go_at_call 107; exact cE _ _)))
      refine wpQuiet_nil ?_
      intro _ hw'
      obtain ⟨⟨dq, osq⟩, hw''⟩ := hw'
      subst hw''
      have bz := below_regrown W dq osq
      go_wp2
      go_ret
      exact ⟨by simp; intro e; exact absurd e h2, bt bq bz⟩
  · have e1 : (r == r') = false := by simpa using h1
    go_enter Tryz.func82, Tryz.ntmps82
    go_wp2
    refine wp_region_quiet_below (by kernel_rfl) (by kernel_rfl) ?_
    clear hW
    repeat (quiet_step (first | (go_at_call 54; exact sizeOf_calm _ _ _ _ _ _ _ _) | (go_at_call 107; exact cE _ _)))
    refine wpQuiet_nil ?_
    intro _ hw'
    obtain ⟨⟨dq, osq⟩, hw''⟩ := hw'
    subst hw''
    have bz := below_regrown W dq osq
    go_wp2
    go_ret
    exact ⟨by simp; intro e; exact absurd e h1, bt bq bz⟩
end Go.Proofs.YtiniobcknmaigaaGreat
