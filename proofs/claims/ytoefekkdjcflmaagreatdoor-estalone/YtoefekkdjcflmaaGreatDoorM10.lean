/- Parts of the proof. -/
import Derived.Test.YtoefekkdjcflmaaGreatDoorM02
import Derived.Test.YtoefekkdjcflmaaGreatDoorM07
namespace Go.Proofs.YtoefekkdjcflmaaGreatDoor
open Go.RowKit Go.Sort Qm
theorem fill_pure (R C : Nat) (hR : R ≤ 8) (hC : C ≤ 8) (F : Nat) (hF : ∀ (args : Array Value) (a : World), Sem.run Tryz.prog (callFunc F args) a = Result.ok (Next.enter F args) a) (caps : Array Value) (t : Nat → Int) (w : World)
    (hcall : ∀ (i j : Nat) a, i < R → j < C → Below w.heap.size w a → Calls Tryz.prog F (#[.int .i64 i, .int .i64 j] ++ caps) a (fun e b => e = .returned (.int .i64 (t (i * C + j))) ∧ Below a.heap.size a b)) :
    Calls Tryz.prog 161 #[.agg #[.int .i64 R, .int .i64 C], .func (.func F) #[] caps] w fun e b => ∃ v, e = .returned (.agg #[.int .i64 R, .int .i64 C, v]) ∧ Sees b v (tab t (R * C)) ∧ New w.heap.size v ∧ Below w.heap.size w b := by
  refine (filled_any R C hR hC F hF caps t none (fun _ a => Below w.heap.size w a) w (fun m e => by cases e) (Below.refl _ _) (fun _ a b h k => h.trans k) ?_).mono ?_
  · intro i j a hi hj hb
    refine (hcall i j a hi hj hb).mono ?_
    rintro e b ⟨rfl, bb⟩
    exact ⟨rfl, bt hb bb, gb_below _ bb⟩
  · rintro e b ⟨v, rfl, hown, hb, _⟩
    exact ⟨v, rfl, Sees.own hown, New.own hown, hb⟩
theorem enters60 : ∀ (args : Array Value) (a : World), Sem.run Tryz.prog (callFunc 163 args) a = Result.ok (Next.enter 163 args) a := by
  intro args a
  simp [callFunc, Tryz.func163, go_sem]
  rfl
namespace Qm
def trn (r c : Nat) (xs : List Int) : List Int := tab (fun p => ge xs ((p % r) * c + p / r)) (c * r)
end Qm
theorem trans1_any (i j c : Nat) (P bk : Nat) (xs : List Int) (w : World) (hj : j ≤ 8) (hi : i < c) (hc : c ≤ 8) (hn : xs.length ≤ 64) (hx : j * c + i < xs.length) (h : AtBox w P bk c xs) :
    Calls Tryz.prog 163 #[.int .i64 i, .int .i64 j, .pointer (some ⟨P, 0, none⟩)] w fun e w' => e = .returned (.int .i64 (ge xs (j * c + i))) ∧ w' = w := by
  have k1 := h.1
  have cA := at_any j i c P bk xs w hj hi hc hn hx h
  obtain ⟨x, hx'⟩ : ∃ x, ge xs (j * c + i) = x := ⟨_, rfl⟩
  rw [hx'] at cA ⊢
  clear hx' h hx
  go_enter Tryz.func163, Tryz.ntmps163
  go_wp2_with (go_at_call 182; refine cA.mono ?_; rintro e w' ⟨rfl, rfl⟩)
  go_ret
  exact ⟨rfl, rfl⟩
theorem trans_fill (R C : Nat) (hR : R ≤ 8) (hC : C ≤ 8) (xs : List Int) (hn : xs.length = R * C) (P bk : Nat) (w : World) (hA : AtBox w P bk C xs) :
    Calls Tryz.prog 161 #[.agg #[.int .i64 C, .int .i64 R], .func (.func 163) #[] #[.pointer (some ⟨P, 0, none⟩)]] w fun e b =>
      ∃ v, e = .returned (.agg #[.int .i64 C, .int .i64 R, v]) ∧ Sees b v (trn R C xs) ∧ New w.heap.size v ∧ Below w.heap.size w b := by
  have h64 : R * C ≤ 64 := mul_le_64 hR hC
  refine fill_pure C R hC hR 163 enters60 #[.pointer (some ⟨P, 0, none⟩)] (fun p => ge xs ((p % R) * C + p / R)) w ?_
  intro i j a hi hj hb
  have e1 : (i * R + j) % R = j := mod_of hj
  have e2 : (i * R + j) / R = i := div_of hj
  simp only [e1, e2]
  refine (trans1_any i j C P bk xs a (by omega) hi hC (by omega) (by rw [hn]; exact at_lt hj hi) (hA.below hb)).mono ?_
  rintro e b ⟨rfl, rfl⟩
  exact ⟨rfl, Below.refl _ _⟩
set_option maxHeartbeats 800000 in
theorem trans_any (R C : Nat) (h1 : 1 ≤ R) (hR : R ≤ 8) (h2 : 1 ≤ C) (hC : C ≤ 8) (v : Value) (xs : List Int) (hn : xs.length = R * C) (w : World) (hs : Sees w v xs) :
    Calls Tryz.prog 115 #[.agg #[.int .i64 R, .int .i64 C, v]] w fun e b =>
      ∃ v, e = .returned (.agg #[.int .i64 C, .int .i64 R, v]) ∧ Sees b v (trn R C xs) ∧ New w.heap.size v ∧ Below w.heap.size w b := by
  obtain ⟨ao, cap, rfl⟩ := hs.slice
  have hl : laidB R C xs.length = true := laidB_mk h1 hR h2 hC hn
  have hrk := fun P bk w hA => trans_fill R C hR hC xs hn P bk w hA
  clear hn
  go_enter Tryz.func115, Tryz.ntmps115
  go_wp2_with (first
    | (go_at_call 159; refine (laid_any _ _ _ _ _ _).mono ?_; rintro e w1 ⟨rfl, b1⟩; have a1 := keep b1 (allocs2 w _ _).1; have r1 := keep b1 (allocs2 w _ _).2; have s1 := hs.below (bt (ball2 w _ _) b1); obtain ⟨c0, c1, c2, _⟩ := mat_cells a1)
    | (go_at_call 160; refine (numbers_any _ _ _ _ _ _).mono ?_; rintro e w2 ⟨rfl, rfl⟩; obtain ⟨d0, d1, d2, _⟩ := mat_cells (heap_old (heap_old a1 (.cells #[.int .i64 R, .int .i64 C, .slice ao xs.length cap] 29)) (.cells #[.func (.func 182) #[] #[.pointer (some ⟨w1.heap.size, 0, none⟩)]] 187)))
    | (go_at_call 144; refine (sizeOf_any _ _ _ _ _ _).mono ?_; rintro e w3 ⟨rfl, b3⟩; have A3 := (atbox_mk s1).below b3)
    | (go_at_call 162; refine (turned_any _ _ _).mono ?_; rintro e w5 ⟨rfl, b5⟩; have A5 := A3.below b5)
    | (go_at_call 161; have r3 := keep b5 (keep b3 (heap_old (heap_old r1 _) _)); refine (hrk _ _ _ A5).mono ?_; rintro e w4 ⟨v4, rfl, s4, n4, b4⟩; obtain ⟨ao4, cap4, rfl⟩ := s4.slice; obtain ⟨f0, f1, f2, g0, g1, g2⟩ := mat_cells (keep b4 r3)))
  refine bodyPost_ret (v := .agg #[.int .i64 C, .int .i64 R, .slice ao4 (trn R C xs).length cap4]) (by simp [results, Tryz.results115, go_sem, f0, f1, f2]) rfl ?_
  have b5' := bt (bt (bt (bt (ball2 w _ _) b1) (ball2 w1 _ _)) b3) b5
  exact ⟨_, rfl, s4.put n4 (lt_of_block r3) _ _ _, n4.mono b5'.size, below_put (bt b5' b4) (by omega) _ _ _⟩
end Go.Proofs.YtoefekkdjcflmaaGreatDoor
namespace Go.Proofs.YtoefekkdjcflmaaGreatDoor
open Go.RowKit Go.Sort Qm
theorem enters57 : ∀ (args : Array Value) (a : World), Sem.run Tryz.prog (callFunc 184 args) a = Result.ok (Next.enter 184 args) a := by
  intro args a
  simp [callFunc, Tryz.func184, go_sem]
  rfl
namespace Qm
def AllIn (xs : List Int) : Prop := ∀ k, -70368744177664 ≤ ge xs k ∧ ge xs k ≤ 70368744177663
def evn (c : Nat) (xs : List Int) : List Int := tab (fun p => half (ge xs p + ge xs ((p % c) * c + p / c)) 1) (c * c)
end Qm
theorem half_calm (a b : Int) (n0 : -9223372036854775808 ≤ a) (n1 : a ≤ 9223372036854775807) (w : World) (d : Nat) (os : Array Obj) : Calls Tryz.prog 97 #[.int .i64 a, .int .i64 b] (grow (redrawn w d) os) fun e w'' => e = .returned (.int .i64 (half a b)) ∧ ∃ p : Regrown, w'' = grow (redrawn w p.d) p.os :=
  Calls.regrown_of (half_any a b _ n0 n1)
theorem sizeOf_calm (R c : Int) (ao : Option Addr) (n cap : Nat) (w : World) (d : Nat) (os : Array Obj) :
    Calls Tryz.prog 144 #[.agg #[.int .i64 R, .int .i64 c, .slice ao n cap]] (grow (redrawn w d) os) fun e w'' => e = .returned (.agg #[.int .i64 R, .int .i64 c]) ∧ ∃ p : Regrown, w'' = grow (redrawn w p.d) p.os :=
  Calls.regrown_of (sizeOf_any R c ao n cap _)
theorem turned_calm (R c : Int) (w : World) (d : Nat) (os : Array Obj) :
    Calls Tryz.prog 162 #[.agg #[.int .i64 R, .int .i64 c]] (grow (redrawn w d) os) fun e w'' => e = .returned (.agg #[.int .i64 c, .int .i64 R]) ∧ ∃ p : Regrown, w'' = grow (redrawn w p.d) p.os :=
  Calls.regrown_of (turned_any R c _)
theorem wrap_in {n : Int} (h0 : -9223372036854775808 ≤ n) (h1 : n ≤ 9223372036854775807) : IntKind.i64.wrap n = n := by rw [IntKind.wrap_i64]; omega
set_option maxHeartbeats 400000 in
theorem even1_any (i j c : Nat) (P bk : Nat) (xs : List Int) (w : World) (hi : i < c) (hj : j < c) (hc : c ≤ 8) (hn : xs.length = c * c) (ha : AllIn xs) (h : AtBox w P bk c xs) :
    Calls Tryz.prog 184 #[.int .i64 i, .int .i64 j, .pointer (some ⟨P, 0, none⟩)] w fun e w' => e = .returned (.int .i64 (half (ge xs (i * c + j) + ge xs (j * c + i)) 1)) ∧ Below w.heap.size w w' := by
  have h64 : c * c ≤ 64 := mul_le_64 hc hc
  have k1 := cell_regrown h.1
  have cA : ∀ (a b : Nat), a < c → b < c → ∀ d os, Calls Tryz.prog 182 #[.int .i64 a, .int .i64 b, .pointer (some ⟨bk, 0, none⟩)] (grow (redrawn w d) os) fun e w'' => e = .returned (.int .i64 (ge xs (a * c + b))) ∧ ∃ p : Regrown, w'' = grow (redrawn w p.d) p.os :=
    fun a b h1 h2 => at_calm a b c P bk xs w (by omega) h2 hc (by omega) (by rw [hn]; exact at_lt h1 h2) h
  have x1 := ha (i * c + j)
  have y1 := ha (j * c + i)
  obtain ⟨x, hx'⟩ : ∃ x, ge xs (i * c + j) = x := ⟨_, rfl⟩
  obtain ⟨y, hy'⟩ : ∃ y, ge xs (j * c + i) = y := ⟨_, rfl⟩
  rw [hx'] at x1 ⊢
  rw [hy'] at y1 ⊢
  clear h hn ha
  obtain ⟨z, hz⟩ : ∃ z, x + y = z := ⟨_, rfl⟩
  have hw : IntKind.i64.wrap z = z := wrap_in (by omega) (by omega)
  have cM := half_calm z 1 (by omega) (by omega) w
  rw [hz]
  go_enter Tryz.func184, Tryz.ntmps184
  go_wp2
  refine wp_region_quiet_below (by kernel_rfl) (by kernel_rfl) ?_
  repeat (quiet_step (first | (go_at_call 182; exact cA _ _ (by assumption) (by assumption) _ _) | (go_at_call 97; exact cM _ _)))
  refine wpQuiet_nil ?_
  intro _ hw'
  obtain ⟨⟨dq, osq⟩, hw''⟩ := hw'
  subst hw''
  go_wp2
  go_ret
  exact ⟨rfl, below_regrown w dq osq⟩
end Go.Proofs.YtoefekkdjcflmaaGreatDoor
namespace Go.Proofs.YtoefekkdjcflmaaGreatDoor
open Go.RowKit Go.Sort Qm
namespace Qm
def eqB (xs ys : List Int) : Bool := decide (xs = ys)
def sameB (r c : Int) (xs : List Int) (r' c' : Int) (ys : List Int) : Bool := decide (r = r') && (decide (c = c') && eqB xs ys)
theorem eq_of_ge {xs ys : List Int} (h : xs.length = ys.length) (g : ∀ k, k < xs.length → ge xs k = ge ys k) : xs = ys := by
  rw [← tab_self xs, ← tab_self ys, ← h]
  exact tab_congr g
theorem eqB_len {xs ys : List Int} (h : xs.length ≠ ys.length) : eqB xs ys = false := by unfold eqB; simp; intro e; rw [e] at h; exact h rfl
theorem eqB_at {xs ys : List Int} {k : Nat} (h : ge xs k ≠ ge ys k) : eqB xs ys = false := by unfold eqB; simp; intro e; rw [e] at h; exact h rfl
theorem eqB_all {xs ys : List Int} (h : xs.length = ys.length) (g : ∀ k, k < xs.length → ge xs k = ge ys k) : eqB xs ys = true := by unfold eqB; simp; exact eq_of_ge h g
end Qm
set_option maxHeartbeats 400000 in
theorem equal_any (va vb : Value) (xs ys : List Int) (w : World) (hx : xs.length ≤ 100) (hy : ys.length ≤ 100) (sa : Sees w va xs) (sb : Sees w vb ys) :
    Calls Tryz.prog 145 #[va, vb] w fun e w' => e = .returned (.bool (eqB xs ys)) ∧ Below w.heap.size w w' := by
  obtain ⟨ao, cap, rfl, ha⟩ := sa
  obtain ⟨bo, bcap, rfl, hb⟩ := sb
  obtain ⟨n, hn⟩ : ∃ n, xs.length = n := ⟨_, rfl⟩
  obtain ⟨m, hm⟩ : ∃ m, ys.length = m := ⟨_, rfl⟩
  rw [hn] at hx ha ⊢
  rw [hm] at hy hb ⊢
  by_cases hne : n = m
  · subst hne
    have HN : Hid (xs.length = n ∧ ys.length = n) := ⟨hn, hm⟩
    obtain ⟨E, hE⟩ : ∃ E, eqB xs ys = E := ⟨_, rfl⟩
    rw [hE]
    have HE : Hid (eqB xs ys = E) := hE
    clear hn hm hE
    go_enter Tryz.func145, Tryz.ntmps145
    go_wp2
    go_loopw [13] (fun i wr => ∃ k : Nat, k ≤ n ∧ i = .int .i64 k ∧ Hid (∀ j, j < k → ge xs j = ge ys j) ∧ Below w.heap.size w wr) (fun i _ => n - (intOf i).toNat)
    case atStart => exact ⟨0, Nat.zero_le _, rfl, fun j hj => absurd hj (Nat.not_lt_zero _), Below.refl _ _⟩
    case round =>
      obtain ⟨k, hk, rfl, hno, hbl⟩ := hrel
      by_cases hlt : k < n
      · obtain ⟨ad, rfl, la, ca⟩ := ha k hlt
        obtain ⟨bd, rfl, lb, cb⟩ := hb k hlt
        have ca' : wr.cell? (ad.add k) = _ := (hbl.cell (by rw [add_block]; exact la)).trans ca
        have cb' : wr.cell? (bd.add k) = _ := (hbl.cell (by rw [add_block]; exact lb)).trans cb
        clear ca cb
        by_cases he : ge xs k = ge ys k
        · have e1 : (ge xs k == ge ys k) = true := by simpa using he
          obtain ⟨x, hx'⟩ : ∃ x, ge xs k = x := ⟨_, rfl⟩
          have hy' : ge ys k = x := by rw [← he]; exact hx'
          have HX : Hid (ge xs k = ge ys k) := he
          clear e1 he
          go_wp2
          go_quiet (fail)
          go_wp2
          go_roundw
          case rel =>
            refine ⟨k + 1, by omega, by go_num, ?_, Below.trans hbl (below_drewN (Below.refl _ _) _)⟩
            intro j hj
            by_cases e : j = k
            · subst e; exact HX.out
            · exact hno.out j (by omega)
          case measure => simp [intOf]; omega
        · have HX : Hid (eqB xs ys = false) := eqB_at he
          have e1 : (ge xs k == ge ys k) = false := by simpa using he
          obtain ⟨x, hx'⟩ : ∃ x, ge xs k = x := ⟨_, rfl⟩
          obtain ⟨y, hy'⟩ : ∃ y, ge ys k = y := ⟨_, rfl⟩
          rw [hx', hy'] at e1 he
          have e2 : ¬ (x = y) := he
          clear he
          go_wp2
          go_quiet (fail)
          go_wp2
          go_ret
          exact ⟨by rw [← HE.out, HX.out]; rfl, Below.trans hbl (below_drewN (Below.refl _ _) _)⟩
      · have e : k = n := by omega
        subst e
        go_wp2
        go_ret
        refine ⟨?_, hbl⟩
        rw [← HE.out, eqB_all (by rw [HN.out.1, HN.out.2]) (by rw [HN.out.1]; exact hno.out)]
        rfl
  · have hE : eqB xs ys = false := eqB_len (by omega)
    rw [hE]
    clear hE hn hm
    have e1 : ¬ ((n : Int) = (m : Int)) := by omega
    go_enter Tryz.func145, Tryz.ntmps145
    go_wp2
    go_ret
    exact ⟨rfl, Below.refl _ _⟩
theorem equal_calm (va vb : Value) (xs ys : List Int) (w : World) (hx : xs.length ≤ 100) (hy : ys.length ≤ 100) (sa : Sees w va xs) (sb : Sees w vb ys) (d : Nat) (os : Array Obj) :
    Calls Tryz.prog 145 #[va, vb] (grow (redrawn w d) os) fun e w'' => e = .returned (.bool (eqB xs ys)) ∧ ∃ p : Regrown, w'' = grow (redrawn w p.d) p.os :=
  Calls.regrown_of (equal_any va vb xs ys _ hx hy (sa.below (below_regrown w d os)) (sb.below (below_regrown w d os)))
set_option maxHeartbeats 800000 in
theorem same_any (r c r' c' : Int) (va vb : Value) (xs ys : List Int) (w : World) (hx : xs.length ≤ 100) (hy : ys.length ≤ 100) (sa : Sees w va xs) (sb : Sees w vb ys) :
    Calls Tryz.prog 93 #[.agg #[.int .i64 r, .int .i64 c, va], .agg #[.int .i64 r', .int .i64 c', vb]] w fun e w' => e = .returned (.bool (sameB r c xs r' c' ys)) ∧ Below w.heap.size w w' := by
  obtain ⟨ao, cap, rfl⟩ := sa.slice
  obtain ⟨bo, bcap, rfl⟩ := sb.slice
  obtain ⟨W, hW⟩ : ∃ W, (w.alloc (.cells #[.int .i64 r, .int .i64 c, .slice ao xs.length cap] 29)).alloc (.cells #[.int .i64 r', .int .i64 c', .slice bo ys.length bcap] 29) = W := ⟨_, rfl⟩
  obtain ⟨x1, x2⟩ := allocs2 w (.cells #[.int .i64 r, .int .i64 c, .slice ao xs.length cap] 29) (.cells #[.int .i64 r', .int .i64 c', .slice bo ys.length bcap] 29)
  have bq := ball2 w (.cells #[.int .i64 r, .int .i64 c, .slice ao xs.length cap] 29) (.cells #[.int .i64 r', .int .i64 c', .slice bo ys.length bcap] 29)
  rw [hW] at x1 x2 bq
  have cE := equal_calm (.slice ao xs.length cap) (.slice bo ys.length bcap) xs ys W hx hy (sa.below bq) (sb.below bq)
  obtain ⟨u0, u1, u2, _⟩ := mat_cells x1
  obtain ⟨v0, v1, v2, _⟩ := mat_cells x2
  have m0 := cell_regrown u0
  have m1 := cell_regrown u1
  have m2 := cell_regrown u2
  have m3 := cell_regrown v0
  have m4 := cell_regrown v1
  have m5 := cell_regrown v2
  obtain ⟨E, hE⟩ : ∃ E, eqB xs ys = E := ⟨_, rfl⟩
  have hS : sameB r c xs r' c' ys = (decide (r = r') && (decide (c = c') && E)) := by rw [← hE]; rfl
  rw [hS]
  rw [hE] at cE
  clear hE hS sa sb u0 u1 u2 v0 v1 v2 x1 x2
  by_cases h1 : r = r'
  · subst h1
    by_cases h2 : c = c'
    · subst h2
      go_enter Tryz.func93, Tryz.ntmps93
      go_wp2
      refine wp_region_quiet_below (by kernel_rfl) (by kernel_rfl) ?_
      clear hW
      repeat (quiet_step (first | (go_at_call 144; exact sizeOf_calm _ _ _ _ _ _ _ _) | (go_at_call 145; exact cE _ _)))
      refine wpQuiet_nil ?_
      intro _ hw'
      obtain ⟨⟨dq, osq⟩, hw''⟩ := hw'
      subst hw''
      have bz := below_regrown W dq osq
      go_wp2
      go_ret
      exact ⟨by simp, bt bq bz⟩
    · have e1 : (c == c') = false := by simpa using h2
      go_enter Tryz.func93, Tryz.ntmps93
      go_wp2
      refine wp_region_quiet_below (by kernel_rfl) (by kernel_rfl) ?_
      clear hW
      repeat (quiet_step (first | (go_at_call 144; exact sizeOf_calm _ _ _ _ _ _ _ _) | (go_at_call 145; exact cE _ _)))
      refine wpQuiet_nil ?_
      intro _ hw'
      obtain ⟨⟨dq, osq⟩, hw''⟩ := hw'
      subst hw''
      have bz := below_regrown W dq osq
      go_wp2
      go_ret
      exact ⟨by simp; intro e; exact absurd e h2, bt bq bz⟩
  · have e1 : (r == r') = false := by simpa using h1
    go_enter Tryz.func93, Tryz.ntmps93
    go_wp2
    refine wp_region_quiet_below (by kernel_rfl) (by kernel_rfl) ?_
    clear hW
    repeat (quiet_step (first | (go_at_call 144; exact sizeOf_calm _ _ _ _ _ _ _ _) | (go_at_call 145; exact cE _ _)))
    refine wpQuiet_nil ?_
    intro _ hw'
    obtain ⟨⟨dq, osq⟩, hw''⟩ := hw'
    subst hw''
    have bz := below_regrown W dq osq
    go_wp2
    go_ret
    exact ⟨by simp; intro e; exact absurd e h1, bt bq bz⟩
end Go.Proofs.YtoefekkdjcflmaaGreatDoor
namespace Go.Proofs.YtoefekkdjcflmaaGreatDoor
open Go.RowKit Go.Sort Qm
set_option maxRecDepth 20000 in
set_option maxHeartbeats 1600000 in
theorem rsame_any (r c r' c' : Int) (va vb : Value) (xs ys : List Int) (w : World) (hx : xs.length ≤ 100) (hy : ys.length ≤ 100) (sa : Sees w va xs) (sb : Sees w vb ys) :
    Calls Tryz.prog 83 #[.agg #[.int .i64 r, .int .i64 c, va], .agg #[.int .i64 r', .int .i64 c', vb]] w fun e w' => e = .returned (.bool (sameB r c xs r' c' ys)) ∧ Below w.heap.size w w' := by
  obtain ⟨ao, cap, rfl, ha⟩ := sa
  obtain ⟨bo, bcap, rfl, hb⟩ := sb
  have hS : sameB r c xs r' c' ys = (decide (r = r') && (decide (c = c') && eqB xs ys)) := rfl
  by_cases h1 : r = r'
  · by_cases h2 : c = c'
    · by_cases h3 : xs.length = ys.length
      · subst h1
        subst h2
        obtain ⟨n, hn⟩ : ∃ n, xs.length = n := ⟨_, rfl⟩
        have hm : ys.length = n := by rw [← h3]; exact hn
        rw [hn] at hx ha ⊢
        rw [hm] at hy hb ⊢
        have HN : Hid (xs.length = n ∧ ys.length = n) := ⟨hn, hm⟩
        obtain ⟨E, hE⟩ : ∃ E, eqB xs ys = E := ⟨_, rfl⟩
        have hS' : sameB r c xs r c ys = E := by rw [hS, hE]; simp
        rw [hS']
        have HE : Hid (eqB xs ys = E) := hE
        clear hn hm hE hS hS' h3
        obtain ⟨W, hW⟩ : ∃ W, (w.alloc (.cells #[.int .i64 r, .int .i64 c, .slice ao n cap] 29)).alloc (.cells #[.int .i64 r, .int .i64 c, .slice bo n bcap] 29) = W := ⟨_, rfl⟩
        obtain ⟨x1, x2⟩ := allocs2 w (.cells #[.int .i64 r, .int .i64 c, .slice ao n cap] 29) (.cells #[.int .i64 r, .int .i64 c, .slice bo n bcap] 29)
        have bq := ball2 w (.cells #[.int .i64 r, .int .i64 c, .slice ao n cap] 29) (.cells #[.int .i64 r, .int .i64 c, .slice bo n bcap] 29)
        rw [hW] at x1 x2 bq
        obtain ⟨u0, u1, u2, _⟩ := mat_cells x1
        obtain ⟨v0, v1, v2, _⟩ := mat_cells x2
        go_enter Tryz.func83, Tryz.ntmps83
        go_wp2
        clear u0 u1 u2 v0 v1 v2
        go_loopw [5] (fun i wr => ∃ k : Nat, k ≤ n ∧ i = .int .i64 k ∧ Hid (∀ j, j < k → ge xs j = ge ys j) ∧ Below W.heap.size W wr) (fun i _ => n - (intOf i).toNat)
        case atStart => exact ⟨0, Nat.zero_le _, rfl, fun j hj => absurd hj (Nat.not_lt_zero _), Below.refl _ _⟩
        case round =>
          obtain ⟨k, hk, rfl, hno, hbl⟩ := hrel
          obtain ⟨u0, u1, u2, _⟩ := mat_cells (keep hbl x1)
          obtain ⟨v0, v1, v2, _⟩ := mat_cells (keep hbl x2)
          by_cases hlt : k < n
          · obtain ⟨ad, rfl, la, ca⟩ := ha k hlt
            obtain ⟨bd, rfl, lb, cb⟩ := hb k hlt
            have ca' : wr.cell? (ad.add k) = _ := ((bt bq hbl).cell (by rw [add_block]; exact la)).trans ca
            have cb' : wr.cell? (bd.add k) = _ := ((bt bq hbl).cell (by rw [add_block]; exact lb)).trans cb
            clear ca cb
            by_cases he : ge xs k = ge ys k
            · obtain ⟨x, hx'⟩ : ∃ x, ge xs k = x := ⟨_, rfl⟩
              have hy' : ge ys k = x := by rw [← he]; exact hx'
              have HX : Hid (ge xs k = ge ys k) := he
              clear he
              go_wp2
              go_quiet (fail)
              go_wp2
              go_roundw
              case rel =>
                refine ⟨k + 1, by omega, by go_num, ?_, Below.trans hbl (below_drewN (Below.refl _ _) _)⟩
                intro j hj
                by_cases e : j = k
                · subst e; exact HX.out
                · exact hno.out j (by omega)
              case measure => simp [intOf]; omega
            · have HX : Hid (eqB xs ys = false) := eqB_at he
              have e1 : (ge xs k == ge ys k) = false := by simpa using he
              obtain ⟨x, hx'⟩ : ∃ x, ge xs k = x := ⟨_, rfl⟩
              obtain ⟨y, hy'⟩ : ∃ y, ge ys k = y := ⟨_, rfl⟩
              rw [hx', hy'] at e1 he
              have e2 : ¬ (x = y) := he
              clear he
              go_wp2
              go_quiet (fail)
              go_wp2
              go_ret
              exact ⟨by rw [← HE.out, HX.out]; rfl, Below.trans (bt bq hbl) (below_drewN (Below.refl _ _) _)⟩
          · have e : k = n := by omega
            subst e
            go_wp2
            go_ret
            refine ⟨?_, bt bq hbl⟩
            rw [← HE.out, eqB_all (by rw [HN.out.1, HN.out.2]) (by rw [HN.out.1]; exact hno.out)]
            rfl
      · rw [hS, eqB_len h3]
        have e3 : ¬ ((xs.length : Int) = (ys.length : Int)) := by omega
        clear hS
        go_enter Tryz.func83, Tryz.ntmps83
        go_wp2
        go_ret
        exact ⟨by simp, ball2 _ _ _⟩
    · rw [hS]
      clear hS
      go_enter Tryz.func83, Tryz.ntmps83
      go_wp2
      go_ret
      exact ⟨by simp; intro _ e; exact absurd e h2, ball2 _ _ _⟩
  · rw [hS]
    clear hS
    go_enter Tryz.func83, Tryz.ntmps83
    go_wp2
    go_ret
    exact ⟨by simp; intro e; exact absurd e h1, ball2 _ _ _⟩
set_option maxRecDepth 20000 in
set_option maxHeartbeats 1600000 in
theorem rright_any (r c : Int) (va : Value) (xs : List Int) (w : World) (sa : Sees w va xs) :
    Calls Tryz.prog 59 #[.agg #[.int .i64 r, .int .i64 c, va]] w fun e w' => e = .returned (.bool (rightB r c xs)) ∧ Below w.heap.size w w' := by
  obtain ⟨ao, cap, rfl, ha⟩ := sa
  have hS : rightB r c xs = (laidB r c xs.length && !outB xs xs.length) := rfl
  have hB := box_below w (.cells #[.int .i64 r, .int .i64 c, .slice ao xs.length cap] 29)
  by_cases h1 : 1 ≤ r
  · by_cases h2 : r ≤ 8
    · by_cases h3 : 1 ≤ c
      · by_cases h4 : c ≤ 8
        · obtain ⟨R, rfl⟩ := Int.eq_ofNat_of_zero_le (by omega : 0 ≤ r)
          obtain ⟨C, rfl⟩ := Int.eq_ofNat_of_zero_le (by omega : 0 ≤ c)
          have hm : R * C ≤ 64 := mul_le_64 (by omega) (by omega)
          obtain ⟨q, hq⟩ : ∃ q, R * C = q := ⟨_, rfl⟩
          have hq' : (R : Int) * (C : Int) = (q : Int) := by rw [← hq]; exact (Int.natCast_mul R C).symm
          rw [hq] at hm
          by_cases h5 : xs.length = q
          · have hl : laidB R C xs.length = true := laidB_mk (by omega) (by omega) (by omega) (by omega) (by omega)
            rw [hS, hl]
            obtain ⟨n, hn⟩ : ∃ n, xs.length = n := ⟨_, rfl⟩
            have hnq : n = q := by omega
            subst hnq
            obtain ⟨O, hO⟩ : ∃ O, outB xs xs.length = O := ⟨_, rfl⟩
            rw [hO]
            rw [hn] at ha hB hO ⊢
            have HO : Hid (outB xs n = O) := hO
            clear hO hl hS hq h5 hn
            obtain ⟨W, hW⟩ : ∃ W, w.alloc (.cells #[.int .i64 R, .int .i64 C, .slice ao n cap] 29) = W := ⟨_, rfl⟩
            have x1 := heap_new w (.cells #[.int .i64 R, .int .i64 C, .slice ao n cap] 29)
            rw [hW] at x1 hB
            obtain ⟨u0, u1, u2, _⟩ := mat_cells x1
            have ha' : ∀ k, k < n → ∃ ad, ao = some ad ∧ W.cell? (ad.add k) = some (.int .i64 (ge xs k)) := fun k hk => by
              obtain ⟨ad, h1, h2, h3⟩ := ha k hk
              exact ⟨ad, h1, (hB.cell (by rw [add_block]; exact h2)).trans h3⟩
            clear ha
            go_enter Tryz.func59, Tryz.ntmps59
            go_wp2
            go_loop [3] (fun i => ∃ k : Nat, k ≤ n ∧ i = .int .i64 k ∧ Hid (outB xs k = false)) (fun i => n - (intOf i).toNat)
            case atStart => exact ⟨0, Nat.zero_le _, rfl, rfl⟩
            case round =>
              obtain ⟨k, hk, rfl, hno⟩ := hrel
              by_cases hlt : k < n
              · obtain ⟨ad, rfl, hc⟩ := ha' k hlt
                cases ho : ob (ge xs k) with
                | true =>
                  have hi : inB (ge xs k) = false := by unfold inB; rw [ho]; rfl
                  go_wp2_with (go_at_call 58; refine (rin_any _ _).mono ?_; rintro e w' ⟨rfl, rfl⟩)
                  go_ret
                  exact ⟨by rw [← HO.out, show outB xs n = true from anyB_hit hlt ho]; rfl, hB⟩
                | false =>
                  have hi : inB (ge xs k) = true := by unfold inB; rw [ho]; rfl
                  go_wp2_with (go_at_call 58; refine (rin_any _ _).mono ?_; rintro e w' ⟨rfl, rfl⟩)
                  go_round
                  case rel => exact ⟨k + 1, by omega, by go_num, by show outB xs (k + 1) = false; unfold outB; rw [anyB, ho]; have := hno.out; unfold outB at this; rw [this]; rfl⟩
                  case measure => simp [intOf]; omega
              · have e : k = n := by omega
                subst e
                go_wp2
                go_ret
                exact ⟨by rw [← HO.out, hno.out]; rfl, hB⟩
          · have hl : laidB R C xs.length = false := by
              cases e : laidB R C xs.length with
              | false => rfl
              | true =>
                obtain ⟨R', C', e1, e2, _, _, _, _, e3⟩ := laidB_in e
                have e1 : R = R' := by omega
                have e2 : C = C' := by omega
                subst e1; subst e2
                omega
            rw [hS, hl]
            have e3 : ¬ ((xs.length : Int) = (q : Int)) := by omega
            have e4 : ((xs.length : Int) == (q : Int)) = false := by simp; omega
            have d1 : decide ((R : Int) < 1) = false := by simp; omega
            have d2 : decide ((8 : Int) < (R : Int)) = false := by simp; omega
            have d3 : decide ((C : Int) < 1) = false := by simp; omega
            have d4 : decide ((8 : Int) < (C : Int)) = false := by simp; omega
            clear hS hl hq
            go_enter Tryz.func59, Tryz.ntmps59
            go_wp2
            go_ret
            exact ⟨rfl, hB⟩
        · have hl : rightB r c xs = false := by rw [hS]; unfold laidB; rw [cntB_f (n := c) (by omega)]; simp
          rw [hl]
          clear hS hl
          go_enter Tryz.func59, Tryz.ntmps59
          go_wp2
          go_ret
          exact ⟨rfl, hB⟩
      · have hl : rightB r c xs = false := by rw [hS]; unfold laidB; rw [cntB_f (n := c) (by omega)]; simp
        rw [hl]
        clear hS hl
        go_enter Tryz.func59, Tryz.ntmps59
        go_wp2
        go_ret
        exact ⟨rfl, hB⟩
    · have hl : rightB r c xs = false := by rw [hS]; unfold laidB; rw [cntB_f (n := r) (by omega)]; simp
      rw [hl]
      clear hS hl
      go_enter Tryz.func59, Tryz.ntmps59
      go_wp2
      go_ret
      exact ⟨rfl, hB⟩
  · have hl : rightB r c xs = false := by rw [hS]; unfold laidB; rw [cntB_f (n := r) (by omega)]; simp
    rw [hl]
    clear hS hl
    go_enter Tryz.func59, Tryz.ntmps59
    go_wp2
    go_ret
    exact ⟨rfl, hB⟩
def Fills (W : World) (g cap n : Nat) (u : Nat → Int) (wr : World) : Prop :=
  wr.ownsRow 0 22 1 (.slice (some ⟨g, 0, none⟩) n cap) n ((tab u n).map (Value.int .i64)) ∧ W.grownBy wr (some g)
section
variable {W wr : World} {g cap n : Nat} {u : Nat → Int}
theorem Fills.start {base : Nat} (h : W.ownsRow base 22 1 (.slice (some ⟨g, 0, none⟩) n cap) n ((tab u n).map (Value.int .i64))) : Fills W g cap n u W := ⟨own_mono h (Nat.zero_le _), gb_refl _ _⟩
theorem Fills.cell (h : Fills W g cap n u wr) {k : Nat} (hk : k < n) : wr.cell? ⟨g, k, none⟩ = some (.int .i64 (u k)) := by
  rw [h.1.cellAt k (by omega), List.getElem?_map, List.getElem?_eq_getElem (by rw [tab_len]; exact hk), tab_getElem]; rfl
theorem Fills.free (h : Fills W g cap n u wr) (k : Nat) : wr.frozen? ⟨g, k, none⟩ = false := h.1.frozenAt k
theorem Fills.congr (h : Fills W g cap n u wr) {u' : Nat → Int} (e : ∀ k, k < n → u k = u' k) : Fills W g cap n u' wr := by
  refine ⟨?_, h.2⟩; rw [← tab_congr e]; exact h.1
theorem Fills.store (h : Fills W g cap n u wr) (p : Nat) (x : Int) : Fills W g cap n (fun k => if k = p then x else u k) (wr.setCell ⟨g, p, none⟩ (.int .i64 x)) := by
  obtain ⟨h1, h2⟩ := h.1.stored p (.int .i64 x)
  refine ⟨?_, gb_trans h.2 h2⟩
  have e : ((tab u n).map (Value.int .i64)).set p (.int .i64 x) = (tab (fun k => if k = p then x else u k) n).map (Value.int .i64) := by rw [← List.map_set, tab_set]
  rw [← e]; exact h1
theorem Fills.drew (h : Fills W g cap n u wr) : Fills W g cap n u wr.drew := by
  have b : Below wr.heap.size wr wr.drew := (Below.refl _ _).drew
  exact ⟨h.1.kept (gb_below none b) (by simp [Value.ownBlock]), gb_trans h.2 (gb_below _ b)⟩
theorem Fills.keep (h : Fills W g cap n u wr) {b : Nat} {o : Obj} (hb : W.heap[b]? = some o) (hne : b ≠ g) : wr.heap[b]? = some o := (h.2.block b (lt_of_block hb) (fun e => hne (Option.some.inj e))).trans hb
theorem Fills.below (h : Fills W g cap n u wr) {w : World} (hb : Below w.heap.size w W) (hg : w.heap.size ≤ g) : Below w.heap.size w wr :=
  ⟨h.2.os.trans hb.os, h.2.tape.trans hb.tape, h.2.output.trans hb.output, Nat.le_trans hb.size h.2.size, fun k hk => by rw [h.2.block k (Nat.lt_of_lt_of_le hk hb.size) (fun e => by have := Option.some.inj e; omega), hb.block k hk]⟩
theorem Fills.shows (h : Fills W g cap n u wr) : Sees wr (.slice (some ⟨g, 0, none⟩) n cap) (tab u n) := Sees.own h.1
theorem Fills.apart (h : Fills W g cap n u wr) {b : Nat} {c : Array Value} (hb : wr.heap[b]? = some (.cells c 29 (0, 0))) : b ≠ g := by
  rintro rfl
  rcases h.1.2 with ⟨e, _⟩ | ⟨g', cap', cur, e, _, hg, _⟩
  · cases e
  · cases e; rw [hg] at hb; simp at hb
end
theorem enters54 : ∀ (args : Array Value) (a : World), Sem.run Tryz.prog (callFunc 201 args) a = Result.ok (Next.enter 201 args) a := by
  intro args a
  simp [callFunc, Tryz.func201, go_sem]
  rfl
namespace Qm
def sclB (xs : List Int) (k : Int) : Bool := anyB (fun p => mulB (ge xs p) k) xs.length
def scl (xs : List Int) (k : Int) : List Int := tab (fun p => mul (ge xs p) k) xs.length
end Qm
theorem scale_reck (R C : Nat) (hR : R ≤ 8) (hC : C ≤ 8) (k : Int) (xs : List Int) (hn : xs.length = R * C) (P bk K : Nat) (w : World) (hA : AtBox w P bk C xs) (hK : w.heap[K]? = some (.cells #[.int .i64 k] 22 (0, 0))) :
    Calls Tryz.prog 178 #[.agg #[.int .i64 R, .int .i64 C], .func (.func 201) #[] #[.pointer (some ⟨P, 0, none⟩), .pointer (some ⟨K, 0, none⟩)]] w fun e b =>
      ∃ v, e = .returned (.tuple #[.agg #[.int .i64 R, .int .i64 C, v], .bool (sclB xs k)]) ∧ Sees b v (scl xs k) ∧ New w.heap.size v ∧ Below w.heap.size w b := by
  have h64 : R * C ≤ 64 := mul_le_64 hR hC
  unfold sclB scl
  rw [hn]
  refine reckoned_any R C hR hC 201 enters54 #[.pointer (some ⟨P, 0, none⟩), .pointer (some ⟨K, 0, none⟩)] (fun p => mul (ge xs p) k) (fun p => mulB (ge xs p) k) w ?_
  intro i j a hi hj hb
  exact scale1_any i j C P bk K k xs a (by omega) hj hC (by omega) (by rw [hn]; exact at_lt hi hj) (hA.below hb) (cell_of_one (keep hb hK))
set_option maxHeartbeats 800000 in
theorem scale_any (R C : Nat) (h1 : 1 ≤ R) (hR : R ≤ 8) (h2 : 1 ≤ C) (hC : C ≤ 8) (k : Int) (v : Value) (xs : List Int) (hn : xs.length = R * C) (w : World) (hs : Sees w v xs) :
    Calls Tryz.prog 197 #[.agg #[.int .i64 R, .int .i64 C, v], .int .i64 k] w fun e b =>
      ∃ v, e = .returned (.tuple #[.agg #[.int .i64 R, .int .i64 C, v], .bool (sclB xs k)]) ∧ Sees b v (scl xs k) ∧ New w.heap.size v ∧ Below w.heap.size w b := by
  obtain ⟨ao, cap, rfl⟩ := hs.slice
  have hl : laidB R C xs.length = true := laidB_mk h1 hR h2 hC hn
  obtain ⟨S, hS⟩ : ∃ S, sclB xs k = S := ⟨_, rfl⟩
  have hrk := fun P bk K w hA hK => scale_reck R C hR hC k xs hn P bk K w hA hK
  rw [hS] at hrk ⊢
  clear hn hS
  go_enter Tryz.func197, Tryz.ntmps197
  go_wp2_with (first
    | (go_at_call 159; refine (laid_any _ _ _ _ _ _).mono ?_; rintro e w1 ⟨rfl, b1⟩; have a1 := keep b1 (allocs3 w _ _ _).1; have q1 := keep b1 (allocs3 w _ _ _).2.1; have r1 := keep b1 (allocs3 w _ _ _).2.2; have s1 := hs.below (bt (ball3 w _ _ _) b1); obtain ⟨c0, c1, c2, _⟩ := mat_cells a1)
    | (go_at_call 160; refine (numbers_any _ _ _ _ _ _).mono ?_; rintro e w2 ⟨rfl, rfl⟩; obtain ⟨d0, d1, d2, _⟩ := mat_cells (heap_old (heap_old a1 (.cells #[.int .i64 R, .int .i64 C, .slice ao xs.length cap] 29)) (.cells #[.func (.func 182) #[] #[.pointer (some ⟨w1.heap.size, 0, none⟩)]] 187)))
    | (go_at_call 144; refine (sizeOf_any _ _ _ _ _ _).mono ?_; rintro e w3 ⟨rfl, b3⟩; have A3 := (atbox_mk s1).below b3)
    | (go_at_call 178; have r3 := keep b3 (heap_old (heap_old r1 _) _); refine (hrk _ _ _ _ A3 (keep b3 (heap_old (heap_old q1 _) _))).mono ?_; rintro e w4 ⟨v4, rfl, s4, n4, b4⟩; obtain ⟨ao4, cap4, rfl⟩ := s4.slice; obtain ⟨f0, f1, f2, g0, g1, g2⟩ := mat_cells (keep b4 r3)))
  refine bodyPost_ret (v := .tuple #[.agg #[.int .i64 R, .int .i64 C, .slice ao4 (scl xs k).length cap4], .bool S]) (by simp [results, Tryz.results197, go_sem, f0, f1, f2]) rfl ?_
  exact ⟨_, rfl, s4.put n4 (lt_of_block r3) _ _ _, n4.mono (bt (bt (bt (ball3 w _ _ _) b1) (ball2 w1 _ _)) b3).size, below_put (bt (bt (bt (bt (ball3 w _ _ _) b1) (ball2 w1 _ _)) b3) b4) (by omega) _ _ _⟩
end Go.Proofs.YtoefekkdjcflmaaGreatDoor

