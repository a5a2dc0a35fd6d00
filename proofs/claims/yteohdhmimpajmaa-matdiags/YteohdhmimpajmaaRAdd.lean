/-
  The contracts of the document's Add and Sub.
-/
import Derived.Test.YteohdhmimpajmaaRScale
import Derived.Test.YteohdhmimpajmaaAddSub
namespace Go.Proofs.Yteohdhmimpajmaa
open Go.RowKit Go.Sort Qm

set_option maxRecDepth 20000 in
set_option maxHeartbeats 1600000 in
theorem radd_mat (R C : Nat) (h1 : 1 ≤ R) (hR : R ≤ 8) (h2 : 1 ≤ C) (hC : C ≤ 8) (va vb : Value) (xs ys : List Int) (hn : xs.length = R * C) (hm : ys.length = R * C) (w : World) (sa : Sees w va xs) (sb : Sees w vb ys) :
    Calls Try.prog 13 #[.agg #[.int .i64 R, .int .i64 C, va], .agg #[.int .i64 R, .int .i64 C, vb]] w fun e b =>
      ∃ v, e = .returned (.tuple #[.agg #[.int .i64 R, .int .i64 C, v], .bool (paiB addB xs ys), .int .i64 0]) ∧ Sees b v (pai add xs ys) ∧ New w.heap.size v ∧ Below w.heap.size w b := by
  have h64 : R * C ≤ 64 := mul_le_64 hR hC
  have hno := fun w => none_any R C hR hC h1 h2 w
  obtain ⟨n, hn'⟩ : ∃ n, xs.length = n := ⟨_, rfl⟩
  have hq : R * C = n := by omega
  rw [hq] at h64 hno hm
  unfold paiB pai
  rw [hn']
  obtain ⟨S, hS⟩ : ∃ S, anyB (fun p => addB (ge xs p) (ge ys p)) n = S := ⟨_, rfl⟩
  have HS : Hid (anyB (fun p => addB (ge xs p) (ge ys p)) n = S) := hS
  rw [hS]
  obtain ⟨ao, cap, rfl, ha⟩ := sa
  obtain ⟨bo, bcap, rfl, hb⟩ := sb
  rw [hn'] at ha ⊢
  rw [hm] at hb ⊢
  have sa : Sees w (.slice ao n cap) xs := ⟨ao, cap, by rw [hn'], by rw [hn']; exact ha⟩
  have sb : Sees w (.slice bo n bcap) ys := ⟨bo, bcap, by rw [hm], by rw [hm]; exact hb⟩
  have hxl : xs.length ≥ n := by omega
  have hyl : ys.length ≥ n := by omega
  clear hn hn' hq hS ha hb hm
  obtain ⟨W, hW⟩ : ∃ W, ((w.alloc (.cells #[.int .i64 R, .int .i64 C, .slice ao n cap] 24)).alloc (.cells #[.int .i64 R, .int .i64 C, .slice bo n bcap] 24)).alloc (.cells #[.int .i64 0, .int .i64 0, .slice none 0 0] 24) = W := ⟨_, rfl⟩
  obtain ⟨x1, x0, x2⟩ := allocs3 w (.cells #[.int .i64 R, .int .i64 C, .slice ao n cap] 24) (.cells #[.int .i64 R, .int .i64 C, .slice bo n bcap] 24) (.cells #[.int .i64 0, .int .i64 0, .slice none 0 0] 24)
  have bq := ball3 w (.cells #[.int .i64 R, .int .i64 C, .slice ao n cap] 24) (.cells #[.int .i64 R, .int .i64 C, .slice bo n bcap] 24) (.cells #[.int .i64 0, .int .i64 0, .slice none 0 0] 24)
  rw [hW] at x1 x0 x2 bq
  obtain ⟨u0, u1, u2, _⟩ := mat_cells x1
  obtain ⟨t0, t1, t2, _⟩ := mat_cells x0
  go_enter Try.func13, Try.ntmps13
  go_wp2_with (go_at_call 35; refine (hno _).mono ?_; rintro e w1 ⟨g, gc, rfl, hown, b1⟩)
  clear u0 u1 u2 t0 t1 t2
  have hgW := (hown.lt g rfl).1
  have hDg : w.heap.size + 1 + 1 < g := Nat.lt_of_lt_of_le (lt_of_block x2) hgW
  have y1 := heap_old (keep b1 x1) (.cells #[.int .i64 R, .int .i64 C, .slice (some ⟨g, 0, none⟩) n gc] 24)
  have y0 := heap_old (keep b1 x0) (.cells #[.int .i64 R, .int .i64 C, .slice (some ⟨g, 0, none⟩) n gc] 24)
  have y2 := heap_old (keep b1 x2) (.cells #[.int .i64 R, .int .i64 C, .slice (some ⟨g, 0, none⟩) n gc] 24)
  have y3 := heap_new w1 (.cells #[.int .i64 R, .int .i64 C, .slice (some ⟨g, 0, none⟩) n gc] 24)
  have bw := (bt (bt bq b1) (box_below w1 (.cells #[.int .i64 R, .int .i64 C, .slice (some ⟨g, 0, none⟩) n gc] 24)))
  have F0 : Fills (w1.alloc (.cells #[.int .i64 R, .int .i64 C, .slice (some ⟨g, 0, none⟩) n gc] 24)) g gc n (fun _ => 0) (w1.alloc (.cells #[.int .i64 R, .int .i64 C, .slice (some ⟨g, 0, none⟩) n gc] 24)) := Fills.start (hown.alloc _)
  have hgw : w.heap.size ≤ g := Nat.le_trans bq.size hgW
  obtain ⟨V, hV⟩ : ∃ V, w1.alloc (.cells #[.int .i64 R, .int .i64 C, .slice (some ⟨g, 0, none⟩) n gc] 24) = V := ⟨_, rfl⟩
  rw [hV] at y1 y0 y2 y3 bw F0 ⊢
  have gx1 := F0.apart y1
  have gx0 := F0.apart y0
  have gx2 := F0.apart y2
  have gx3 := F0.apart y3
  clear hV hW x1 x0 x2 hown b1 bq hno
  go_loopw [8, 9] (fun m i wr => ∃ k : Nat, k ≤ n ∧ i = .int .i64 k ∧ m = .bool (anyB (fun p => addB (ge xs p) (ge ys p)) k) ∧ Fills V g gc n (upto (fun p => add (ge xs p) (ge ys p)) k) wr) (fun _ i _ => n - (intOf i).toNat)
  case atStart => exact ⟨0, Nat.zero_le _, rfl, rfl, F0.congr (upto_zero _ n)⟩
  case round =>
    clear F0
    obtain ⟨k, hk, rfl, rfl, hF⟩ := hrel
    obtain ⟨u0, u1, u2, _⟩ := mat_cells (hF.keep y1 gx1)
    obtain ⟨t0, t1, t2, _⟩ := mat_cells (hF.keep y0 gx0)
    obtain ⟨v0, v1, v2, _⟩ := mat_cells (hF.keep y3 gx3)
    by_cases hlt : k < n
    · have hc := hF.cell hlt
      have hf := hF.free k
      have HM : Hid (anyB (fun p => addB (ge xs p) (ge ys p)) (k + 1) = (anyB (fun p => addB (ge xs p) (ge ys p)) k || addB (ge xs k) (ge ys k))) := rfl
      have HF : ∀ m, Fills V g gc n _ _ := fun m => ((hF.drewN m).store k (add (ge xs k) (ge ys k))).congr (upto_succ (fun p => add (ge xs p) (ge ys p)) k n)
      obtain ⟨ad, rfl, ca⟩ := (hF.sees sa bw hgw).at k (by omega)
      obtain ⟨bd, rfl, cb⟩ := (hF.sees sb bw hgw).at k (by omega)
      obtain ⟨x, hx⟩ : ∃ x, ge xs k = x := ⟨_, rfl⟩
      obtain ⟨y, hy⟩ : ∃ y, ge ys k = y := ⟨_, rfl⟩
      obtain ⟨M, hM⟩ : ∃ M, anyB (fun p => addB (ge xs p) (ge ys p)) k = M := ⟨_, rfl⟩
      rw [hx, hy] at HM HF
      rw [hx] at ca
      rw [hy] at cb
      rw [hM] at HM ⊢
      clear hx hy hM hF
      cases M
      all_goals
        go_wp2
        go_quiet ((go_at_call 36; exact Calls.quiet_of_same (radd_any _ _ _)))
        go_wp2
        go_roundw
        case rel => exact ⟨k + 1, by omega, by go_num, by rw [HM.out]; rfl, HF _⟩
        case measure => simp [intOf]; omega
    · have e : k = n := by omega
      subst e
      rw [HS.out]
      obtain ⟨d0, d1, d2, f0, f1, f2⟩ := mat_cells (hF.keep y2 gx2)
      have hsh := hF.shows
      rw [upto_all] at hsh
      have hbl := hF.below bw hgw
      clear hF
      go_wp2
      refine bodyPost_ret (v := .tuple #[.agg #[.int .i64 R, .int .i64 C, .slice (some ⟨g, 0, none⟩) k gc], .bool S, .int .i64 0]) (by simp [results, Try.results13, go_sem, d0, d1, d2]) rfl ?_
      exact ⟨_, rfl, hsh.put (new_at g k gc) hDg _ _ _, (new_at g k gc).mono hgw, below_put hbl (by omega) _ _ _⟩

set_option maxRecDepth 20000 in
set_option maxHeartbeats 400000 in
theorem radd_not (R C R' C' : Int) (h : ¬ (R = R' ∧ C = C')) (va vb : Value) (xs ys : List Int) (w : World) (sa : Sees w va xs) (sb : Sees w vb ys) :
    Calls Try.prog 13 #[.agg #[.int .i64 R, .int .i64 C, va], .agg #[.int .i64 R', .int .i64 C', vb]] w fun e b =>
      e = .returned (.tuple #[.agg #[.int .i64 0, .int .i64 0, .slice none 0 0], .bool false, .int .i64 9]) ∧ Below w.heap.size w b := by
  obtain ⟨ao, cap, rfl⟩ := sa.slice
  obtain ⟨bo, bcap, rfl⟩ := sb.slice
  clear sa sb
  have b0 := ball3 w (.cells #[.int .i64 R, .int .i64 C, .slice ao xs.length cap] 24) (.cells #[.int .i64 R', .int .i64 C', .slice bo ys.length bcap] 24) (.cells #[.int .i64 0, .int .i64 0, .slice none 0 0] 24)
  by_cases hr : R = R'
  · subst hr
    have hc : ¬ (C = C') := fun e => h ⟨rfl, e⟩
    have hc' : (C == C') = false := by simpa using hc
    clear h
    go_enter Try.func13, Try.ntmps13
    go_wp2
    refine bodyPost_ret (v := .tuple #[.agg #[.int .i64 0, .int .i64 0, .slice none 0 0], .bool false, .int .i64 9]) (by simp [results, Try.results13, go_sem]) rfl ?_
    exact ⟨rfl, b0⟩
  · have hc' : (R == R') = false := by simpa using hr
    clear h
    go_enter Try.func13, Try.ntmps13
    go_wp2
    refine bodyPost_ret (v := .tuple #[.agg #[.int .i64 0, .int .i64 0, .slice none 0 0], .bool false, .int .i64 9]) (by simp [results, Try.results13, go_sem]) rfl ?_
    exact ⟨rfl, b0⟩

set_option maxRecDepth 20000 in
set_option maxHeartbeats 1600000 in
theorem rsub_mat (R C : Nat) (h1 : 1 ≤ R) (hR : R ≤ 8) (h2 : 1 ≤ C) (hC : C ≤ 8) (va vb : Value) (xs ys : List Int) (hn : xs.length = R * C) (hm : ys.length = R * C) (w : World) (sa : Sees w va xs) (sb : Sees w vb ys) :
    Calls Try.prog 15 #[.agg #[.int .i64 R, .int .i64 C, va], .agg #[.int .i64 R, .int .i64 C, vb]] w fun e b =>
      ∃ v, e = .returned (.tuple #[.agg #[.int .i64 R, .int .i64 C, v], .bool (paiB subB xs ys), .int .i64 0]) ∧ Sees b v (pai sub xs ys) ∧ New w.heap.size v ∧ Below w.heap.size w b := by
  have h64 : R * C ≤ 64 := mul_le_64 hR hC
  have hno := fun w => none_any R C hR hC h1 h2 w
  obtain ⟨n, hn'⟩ : ∃ n, xs.length = n := ⟨_, rfl⟩
  have hq : R * C = n := by omega
  rw [hq] at h64 hno hm
  unfold paiB pai
  rw [hn']
  obtain ⟨S, hS⟩ : ∃ S, anyB (fun p => subB (ge xs p) (ge ys p)) n = S := ⟨_, rfl⟩
  have HS : Hid (anyB (fun p => subB (ge xs p) (ge ys p)) n = S) := hS
  rw [hS]
  obtain ⟨ao, cap, rfl, ha⟩ := sa
  obtain ⟨bo, bcap, rfl, hb⟩ := sb
  rw [hn'] at ha ⊢
  rw [hm] at hb ⊢
  have sa : Sees w (.slice ao n cap) xs := ⟨ao, cap, by rw [hn'], by rw [hn']; exact ha⟩
  have sb : Sees w (.slice bo n bcap) ys := ⟨bo, bcap, by rw [hm], by rw [hm]; exact hb⟩
  have hxl : xs.length ≥ n := by omega
  have hyl : ys.length ≥ n := by omega
  clear hn hn' hq hS ha hb hm
  obtain ⟨W, hW⟩ : ∃ W, ((w.alloc (.cells #[.int .i64 R, .int .i64 C, .slice ao n cap] 24)).alloc (.cells #[.int .i64 R, .int .i64 C, .slice bo n bcap] 24)).alloc (.cells #[.int .i64 0, .int .i64 0, .slice none 0 0] 24) = W := ⟨_, rfl⟩
  obtain ⟨x1, x0, x2⟩ := allocs3 w (.cells #[.int .i64 R, .int .i64 C, .slice ao n cap] 24) (.cells #[.int .i64 R, .int .i64 C, .slice bo n bcap] 24) (.cells #[.int .i64 0, .int .i64 0, .slice none 0 0] 24)
  have bq := ball3 w (.cells #[.int .i64 R, .int .i64 C, .slice ao n cap] 24) (.cells #[.int .i64 R, .int .i64 C, .slice bo n bcap] 24) (.cells #[.int .i64 0, .int .i64 0, .slice none 0 0] 24)
  rw [hW] at x1 x0 x2 bq
  obtain ⟨u0, u1, u2, _⟩ := mat_cells x1
  obtain ⟨t0, t1, t2, _⟩ := mat_cells x0
  go_enter Try.func15, Try.ntmps15
  go_wp2_with (go_at_call 35; refine (hno _).mono ?_; rintro e w1 ⟨g, gc, rfl, hown, b1⟩)
  clear u0 u1 u2 t0 t1 t2
  have hgW := (hown.lt g rfl).1
  have hDg : w.heap.size + 1 + 1 < g := Nat.lt_of_lt_of_le (lt_of_block x2) hgW
  have y1 := heap_old (keep b1 x1) (.cells #[.int .i64 R, .int .i64 C, .slice (some ⟨g, 0, none⟩) n gc] 24)
  have y0 := heap_old (keep b1 x0) (.cells #[.int .i64 R, .int .i64 C, .slice (some ⟨g, 0, none⟩) n gc] 24)
  have y2 := heap_old (keep b1 x2) (.cells #[.int .i64 R, .int .i64 C, .slice (some ⟨g, 0, none⟩) n gc] 24)
  have y3 := heap_new w1 (.cells #[.int .i64 R, .int .i64 C, .slice (some ⟨g, 0, none⟩) n gc] 24)
  have bw := (bt (bt bq b1) (box_below w1 (.cells #[.int .i64 R, .int .i64 C, .slice (some ⟨g, 0, none⟩) n gc] 24)))
  have F0 : Fills (w1.alloc (.cells #[.int .i64 R, .int .i64 C, .slice (some ⟨g, 0, none⟩) n gc] 24)) g gc n (fun _ => 0) (w1.alloc (.cells #[.int .i64 R, .int .i64 C, .slice (some ⟨g, 0, none⟩) n gc] 24)) := Fills.start (hown.alloc _)
  have hgw : w.heap.size ≤ g := Nat.le_trans bq.size hgW
  obtain ⟨V, hV⟩ : ∃ V, w1.alloc (.cells #[.int .i64 R, .int .i64 C, .slice (some ⟨g, 0, none⟩) n gc] 24) = V := ⟨_, rfl⟩
  rw [hV] at y1 y0 y2 y3 bw F0 ⊢
  have gx1 := F0.apart y1
  have gx0 := F0.apart y0
  have gx2 := F0.apart y2
  have gx3 := F0.apart y3
  clear hV hW x1 x0 x2 hown b1 bq hno
  go_loopw [8, 9] (fun m i wr => ∃ k : Nat, k ≤ n ∧ i = .int .i64 k ∧ m = .bool (anyB (fun p => subB (ge xs p) (ge ys p)) k) ∧ Fills V g gc n (upto (fun p => sub (ge xs p) (ge ys p)) k) wr) (fun _ i _ => n - (intOf i).toNat)
  case atStart => exact ⟨0, Nat.zero_le _, rfl, rfl, F0.congr (upto_zero _ n)⟩
  case round =>
    clear F0
    obtain ⟨k, hk, rfl, rfl, hF⟩ := hrel
    obtain ⟨u0, u1, u2, _⟩ := mat_cells (hF.keep y1 gx1)
    obtain ⟨t0, t1, t2, _⟩ := mat_cells (hF.keep y0 gx0)
    obtain ⟨v0, v1, v2, _⟩ := mat_cells (hF.keep y3 gx3)
    by_cases hlt : k < n
    · have hc := hF.cell hlt
      have hf := hF.free k
      have HM : Hid (anyB (fun p => subB (ge xs p) (ge ys p)) (k + 1) = (anyB (fun p => subB (ge xs p) (ge ys p)) k || subB (ge xs k) (ge ys k))) := rfl
      have HF : ∀ m, Fills V g gc n _ _ := fun m => ((hF.drewN m).store k (sub (ge xs k) (ge ys k))).congr (upto_succ (fun p => sub (ge xs p) (ge ys p)) k n)
      obtain ⟨ad, rfl, ca⟩ := (hF.sees sa bw hgw).at k (by omega)
      obtain ⟨bd, rfl, cb⟩ := (hF.sees sb bw hgw).at k (by omega)
      obtain ⟨x, hx⟩ : ∃ x, ge xs k = x := ⟨_, rfl⟩
      obtain ⟨y, hy⟩ : ∃ y, ge ys k = y := ⟨_, rfl⟩
      obtain ⟨M, hM⟩ : ∃ M, anyB (fun p => subB (ge xs p) (ge ys p)) k = M := ⟨_, rfl⟩
      rw [hx, hy] at HM HF
      rw [hx] at ca
      rw [hy] at cb
      rw [hM] at HM ⊢
      clear hx hy hM hF
      cases M
      all_goals
        go_wp2
        go_quiet ((go_at_call 38; exact Calls.quiet_of_same (rsub_any _ _ _)))
        go_wp2
        go_roundw
        case rel => exact ⟨k + 1, by omega, by go_num, by rw [HM.out]; rfl, HF _⟩
        case measure => simp [intOf]; omega
    · have e : k = n := by omega
      subst e
      rw [HS.out]
      obtain ⟨d0, d1, d2, f0, f1, f2⟩ := mat_cells (hF.keep y2 gx2)
      have hsh := hF.shows
      rw [upto_all] at hsh
      have hbl := hF.below bw hgw
      clear hF
      go_wp2
      refine bodyPost_ret (v := .tuple #[.agg #[.int .i64 R, .int .i64 C, .slice (some ⟨g, 0, none⟩) k gc], .bool S, .int .i64 0]) (by simp [results, Try.results15, go_sem, d0, d1, d2]) rfl ?_
      exact ⟨_, rfl, hsh.put (new_at g k gc) hDg _ _ _, (new_at g k gc).mono hgw, below_put hbl (by omega) _ _ _⟩

set_option maxRecDepth 20000 in
set_option maxHeartbeats 400000 in
theorem rsub_not (R C R' C' : Int) (h : ¬ (R = R' ∧ C = C')) (va vb : Value) (xs ys : List Int) (w : World) (sa : Sees w va xs) (sb : Sees w vb ys) :
    Calls Try.prog 15 #[.agg #[.int .i64 R, .int .i64 C, va], .agg #[.int .i64 R', .int .i64 C', vb]] w fun e b =>
      e = .returned (.tuple #[.agg #[.int .i64 0, .int .i64 0, .slice none 0 0], .bool false, .int .i64 9]) ∧ Below w.heap.size w b := by
  obtain ⟨ao, cap, rfl⟩ := sa.slice
  obtain ⟨bo, bcap, rfl⟩ := sb.slice
  clear sa sb
  have b0 := ball3 w (.cells #[.int .i64 R, .int .i64 C, .slice ao xs.length cap] 24) (.cells #[.int .i64 R', .int .i64 C', .slice bo ys.length bcap] 24) (.cells #[.int .i64 0, .int .i64 0, .slice none 0 0] 24)
  by_cases hr : R = R'
  · subst hr
    have hc : ¬ (C = C') := fun e => h ⟨rfl, e⟩
    have hc' : (C == C') = false := by simpa using hc
    clear h
    go_enter Try.func15, Try.ntmps15
    go_wp2
    refine bodyPost_ret (v := .tuple #[.agg #[.int .i64 0, .int .i64 0, .slice none 0 0], .bool false, .int .i64 9]) (by simp [results, Try.results15, go_sem]) rfl ?_
    exact ⟨rfl, b0⟩
  · have hc' : (R == R') = false := by simpa using hr
    clear h
    go_enter Try.func15, Try.ntmps15
    go_wp2
    refine bodyPost_ret (v := .tuple #[.agg #[.int .i64 0, .int .i64 0, .slice none 0 0], .bool false, .int .i64 9]) (by simp [results, Try.results15, go_sem]) rfl ?_
    exact ⟨rfl, b0⟩
end Go.Proofs.Yteohdhmimpajmaa
