/- Parts of the proof. -/
import Derived.Deep.DeepMust
import Derived.Test.YtoefekkdjcflmaaGreatDoorM12
namespace Go.Proofs.YtoefekkdjcflmaaGreatDoor.Et
open Go.RowKit Go.Sort Go.Proofs.YtoefekkdjcflmaaGreatDoor.Qm
theorem sees_row {w : World} {b : Nat} {cs : Array Value} {t : TypeId} {xs : List Int} (h : w.heap[b]? = some (.cells cs t (0, 0))) (hc : cs = (xs.map (Value.int .i64)).toArray) : Sees w (.slice (some ⟨b, 0, none⟩) xs.length xs.length) xs := by
  refine ⟨_, ⟨_, Nat.le_refl _⟩, rfl, fun k hk => ⟨_, rfl, lt_of_block h, ?_⟩⟩
  subst hc
  rcases Nat.eq_zero_or_pos k with rfl | hpos
  · simp [World.cell?, h, Addr.add, ge, hk]
  · simp [World.cell?, h, Addr.add, ge, hk, Nat.ne_of_gt hpos]
set_option maxHeartbeats 1000000 in
theorem keep_any (W : Nat) (b : Bool) (s : Sg) (w : World) (h : St w W s) :
    Calls Tryz.prog 61 #[.pointer (some ⟨W, 0, none⟩), .bool b] w fun e w' => e = .returned (.tuple #[]) ∧ St w' W { s with sat := s.sat || b } ∧ Mod (fun b => b = W) w w' := by
  obtain ⟨f, hf⟩ := h
  have c47 := hf.wk.cell (k := 47) (by decide) hf.sat
  have f47 := hf.wk.frozen 47
  have hs := fun b' => (⟨_, hf.setSat b'⟩ : St (w.setCell ⟨W, 47, none⟩ (.bool b')) W { s with sat := b' })
  clear hf
  cases hsat : s.sat
  all_goals
    rw [hsat] at c47
    clear hsat
    simp only [Bool.false_or, Bool.true_or]
    go_enter Tryz.func61, Tryz.ntmps61
    go_wp2
    refine bodyPost_end (v := .tuple #[]) (by simp [results, Tryz.results61, go_sem]) rfl ?_
    exact ⟨rfl, hs _, mod_set⟩
def onE (n : Int) (b : Bool) : Int := if b then (if n + 1 ≤ 1000 then n + 1 else 1000) else 0
set_option maxHeartbeats 1000000 in
theorem onEnd_any (n : Int) (b : Bool) (w : World) (h0 : 0 ≤ n) (h1 : n ≤ 1000) :
    Calls Tryz.prog 70 #[.int .i64 n, .bool b] w fun e w' => e = .returned (.int .i64 (onE n b)) ∧ w' = w := by
  unfold onE
  cases b
  · simp only [Bool.false_eq_true, if_false]
    go_enter Tryz.func70, Tryz.ntmps70
    go_wp2
    go_ret
    exact ⟨rfl, rfl⟩
  · simp only [if_true]
    have hw : IntKind.i64.wrap (n + 1) = n + 1 := wrap_in (by omega) (by omega)
    by_cases hn : n + 1 ≤ 1000
    · rw [if_pos hn]
      go_enter Tryz.func70, Tryz.ntmps70
      go_wp2
      go_ret
      exact ⟨rfl, rfl⟩
    · rw [if_neg hn]
      go_enter Tryz.func70, Tryz.ntmps70
      go_wp2
      go_ret
      exact ⟨rfl, rfl⟩
def fmL (d : Int) : List Int := [16777216, d, 0, 0, 16777216, -d, 0, 0, 16777216]
set_option maxHeartbeats 1000000 in
theorem motion_any (W : Nat) (s : Sg) (w : World) (h : St w W s) (d0 : 1 ≤ s.c 0) (d1 : s.c 0 ≤ 17179869184) :
    Calls Tryz.prog 65 #[.pointer (some ⟨W, 0, none⟩)] w fun e w' => ∃ v, e = .returned (.agg #[.int .i64 3, .int .i64 3, v]) ∧ Sees w' v (fmL (s.c 0)) ∧ New w.heap.size v ∧ Below w.heap.size w w' := by
  obtain ⟨f, hf⟩ := h
  have c0 := hf.wk.cell (k := 0) (by decide) (hf.c 0 (by decide))
  have hl := hf.wk.lt
  clear hf
  obtain ⟨d, hd⟩ : ∃ d, s.c 0 = d := ⟨_, rfl⟩
  rw [hd] at c0 d0 d1 ⊢
  clear hd
  have c0' : (w.alloc (.cells #[.int .i64 0, .int .i64 0, .slice none 0 0] 29)).cell? ⟨W, 0, none⟩ = some (.int .i64 d) := by
    rw [((Below.refl _ w).alloc (Nat.le_refl _) _).cell hl]; exact c0
  have hw : IntKind.i64.wrap (-d) = -d := wrap_in (by omega) (by omega)
  go_enter Tryz.func65, Tryz.ntmps65
  go_wp2
  refine bodyPost_ret (v := .agg #[.int .i64 3, .int .i64 3, .slice (some ⟨w.heap.size + 1, 0, none⟩) 9 9]) (by simp [results, Tryz.results65, go_sem]) rfl ?_
  exact ⟨_, rfl, sees_row (xs := fmL d) (allocs2 _ _ _).2 (by simp [fmL]), (new_at _ _ _).mono (by omega), ball2 _ _ _⟩
def couS (s : Sg) : Sg := { s with co := onE s.co s.ms, st := if s.st + 1 ≤ 1099511627776 then s.st + 1 else 1099511627776 }
set_option maxRecDepth 20000 in
set_option maxHeartbeats 1000000 in
theorem count_any (W : Nat) (s : Sg) (w : World) (h : St w W s) (h0 : 0 ≤ s.co) (h1 : s.co ≤ 1000) (h2 : 0 ≤ s.st) (h3 : s.st ≤ 1099511627776) :
    Calls Tryz.prog 33 #[.pointer (some ⟨W, 0, none⟩)] w fun e w' => e = .returned (.tuple #[]) ∧ St w' W (couS s) ∧ Mod (fun b => b = W) w w' := by
  have m1 : Mod (fun b => b = W) w w.drew := Mod.of (Below.refl _ w).drew
  obtain ⟨f, hf⟩ := h
  have c42 := hf.wk.cell (k := 42) (by decide) hf.co
  have c6 := hf.wk.cell (k := 6) (by decide) hf.ms
  have hl := hf.wk.lt
  have f42 := hf.wk.frozen 42
  have c41 := hf.wk.cell (k := 41) (by decide) hf.st
  have f41 := hf.wk.frozen 41
  have hf2 := (hf.below (Below.refl _ w).drew).setCo (onE s.co s.ms)
  have HS : Hid (St _ W (couS s)) := ⟨_, hf2.setSt (if s.st + 1 ≤ 1099511627776 then s.st + 1 else 1099511627776)⟩
  clear hf hf2
  have hE := onEnd_any s.co s.ms w.drew h0 h1
  obtain ⟨c', hc'⟩ : ∃ c', onE s.co s.ms = c' := ⟨_, rfl⟩
  obtain ⟨st, hst⟩ : ∃ x, s.st = x := ⟨_, rfl⟩
  obtain ⟨co, hco⟩ : ∃ x, s.co = x := ⟨_, rfl⟩
  obtain ⟨ms, hms⟩ : ∃ x, s.ms = x := ⟨_, rfl⟩
  simp only [hc'] at HS hE
  simp only [hst] at c41 h2 h3 HS
  simp only [hco, hms] at c42 c6 hE
  have hw : IntKind.i64.wrap (st + 1) = st + 1 := wrap_in (by omega) (by omega)
  clear hc' hst hco hms h0 h1
  obtain ⟨n1, hn1⟩ : ∃ n1, n1 = if st + 1 ≤ 1099511627776 then st + 1 else 1099511627776 := ⟨_, rfl⟩
  rw [← hn1] at HS
  by_cases hn : st + 1 ≤ 1099511627776
  all_goals
    first | rw [if_pos hn] at hn1 | rw [if_neg hn] at hn1
    subst hn1
    go_enter Tryz.func33, Tryz.ntmps33
    go_wp2
    refine wp_region_still_tail 15 (by kernel_rfl) (by kernel_rfl) ?_
    simp only [List.take_succ_cons, List.take_zero, List.drop_succ_cons, List.drop_zero]
    repeat (first | still_step | still_call hE)
    refine wpStill_nil ?_
    change wpList Tryz.prog _ _ _ _ w.drew
    go_wp2
    refine bodyPost_end (v := .tuple #[]) (by simp [results, Tryz.results33, go_sem]) rfl ?_
    exact ⟨rfl, HS.out, (m1.trans mod_set).trans mod_set⟩
def cfB (x : Int) : Bool := decide (x ≤ 0) || decide (17179869184 < x)
def cnB (m x : Int) : Bool := decide (x < 0) || decide (m < x)
theorem may1_any (x : Int) (w : World) : Calls Tryz.prog 42 #[.int .i64 x] w fun e w' => e = .returned (.bool (cfB x)) ∧ w' = w := by
  unfold cfB
  cases h : decide (x ≤ 0)
  all_goals
    go_enter Tryz.func42, Tryz.ntmps42
    go_wp2
    go_ret
    simp
theorem cnt1_any (x m : Int) (B : Nat) (w : World) (hB : w.cell? ⟨B, 0, none⟩ = some (.int .i64 m)) : Calls Tryz.prog 45 #[.int .i64 x, .pointer (some ⟨B, 0, none⟩)] w fun e w' => e = .returned (.bool (cnB m x)) ∧ w' = w := by
  unfold cnB
  cases h : decide (x < 0)
  all_goals
    go_enter Tryz.func45, Tryz.ntmps45
    go_wp2
    go_ret
    simp
set_option maxHeartbeats 400000 in
theorem mayIndex_any (v : Value) (xs : List Int) (w : World) (hn : xs.length ≤ 100) (hs : Sees w v xs) :
    Calls Tryz.prog 87 #[v, .func (.func 42) #[] #[]] w fun e w' => ∃ r, e = .returned (.int .i64 r) ∧ decide (0 ≤ r) = anyB (fun k => cfB (ge xs k)) xs.length ∧ w' = w := by
  obtain ⟨ao, cap, rfl, hcell⟩ := hs
  obtain ⟨n, hn'⟩ : ∃ n, xs.length = n := ⟨_, rfl⟩
  rw [hn'] at hn hcell ⊢
  have HN : Hid (xs.length = n) := hn'
  clear hn'
  go_enter Tryz.func87, Tryz.ntmps87
  go_wp2
  go_loop [8] (fun i => ∃ k : Nat, k ≤ n ∧ i = .int .i64 k ∧ Hid (anyB (fun k => cfB (ge xs k)) k = false)) (fun i => n - (intOf i).toNat)
  case atStart => exact ⟨0, Nat.zero_le _, rfl, rfl⟩
  case round =>
    obtain ⟨k, hk, rfl, hno⟩ := hrel
    by_cases hlt : k < n
    · obtain ⟨ad, rfl, _, hc⟩ := hcell k hlt
      cases ho : cfB (ge xs k) with
      | true =>
        have hcall := may1_any (ge xs k) w
        rw [ho] at hcall
        go_wp2_with (refine Calls.mono hcall ?_; rintro e w' ⟨rfl, rfl⟩)
        go_ret
        exact ⟨_, rfl, by rw [show anyB (fun k => cfB (ge xs k)) n = true from anyB_hit hlt ho]; simp, rfl⟩
      | false =>
        have hcall := may1_any (ge xs k) w
        rw [ho] at hcall
        go_wp2_with (refine Calls.mono hcall ?_; rintro e w' ⟨rfl, rfl⟩)
        go_round
        case rel => exact ⟨k + 1, by omega, by go_num, by show anyB (fun k => cfB (ge xs k)) (k + 1) = false; rw [anyB, ho]; have := hno.out; rw [this]; rfl⟩
        case measure => simp [intOf]; omega
    · have e : k = n := by omega
      subst e
      go_wp2
      go_ret
      exact ⟨-1, rfl, by rw [hno.out]; rfl, rfl⟩
theorem mayContains_any (v : Value) (xs : List Int) (w : World) (hn : xs.length ≤ 100) (hs : Sees w v xs) :
    Calls Tryz.prog 41 #[v, .func (.func 42) #[] #[]] w fun e w' => e = .returned (.bool (anyB (fun k => cfB (ge xs k)) xs.length)) ∧ w' = w := by
  have hi := mayIndex_any v xs w hn hs
  obtain ⟨A, hA⟩ : ∃ A, anyB (fun k => cfB (ge xs k)) xs.length = A := ⟨_, rfl⟩
  rw [hA] at hi ⊢
  go_enter Tryz.func41, Tryz.ntmps41
  go_wp2_with (go_at_call 87; refine hi.mono ?_; rintro e w' ⟨r, rfl, hr, rfl⟩)
  go_ret
  exact ⟨rfl, rfl⟩
set_option maxHeartbeats 400000 in
theorem cntIndex_any (m : Int) (B : Nat) (v : Value) (xs : List Int) (w : World) (hn : xs.length ≤ 100) (hs : Sees w v xs) (hB : w.cell? ⟨B, 0, none⟩ = some (.int .i64 m)) :
    Calls Tryz.prog 88 #[v, .func (.func 45) #[] #[.pointer (some ⟨B, 0, none⟩)]] w fun e w' => ∃ r, e = .returned (.int .i64 r) ∧ decide (0 ≤ r) = anyB (fun k => cnB m (ge xs k)) xs.length ∧ w' = w := by
  obtain ⟨ao, cap, rfl, hcell⟩ := hs
  obtain ⟨n, hn'⟩ : ∃ n, xs.length = n := ⟨_, rfl⟩
  rw [hn'] at hn hcell ⊢
  have HN : Hid (xs.length = n) := hn'
  clear hn'
  go_enter Tryz.func88, Tryz.ntmps88
  go_wp2
  go_loop [8] (fun i => ∃ k : Nat, k ≤ n ∧ i = .int .i64 k ∧ Hid (anyB (fun k => cnB m (ge xs k)) k = false)) (fun i => n - (intOf i).toNat)
  case atStart => exact ⟨0, Nat.zero_le _, rfl, rfl⟩
  case round =>
    obtain ⟨k, hk, rfl, hno⟩ := hrel
    by_cases hlt : k < n
    · obtain ⟨ad, rfl, _, hc⟩ := hcell k hlt
      cases ho : cnB m (ge xs k) with
      | true =>
        have hcall := cnt1_any (ge xs k) m B w hB
        rw [ho] at hcall
        go_wp2_with (refine Calls.mono hcall ?_; rintro e w' ⟨rfl, rfl⟩)
        go_ret
        exact ⟨_, rfl, by rw [show anyB (fun k => cnB m (ge xs k)) n = true from anyB_hit hlt ho]; simp, rfl⟩
      | false =>
        have hcall := cnt1_any (ge xs k) m B w hB
        rw [ho] at hcall
        go_wp2_with (refine Calls.mono hcall ?_; rintro e w' ⟨rfl, rfl⟩)
        go_round
        case rel => exact ⟨k + 1, by omega, by go_num, by show anyB (fun k => cnB m (ge xs k)) (k + 1) = false; rw [anyB, ho]; have := hno.out; rw [this]; rfl⟩
        case measure => simp [intOf]; omega
    · have e : k = n := by omega
      subst e
      go_wp2
      go_ret
      exact ⟨-1, rfl, by rw [hno.out]; rfl, rfl⟩
theorem cntContains_any (m : Int) (B : Nat) (v : Value) (xs : List Int) (w : World) (hn : xs.length ≤ 100) (hs : Sees w v xs) (hB : w.cell? ⟨B, 0, none⟩ = some (.int .i64 m)) :
    Calls Tryz.prog 44 #[v, .func (.func 45) #[] #[.pointer (some ⟨B, 0, none⟩)]] w fun e w' => e = .returned (.bool (anyB (fun k => cnB m (ge xs k)) xs.length)) ∧ w' = w := by
  have hi := cntIndex_any m B v xs w hn hs hB
  obtain ⟨A, hA⟩ : ∃ A, anyB (fun k => cnB m (ge xs k)) xs.length = A := ⟨_, rfl⟩
  rw [hA] at hi ⊢
  go_enter Tryz.func44, Tryz.ntmps44
  go_wp2_with (go_at_call 88; refine hi.mono ?_; rintro e w' ⟨r, rfl, hr, rfl⟩)
  go_ret
  exact ⟨rfl, rfl⟩
def mayB (c : Nat → Int) : Bool := !anyB (fun k => cfB (c k)) 6
set_option maxHeartbeats 1000000 in
theorem may_any (c : Nat → Int) (w : World) : Calls Tryz.prog 19 #[.agg #[.int .i64 (c 0), .int .i64 (c 1), .int .i64 (c 2), .int .i64 (c 3), .int .i64 (c 4), .int .i64 (c 5)]] w fun e w' => e = .returned (.bool (mayB c)) ∧ Below w.heap.size w w' := by
  have g2 := (allocs2 w (.cells #[.int .i64 (c 0), .int .i64 (c 1), .int .i64 (c 2), .int .i64 (c 3), .int .i64 (c 4), .int .i64 (c 5)] 24) (.cells #[.int .i64 (c 0), .int .i64 (c 1), .int .i64 (c 2), .int .i64 (c 3), .int .i64 (c 4), .int .i64 (c 5)] 22)).2
  have bW := ball2 w (.cells #[.int .i64 (c 0), .int .i64 (c 1), .int .i64 (c 2), .int .i64 (c 3), .int .i64 (c 4), .int .i64 (c 5)] 24) (.cells #[.int .i64 (c 0), .int .i64 (c 1), .int .i64 (c 2), .int .i64 (c 3), .int .i64 (c 4), .int .i64 (c 5)] 22)
  have hs := sees_row (xs := [c 0, c 1, c 2, c 3, c 4, c 5]) g2 (by simp)
  have hC := mayContains_any _ _ _ (by simp) hs
  have e : anyB (fun k => cfB (ge [c 0, c 1, c 2, c 3, c 4, c 5] k)) ([c 0, c 1, c 2, c 3, c 4, c 5] : List Int).length = anyB (fun k => cfB (c k)) 6 := rfl
  rw [e] at hC
  unfold mayB
  obtain ⟨A, hA⟩ : ∃ A, anyB (fun k => cfB (c k)) 6 = A := ⟨_, rfl⟩
  rw [hA] at hC ⊢
  clear hA e hs g2
  go_enter Tryz.func19, Tryz.ntmps19
  go_wp2_with (go_at_call 41; go_must (refine hC.mono ?_); rintro e w' ⟨rfl, rfl⟩)
  go_ret
  exact ⟨rfl, bW⟩
theorem cfB_false {x : Int} (h : cfB x = false) : 1 ≤ x ∧ x ≤ 17179869184 := by
  unfold cfB at h
  simp only [Bool.or_eq_false_iff, decide_eq_false_iff_not] at h
  omega
theorem mayB_bd {c : Nat → Int} (h : mayB c = true) (k : Nat) (hk : k < 6) : 1 ≤ c k ∧ c k ≤ 17179869184 := by
  refine cfB_false ?_
  cases hb : cfB (c k) with
  | false => rfl
  | true =>
    have : anyB (fun k => cfB (c k)) 6 = true := anyB_hit hk hb
    unfold mayB at h
    rw [this] at h; cases h
set_option maxHeartbeats 1000000 in
theorem upTo_any (m : Int) (v : Value) (xs : List Int) (w : World) (hn : xs.length ≤ 100) (hs : Sees w v xs) :
    Calls Tryz.prog 43 #[.int .i64 m, v] w fun e w' => e = .returned (.bool (!anyB (fun k => cnB m (ge xs k)) xs.length)) ∧ Below w.heap.size w w' := by
  have g1 := heap_new w (.cells #[.int .i64 m] 3)
  have bW := box_below w (.cells #[.int .i64 m] 3)
  have hC := cntContains_any m w.heap.size v xs _ hn (hs.below bW) (by simp only [World.cell?, g1]; rfl)
  obtain ⟨A, hA⟩ : ∃ A, anyB (fun k => cnB m (ge xs k)) xs.length = A := ⟨_, rfl⟩
  rw [hA] at hC ⊢
  clear hA g1
  go_enter Tryz.func43, Tryz.ntmps43
  go_wp2_with (go_at_call 44; go_must (refine hC.mono ?_); rintro e w' ⟨rfl, rfl⟩)
  go_ret
  exact ⟨rfl, bW⟩
end Go.Proofs.YtoefekkdjcflmaaGreatDoor.Et
namespace Go.Proofs.YtoefekkdjcflmaaGreatDoor
open Go.RowKit Go.Sort Qm
theorem RkI.imp {w wr : World} {N : Nat} {m : Bool} {r c : Nat} {xs : List Int} {f g : Prop} (h : RkI w N m r c xs f wr) (hg : g → f) : RkI w N m r c xs g wr := by
  obtain ⟨h1, h2, h3, h4, ao, cap, h5, h6, h7⟩ := h
  exact ⟨h1, h2, h3, h4, ao, cap, h5, h6, fun b hb => ⟨(h7 b hb).1, (h7 b hb).2.1, (h7 b hb).2.2.1, (h7 b hb).2.2.2.1, fun x => (h7 b hb).2.2.2.2 (hg x)⟩⟩
theorem RkI.ends {w wr : World} {N : Nat} {m : Bool} {r c : Nat} {xs ys : List Int} {f : Prop} {v : Value} (hNw : N < w.heap.size) (h : RkI w N m r c xs f wr) (hs : Sees wr v ys) (hv : ∀ b, v.ownBlock = some b → b ≠ w.heap.size + 1) (x y z : Value) :
    Sees (((wr.setCell ⟨w.heap.size + 1, 0, none⟩ x).setCell ⟨w.heap.size + 1, 1, none⟩ y).setCell ⟨w.heap.size + 1, 2, none⟩ z) v ys ∧
    (((wr.setCell ⟨w.heap.size + 1, 0, none⟩ x).setCell ⟨w.heap.size + 1, 1, none⟩ y).setCell ⟨w.heap.size + 1, 2, none⟩ z).heap[N]? = some (.cells #[.bool m, .int .i64 0] 141 (0, 0)) ∧
    w.grownBy (((wr.setCell ⟨w.heap.size + 1, 0, none⟩ x).setCell ⟨w.heap.size + 1, 1, none⟩ y).setCell ⟨w.heap.size + 1, 2, none⟩ z) (some N) := by
  have hsz : wr.heap.size ≤ (((wr.setCell ⟨w.heap.size + 1, 0, none⟩ x).setCell ⟨w.heap.size + 1, 1, none⟩ y).setCell ⟨w.heap.size + 1, 2, none⟩ z).heap.size := by simp [World.setCell]
  have hoff : ∀ k, k ≠ w.heap.size + 1 → (((wr.setCell ⟨w.heap.size + 1, 0, none⟩ x).setCell ⟨w.heap.size + 1, 1, none⟩ y).setCell ⟨w.heap.size + 1, 2, none⟩ z).heap[k]? = wr.heap[k]? := by
    intro k hk
    rw [Below.heap_setCell _ _ _ _ hk, Below.heap_setCell _ _ _ _ hk, Below.heap_setCell _ _ _ _ hk]
  refine ⟨hs.agree hsz fun k hk => hoff k (hv k hk), (hoff N (by omega)).trans h.note, ?_⟩
  have g := h.mod
  exact ⟨g.os, g.tape, g.output, Nat.le_trans g.size hsz, fun k hk hn => by rw [hoff k (by omega)]; exact g.block k hk fun e => hn (by rw [e])⟩
set_option maxRecDepth 20000 in
set_option maxHeartbeats 1600000 in
theorem kreck_any (k : Nat) (hk8 : k ≤ 8) (R C : Nat → Nat) (xs : Nat → List Int) (mb : Nat → Bool) (N : Nat) (m0 : Bool) (w : World) (F : Nat → Nat) (caps : Nat → Array Value) (bS : Nat) (sl : Value)
    (hN : w.heap[N]? = some (.cells #[.bool m0, .int .i64 0] 141 (0, 0))) (hst : ∀ i, i < k → w.cell? ⟨bS, i, none⟩ = some (.func (.func (F i)) #[] (caps i))) (hbN : bS ≠ N) (hbw : bS < w.heap.size)
    (hF : ∀ i, i < k → ∀ (args : Array Value) (a : World), Sem.run Tryz.prog (callFunc (F i) args) a = Result.ok (Next.enter (F i) args) a)
    (hcall : ∀ i, i < k → ∀ w', Mod (fun b => b = N) w w' → ∀ s, Sees w' s (xs i) → Calls Tryz.prog (F i) (#[.agg #[.int .i64 (R i), .int .i64 (C i), s]] ++ caps i) w' fun e b => ∃ s', e = .returned (.tuple #[.agg #[.int .i64 (R (i + 1)), .int .i64 (C (i + 1)), s'], .bool (mb i), .int .i64 0]) ∧ Sees b s' (xs (i + 1)) ∧ New w'.heap.size s' ∧ Below w'.heap.size w' b)
    (hpos : ∀ i, i ≤ k → 0 < (xs i).length) (hs : Sees w sl (xs 0)) (hne : ∀ b, sl.ownBlock = some b → b ≠ N) :
    Calls Tryz.prog 111 #[.func (.func 112) #[.pointer (some ⟨N, 0, none⟩)] #[], .agg #[.int .i64 (R 0), .int .i64 (C 0), sl], .slice (some ⟨bS, 0, none⟩) k k] w fun e b => ∃ s', e = .returned (.agg #[.int .i64 (R k), .int .i64 (C k), s']) ∧ Sees b s' (xs k) ∧ (0 < k → New w.heap.size s') ∧
      b.heap[N]? = some (.cells #[.bool (m0 || anyB mb k), .int .i64 0] 141 (0, 0)) ∧ w.grownBy b (some N) := by
  have hlt := hs.lt (hpos 0 (Nat.zero_le _))
  obtain ⟨ao, cap, rfl⟩ := hs.slice
  have hNw : N < w.heap.size := lt_of_block hN
  have H0 : RkI w N m0 (R 0) (C 0) (xs 0) False _ := RkI.start (r := R 0) (c := C 0) hN hs fun b hb => ⟨hne b hb, hlt b hb⟩
  clear hs hne hlt hN
  have HE := enters_keep
  obtain ⟨W, hW⟩ : ∃ W, (w.alloc (.cells #[.int .i64 (R 0), .int .i64 (C 0), .slice ao (xs 0).length cap] 29)).alloc (.cells #[.int .i64 0, .int .i64 0, .slice none 0 0] 29) = W := ⟨_, rfl⟩
  rw [hW] at H0
  go_enter Tryz.func111, Tryz.ntmps111
  go_wp2
  go_loopw [14] (fun i wr => ∃ a : Nat, a ≤ k ∧ i = .int .i64 a ∧ RkI w N (m0 || anyB mb a) (R a) (C a) (xs a) (0 < a) wr) (fun i _ => k - (intOf i).toNat)
  case atStart => exact ⟨0, Nat.zero_le _, rfl, by simpa [anyB] using H0⟩
  case round =>
    clear H0 hW
    obtain ⟨i, hi, rfl, hI⟩ := hrel
    obtain ⟨ro, rc, hm, hsee, hbl⟩ := hI.mat
    obtain ⟨d0, d1, d2, _⟩ := mat_cells hm
    by_cases hlt : i < k
    · have hci : wr.cell? ⟨bS, i, none⟩ = some (.func (.func (F i)) #[] (caps i)) := by
        rw [World.cell?_of_block (w := w) (hI.mod.block bS hbw hbN)]; exact hst i hlt
      have hFi := hF i hlt
      have hc1 := hcall i hlt wr hI.mod _ hsee
      have hp1 := hpos (i + 1) (by omega)
      have hI' : Hid (RkI w N (m0 || anyB mb i) (R i) (C i) (xs i) (0 < i) wr) := hI
      have hnote := hI.note
      obtain ⟨m, hm1⟩ : ∃ m, (m0 || anyB mb i) = m := ⟨_, rfl⟩
      have hm2 : (m0 || anyB mb (i + 1)) = (m || mb i) := by rw [← hm1]; simp [anyB, Bool.or_assoc]
      rw [hm1] at hnote hI'
      clear hI hcall hF hst hbl
      go_wp2_with (first
        | (have _ := bb; go_at_call 112; refine (keep_any N m (mb i) _ (heap_old (keep bb hnote) _)).mono ?_; rintro e wc ⟨rfl, hn2, hg2⟩; have hmc := (Mod.ofGb hg2).block wb.heap.size (by simp) (by have := lt_of_block hnote; have := bb.size; omega); rw [heap_new] at hmc; obtain ⟨g0, g1, g2, _⟩ := mat_cells hmc; have hST := RkI.step (r' := R (i + 1)) (c' := C (i + 1)) hNw hI'.out bb sb nb (fun b hb => sb.lt hp1 b hb) hg2 hn2; have hold := (bt bb (box_below wb (.cells #[.int .i64 (R (i + 1)), .int .i64 (C (i + 1)), .slice bo (xs (i + 1)).length bc] 29))); have hmw := ((Mod.of hold).trans (Mod.ofGb hg2)).block w.heap.size (lt_of_block hm) (by omega); rw [hm] at hmw; obtain ⟨l0, l1, l2, k0, k1, k2⟩ := mat_cells hmw)
        | (refine Calls.mono hc1 ?_; rintro e wb ⟨sb', rfl, sb, nb, bb⟩; obtain ⟨bo, bc, rfl⟩ := sb.slice))
      go_roundw
      case rel => exact ⟨i + 1, by omega, by go_num, by rw [hm2]; exact hST.imp (fun _ => trivial)⟩
      case measure => simp [intOf]; omega
    · have e : i = k := by omega
      subst e
      obtain ⟨o0, o1, o2, f0, f1, f2⟩ := mat_cells hI.out
      have HE2 := hI.ends hNw hsee (fun b hb => (hbl b hb).2.2.1) (.int .i64 (R i)) (.int .i64 (C i)) (.slice ro (xs i).length rc)
      have HN2 : 0 < i → New w.heap.size (.slice ro (xs i).length rc) := fun h0 b hb => (hbl b hb).2.2.2.2 h0
      clear hI
      go_wp2
      refine bodyPost_ret (v := .agg #[.int .i64 (R i), .int .i64 (C i), .slice ro (xs i).length rc]) (by simp [results, Tryz.results111, go_sem, o0, o1, o2]) rfl ?_
      exact ⟨_, rfl, HE2.1, HN2, HE2.2⟩
theorem enters_left : ∀ (args : Array Value) (a : World), Sem.run Tryz.prog (callFunc 156 args) a = Result.ok (Next.enter 156 args) a := by
  intro args a
  simp [callFunc, Tryz.func156, go_sem]
  rfl
set_option maxRecDepth 20000 in
set_option maxHeartbeats 800000 in
theorem left1_any (R N C : Nat) (r1 : 1 ≤ R) (hR : R ≤ 8) (n1 : 1 ≤ N) (hN : N ≤ 8) (c1 : 1 ≤ C) (hC : C ≤ 8) (A : Nat) (va vm : Value) (xs ys : List Int) (hx : xs.length = R * N) (hy : ys.length = N * C) (w : World) (hA : w.heap[A]? = some (.cells #[.int .i64 R, .int .i64 N, va] 29 (0, 0))) (sa : Sees w va xs) (sm : Sees w vm ys) :
    Calls Tryz.prog 156 #[.agg #[.int .i64 N, .int .i64 C, vm], .pointer (some ⟨A, 0, none⟩)] w fun e b => ∃ s', e = .returned (.tuple #[.agg #[.int .i64 R, .int .i64 C, s'], .bool (prdB R N C xs ys), .int .i64 0]) ∧ Sees b s' (prd R N C xs ys) ∧ New w.heap.size s' ∧ Below w.heap.size w b := by
  obtain ⟨ao, acap, rfl⟩ := sa.slice
  obtain ⟨mo, mcap, rfl⟩ := sm.slice
  obtain ⟨W, hW⟩ : ∃ W, (w.alloc (.cells #[.int .i64 N, .int .i64 C, .slice mo ys.length mcap] 29)).alloc (.cells #[.int .i64 0, .int .i64 0, .slice none 0 0] 29) = W := ⟨_, rfl⟩
  obtain ⟨x1, x2⟩ := allocs2 w (.cells #[.int .i64 N, .int .i64 C, .slice mo ys.length mcap] 29) (.cells #[.int .i64 0, .int .i64 0, .slice none 0 0] 29)
  have bW := ball2 w (.cells #[.int .i64 N, .int .i64 C, .slice mo ys.length mcap] 29) (.cells #[.int .i64 0, .int .i64 0, .slice none 0 0] 29)
  rw [hW] at x1 x2 bW
  obtain ⟨c0, c1', c2, _⟩ := mat_cells (keep bW hA)
  obtain ⟨d0, d1, d2, _⟩ := mat_cells x1
  have k1 := (mul_mat R N C r1 hR n1 hN c1 hC _ _ xs ys hx hy W (sa.below bW) (sm.below bW))
  have HW : Hid (_ = W) := hW
  have HWs : Hid (w.heap.size + 2 = W.heap.size) := by rw [← hW]; simp [Hid]
  generalize prd R N C xs ys = zs at k1 ⊢
  generalize prdB R N C xs ys = fl at k1 ⊢
  clear hx hy
  go_enter Tryz.func156, Tryz.ntmps156
  go_wp2_with (go_at_call 157; refine k1.mono ?_; rintro e wx ⟨vx, rfl, sx, nx, bx⟩; obtain ⟨xo, xc, rfl⟩ := sx.slice; obtain ⟨e0, e1, e2, f0, f1, f2⟩ := mat_cells (keep bx x2))
  refine bodyPost_ret (v := .tuple #[.agg #[.int .i64 R, .int .i64 C, .slice xo zs.length xc], .bool fl, .int .i64 0]) (by simp [results, Tryz.results156, go_sem, e0, e1, e2]) rfl ?_
  exact ⟨_, rfl, sx.put nx (lt_of_block x2) _ _ _, nx.mono bW.size, below_put (bt bW bx) (Nat.le_succ _) _ _ _⟩
theorem left_any (r c : Int) (ao : Option Addr) (n cap : Nat) (w : World) :
    Calls Tryz.prog 113 #[.agg #[.int .i64 r, .int .i64 c, .slice ao n cap]] w fun e b => e = .returned (.func (.func 156) #[] #[.pointer (some ⟨w.heap.size, 0, none⟩)]) ∧ b = w.alloc (.cells #[.int .i64 r, .int .i64 c, .slice ao n cap] 29) := by
  go_enter Tryz.func113, Tryz.ntmps113
  go_wp2
  go_ret
  exact ⟨rfl, rfl⟩
theorem enters_rght : ∀ (args : Array Value) (a : World), Sem.run Tryz.prog (callFunc 158 args) a = Result.ok (Next.enter 158 args) a := by
  intro args a
  simp [callFunc, Tryz.func158, go_sem]
  rfl
set_option maxRecDepth 20000 in
set_option maxHeartbeats 800000 in
theorem rght1_any (R N C : Nat) (r1 : 1 ≤ R) (hR : R ≤ 8) (n1 : 1 ≤ N) (hN : N ≤ 8) (c1 : 1 ≤ C) (hC : C ≤ 8) (A : Nat) (va vm : Value) (xs ys : List Int) (hx : xs.length = N * C) (hy : ys.length = R * N) (w : World) (hA : w.heap[A]? = some (.cells #[.int .i64 N, .int .i64 C, va] 29 (0, 0))) (sa : Sees w va xs) (sm : Sees w vm ys) :
    Calls Tryz.prog 158 #[.agg #[.int .i64 R, .int .i64 N, vm], .pointer (some ⟨A, 0, none⟩)] w fun e b => ∃ s', e = .returned (.tuple #[.agg #[.int .i64 R, .int .i64 C, s'], .bool (prdB R N C ys xs), .int .i64 0]) ∧ Sees b s' (prd R N C ys xs) ∧ New w.heap.size s' ∧ Below w.heap.size w b := by
  obtain ⟨ao, acap, rfl⟩ := sa.slice
  obtain ⟨mo, mcap, rfl⟩ := sm.slice
  obtain ⟨W, hW⟩ : ∃ W, (w.alloc (.cells #[.int .i64 R, .int .i64 N, .slice mo ys.length mcap] 29)).alloc (.cells #[.int .i64 0, .int .i64 0, .slice none 0 0] 29) = W := ⟨_, rfl⟩
  obtain ⟨x1, x2⟩ := allocs2 w (.cells #[.int .i64 R, .int .i64 N, .slice mo ys.length mcap] 29) (.cells #[.int .i64 0, .int .i64 0, .slice none 0 0] 29)
  have bW := ball2 w (.cells #[.int .i64 R, .int .i64 N, .slice mo ys.length mcap] 29) (.cells #[.int .i64 0, .int .i64 0, .slice none 0 0] 29)
  rw [hW] at x1 x2 bW
  obtain ⟨c0, c1', c2, _⟩ := mat_cells (keep bW hA)
  obtain ⟨d0, d1, d2, _⟩ := mat_cells x1
  have k1 := (mul_mat R N C r1 hR n1 hN c1 hC _ _ ys xs hy hx W (sm.below bW) (sa.below bW))
  have HW : Hid (_ = W) := hW
  have HWs : Hid (w.heap.size + 2 = W.heap.size) := by rw [← hW]; simp [Hid]
  generalize prd R N C ys xs = zs at k1 ⊢
  generalize prdB R N C ys xs = fl at k1 ⊢
  clear hx hy
  go_enter Tryz.func158, Tryz.ntmps158
  go_wp2_with (go_at_call 157; refine k1.mono ?_; rintro e wx ⟨vx, rfl, sx, nx, bx⟩; obtain ⟨xo, xc, rfl⟩ := sx.slice; obtain ⟨e0, e1, e2, f0, f1, f2⟩ := mat_cells (keep bx x2))
  refine bodyPost_ret (v := .tuple #[.agg #[.int .i64 R, .int .i64 C, .slice xo zs.length xc], .bool fl, .int .i64 0]) (by simp [results, Tryz.results158, go_sem, e0, e1, e2]) rfl ?_
  exact ⟨_, rfl, sx.put nx (lt_of_block x2) _ _ _, nx.mono bW.size, below_put (bt bW bx) (Nat.le_succ _) _ _ _⟩
theorem rght_any (r c : Int) (ao : Option Addr) (n cap : Nat) (w : World) :
    Calls Tryz.prog 114 #[.agg #[.int .i64 r, .int .i64 c, .slice ao n cap]] w fun e b => e = .returned (.func (.func 158) #[] #[.pointer (some ⟨w.heap.size, 0, none⟩)]) ∧ b = w.alloc (.cells #[.int .i64 r, .int .i64 c, .slice ao n cap] 29) := by
  go_enter Tryz.func114, Tryz.ntmps114
  go_wp2
  go_ret
  exact ⟨rfl, rfl⟩
theorem enters_plus : ∀ (args : Array Value) (a : World), Sem.run Tryz.prog (callFunc 164 args) a = Result.ok (Next.enter 164 args) a := by
  intro args a
  simp [callFunc, Tryz.func164, go_sem]
  rfl
set_option maxRecDepth 20000 in
set_option maxHeartbeats 800000 in
theorem plus1_any (R C : Nat) (r1 : 1 ≤ R) (hR : R ≤ 8) (c1 : 1 ≤ C) (hC : C ≤ 8) (A : Nat) (va vm : Value) (xs ys : List Int) (hx : xs.length = R * C) (hy : ys.length = R * C) (w : World) (hA : w.heap[A]? = some (.cells #[.int .i64 R, .int .i64 C, va] 29 (0, 0))) (sa : Sees w va xs) (sm : Sees w vm ys) :
    Calls Tryz.prog 164 #[.agg #[.int .i64 R, .int .i64 C, vm], .pointer (some ⟨A, 0, none⟩)] w fun e b => ∃ s', e = .returned (.tuple #[.agg #[.int .i64 R, .int .i64 C, s'], .bool (paiB addB xs ys), .int .i64 0]) ∧ Sees b s' (pai add xs ys) ∧ New w.heap.size s' ∧ Below w.heap.size w b := by
  obtain ⟨ao, acap, rfl⟩ := sa.slice
  obtain ⟨mo, mcap, rfl⟩ := sm.slice
  obtain ⟨W, hW⟩ : ∃ W, (w.alloc (.cells #[.int .i64 R, .int .i64 C, .slice mo ys.length mcap] 29)).alloc (.cells #[.int .i64 0, .int .i64 0, .slice none 0 0] 29) = W := ⟨_, rfl⟩
  obtain ⟨x1, x2⟩ := allocs2 w (.cells #[.int .i64 R, .int .i64 C, .slice mo ys.length mcap] 29) (.cells #[.int .i64 0, .int .i64 0, .slice none 0 0] 29)
  have bW := ball2 w (.cells #[.int .i64 R, .int .i64 C, .slice mo ys.length mcap] 29) (.cells #[.int .i64 0, .int .i64 0, .slice none 0 0] 29)
  rw [hW] at x1 x2 bW
  obtain ⟨c0, c1', c2, _⟩ := mat_cells (keep bW hA)
  obtain ⟨d0, d1, d2, _⟩ := mat_cells x1
  have k1 := (add_mat R C r1 hR c1 hC _ _ xs ys hx hy W (sa.below bW) (sm.below bW))
  have HW : Hid (_ = W) := hW
  have HWs : Hid (w.heap.size + 2 = W.heap.size) := by rw [← hW]; simp [Hid]
  generalize pai add xs ys = zs at k1 ⊢
  generalize paiB addB xs ys = fl at k1 ⊢
  clear hx hy
  go_enter Tryz.func164, Tryz.ntmps164
  go_wp2_with (go_at_call 165; refine k1.mono ?_; rintro e wx ⟨vx, rfl, sx, nx, bx⟩; obtain ⟨xo, xc, rfl⟩ := sx.slice; obtain ⟨e0, e1, e2, f0, f1, f2⟩ := mat_cells (keep bx x2))
  refine bodyPost_ret (v := .tuple #[.agg #[.int .i64 R, .int .i64 C, .slice xo zs.length xc], .bool fl, .int .i64 0]) (by simp [results, Tryz.results164, go_sem, e0, e1, e2]) rfl ?_
  exact ⟨_, rfl, sx.put nx (lt_of_block x2) _ _ _, nx.mono bW.size, below_put (bt bW bx) (Nat.le_succ _) _ _ _⟩
theorem plus_any (r c : Int) (ao : Option Addr) (n cap : Nat) (w : World) :
    Calls Tryz.prog 116 #[.agg #[.int .i64 r, .int .i64 c, .slice ao n cap]] w fun e b => e = .returned (.func (.func 164) #[] #[.pointer (some ⟨w.heap.size, 0, none⟩)]) ∧ b = w.alloc (.cells #[.int .i64 r, .int .i64 c, .slice ao n cap] 29) := by
  go_enter Tryz.func116, Tryz.ntmps116
  go_wp2
  go_ret
  exact ⟨rfl, rfl⟩
theorem enters_less : ∀ (args : Array Value) (a : World), Sem.run Tryz.prog (callFunc 199 args) a = Result.ok (Next.enter 199 args) a := by
  intro args a
  simp [callFunc, Tryz.func199, go_sem]
  rfl
set_option maxRecDepth 20000 in
set_option maxHeartbeats 800000 in
theorem less1_any (R C : Nat) (r1 : 1 ≤ R) (hR : R ≤ 8) (c1 : 1 ≤ C) (hC : C ≤ 8) (A : Nat) (va vm : Value) (xs ys : List Int) (hx : xs.length = R * C) (hy : ys.length = R * C) (w : World) (hA : w.heap[A]? = some (.cells #[.int .i64 R, .int .i64 C, va] 29 (0, 0))) (sa : Sees w va xs) (sm : Sees w vm ys) :
    Calls Tryz.prog 199 #[.agg #[.int .i64 R, .int .i64 C, vm], .pointer (some ⟨A, 0, none⟩)] w fun e b => ∃ s', e = .returned (.tuple #[.agg #[.int .i64 R, .int .i64 C, s'], .bool (paiB subB xs ys), .int .i64 0]) ∧ Sees b s' (pai sub xs ys) ∧ New w.heap.size s' ∧ Below w.heap.size w b := by
  obtain ⟨ao, acap, rfl⟩ := sa.slice
  obtain ⟨mo, mcap, rfl⟩ := sm.slice
  obtain ⟨W, hW⟩ : ∃ W, (w.alloc (.cells #[.int .i64 R, .int .i64 C, .slice mo ys.length mcap] 29)).alloc (.cells #[.int .i64 0, .int .i64 0, .slice none 0 0] 29) = W := ⟨_, rfl⟩
  obtain ⟨x1, x2⟩ := allocs2 w (.cells #[.int .i64 R, .int .i64 C, .slice mo ys.length mcap] 29) (.cells #[.int .i64 0, .int .i64 0, .slice none 0 0] 29)
  have bW := ball2 w (.cells #[.int .i64 R, .int .i64 C, .slice mo ys.length mcap] 29) (.cells #[.int .i64 0, .int .i64 0, .slice none 0 0] 29)
  rw [hW] at x1 x2 bW
  obtain ⟨c0, c1', c2, _⟩ := mat_cells (keep bW hA)
  obtain ⟨d0, d1, d2, _⟩ := mat_cells x1
  have k1 := (sub_mat R C r1 hR c1 hC _ _ xs ys hx hy W (sa.below bW) (sm.below bW))
  have HW : Hid (_ = W) := hW
  have HWs : Hid (w.heap.size + 2 = W.heap.size) := by rw [← hW]; simp [Hid]
  generalize pai sub xs ys = zs at k1 ⊢
  generalize paiB subB xs ys = fl at k1 ⊢
  clear hx hy
  go_enter Tryz.func199, Tryz.ntmps199
  go_wp2_with (go_at_call 200; refine k1.mono ?_; rintro e wx ⟨vx, rfl, sx, nx, bx⟩; obtain ⟨xo, xc, rfl⟩ := sx.slice; obtain ⟨e0, e1, e2, f0, f1, f2⟩ := mat_cells (keep bx x2))
  refine bodyPost_ret (v := .tuple #[.agg #[.int .i64 R, .int .i64 C, .slice xo zs.length xc], .bool fl, .int .i64 0]) (by simp [results, Tryz.results199, go_sem, e0, e1, e2]) rfl ?_
  exact ⟨_, rfl, sx.put nx (lt_of_block x2) _ _ _, nx.mono bW.size, below_put (bt bW bx) (Nat.le_succ _) _ _ _⟩
theorem less_any (r c : Int) (ao : Option Addr) (n cap : Nat) (w : World) :
    Calls Tryz.prog 191 #[.agg #[.int .i64 r, .int .i64 c, .slice ao n cap]] w fun e b => e = .returned (.func (.func 199) #[] #[.pointer (some ⟨w.heap.size, 0, none⟩)]) ∧ b = w.alloc (.cells #[.int .i64 r, .int .i64 c, .slice ao n cap] 29) := by
  go_enter Tryz.func191, Tryz.ntmps191
  go_wp2
  go_ret
  exact ⟨rfl, rfl⟩
end Go.Proofs.YtoefekkdjcflmaaGreatDoor

