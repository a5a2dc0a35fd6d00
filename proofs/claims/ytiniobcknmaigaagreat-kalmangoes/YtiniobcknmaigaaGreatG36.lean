/-
  Texts joined, in the order in which they stand on one another: KFact RSmT KBad.
-/
import Derived.Test.YtiniobcknmaigaaGreatG20
import Derived.Test.YtiniobcknmaigaaGreatG21
import Derived.Test.YtiniobcknmaigaaGreatG22
import Derived.Test.YtiniobcknmaigaaGreatG25
import Derived.Test.YtiniobcknmaigaaGreatG30
import Derived.Test.YtiniobcknmaigaaGreatG35
/-
  Plain facts of tracks: what is good is even, in bounds and not below 0; told on by Eye it is as it was.
-/
namespace Go.Proofs.YtiniobcknmaigaaGreat.Qm
open Go.RowKit Go.Sort

theorem gd_at {n i k : Nat} (xs : List Int) (hi : i < n) (hk : k < n) : ge (gd n xs) (i * n + k) = if i = k ∧ ge (evn n xs) (i * n + k) < 0 then 0 else ge (evn n xs) (i * n + k) := by
  unfold gd
  rw [ge_tab (at_lt hi hk)]
  unfold gdu
  rw [div_of hk, mod_of hk]
  by_cases h : i = k ∧ ge (evn n xs) (i * n + k) < 0
  · rw [if_pos h, if_pos ⟨h.1, hi, h.2⟩]
  · rw [if_neg h, if_neg (fun g => h ⟨g.1, g.2.2⟩)]
theorem evn_turn {n i k : Nat} (xs : List Int) (hi : i < n) (hk : k < n) : ge (evn n xs) (i * n + k) = ge (evn n xs) (k * n + i) := by
  have h := evn_acr xs (at_lt hi hk)
  rw [div_of hk, mod_of hk] at h
  exact h.symm
theorem evB_gd (n : Nat) (xs : List Int) : evB n (gd n xs) = true := by
  unfold evB
  apply decide_eq_true
  intro i hi
  refine ⟨?_, fun k hk => ?_⟩
  · rw [gd_at xs hi hi]
    split <;> rename_i h
    · exact Int.le_refl _
    · have : ¬ ge (evn n xs) (i * n + i) < 0 := fun g => h ⟨rfl, g⟩
      omega
  · rw [gd_at xs hi (by omega), gd_at xs (by omega) hi, if_neg (by omega), if_neg (by omega)]
    exact evn_turn xs hi (by omega)
theorem at_parts {n p : Nat} (hp : p < n * n) : p / n < n ∧ p % n < n ∧ p / n * n + p % n = p := by
  have hn : 0 < n := by
    rcases Nat.eq_zero_or_pos n with h0 | h0
    · subst h0; omega
    · exact h0
  exact ⟨(Nat.div_lt_iff_lt_mul hn).2 hp, Nat.mod_lt _ hn, by rw [Nat.mul_comm]; exact Nat.div_add_mod p n⟩
theorem ge_out {xs : List Int} {p : Nat} (h : xs.length ≤ p) : ge xs p = 0 := by
  unfold ge; rw [List.getD_eq_getElem?_getD, List.getElem?_eq_none h]; rfl
theorem gd_in {n : Nat} {xs : List Int} (h : AllIn xs) : AllIn (gd n xs) := by
  intro p
  by_cases hp : p < n * n
  · obtain ⟨h1, h2, h3⟩ := at_parts hp
    rw [← h3, gd_at xs h1 h2]
    have := evn_in (c := n) h (p / n * n + p % n)
    split <;> omega
  · rw [ge_out (by rw [gd_len]; omega)]; omega
theorem gd_self {n : Nat} {xs : List Int} (hl : xs.length = n * n) (he : evB n xs = true) : gd n xs = xs := by
  have he' : ∀ i, i < n → symP n xs i := by unfold evB at he; exact of_decide_eq_true he
  have hs : ∀ i k, i < n → k < n → ge xs (i * n + k) = ge xs (k * n + i) := fun i k hi hk => by
    rcases Nat.lt_trichotomy k i with h | h | h
    · exact (he' i hi).2 k h
    · rw [h]
    · exact ((he' k hk).2 i h).symm
  have hev : ∀ i k, i < n → k < n → ge (evn n xs) (i * n + k) = ge xs (i * n + k) := fun i k hi hk => by
    rw [evn_at xs (at_lt hi hk), div_of hk, mod_of hk, ← hs i k hi hk]
    exact half_dbl _
  unfold gd
  refine tab_ge hl fun p hp => ?_
  obtain ⟨h1, h2, h3⟩ := at_parts hp
  have e : gdu n (evn n xs) n p = ge (gd n xs) p := by unfold gd; rw [ge_tab hp]
  rw [e, ← h3, gd_at xs h1 h2, hev _ _ h1 h2]
  split <;> rename_i h
  · have := (he' _ h1).1
    rw [← h.1] at h
    omega
  · rfl
theorem eye_trn (n : Nat) : trn n n (dia (fun _ => 16777216) n) = dia (fun _ => 16777216) n := by
  unfold trn
  refine tab_ge (by unfold dia; rw [tab_len]) fun p hp => ?_
  obtain ⟨h1, h2, h3⟩ := at_parts hp
  conv => rhs; rw [← h3]
  rw [dia_at h2 h1, dia_at h1 h2]
  by_cases h : p / n = p % n
  · rw [if_pos h, if_pos h.symm]
  · rw [if_neg h, if_neg (fun g => h g.symm)]
theorem prd_eyeL {n c : Nat} {xs : List Int} (h : AllIn xs) (hl : xs.length = n * c) (n1 : 1 ≤ n) (c1 : 1 ≤ c) : prd n n c (dia (fun _ => 16777216) n) xs = xs ∧ prdB n n c (dia (fun _ => 16777216) n) xs = false := by
  have ht : (trn n c xs).length = c * n := trn_len _ _ _
  have e1 := prd_eye (r := c) (c := n) (trn_in h) ht n1
  have e2 := prd_trn (r := c) (n := n) (c := n) (trn n c xs) (dia (fun _ => 16777216) n) c1 n1
  rw [eye_trn, trn_trn hl c1, e1.1, e1.2, trn_trn hl c1] at e2
  exact e2
theorem dia_one_in (n : Nat) : AllIn (dia (fun _ => 16777216) n) := by
  intro p
  by_cases hp : p < n * n
  · obtain ⟨h1, h2, h3⟩ := at_parts hp
    rw [← h3, dia_at h1 h2]
    split <;> omega
  · rw [ge_out (by unfold dia; rw [tab_len]; omega)]; omega
/-- told on by Eye, and nothing more -/
theorem eyes_facts {n : Nat} {xs ps : List Int} (n1 : 1 ≤ n) (hx : xs.length = n * 1) (hp : ps.length = n * n) (ix : AllIn xs) (ip : AllIn ps) (he : evB n ps = true) :
    prX n xs (dia (fun _ => 16777216) n) = xs ∧ prP n ps (dia (fun _ => 16777216) n) (tab (fun _ => 0) (n * n)) = ps ∧ prF n xs ps (dia (fun _ => 16777216) n) (tab (fun _ => 0) (n * n)) = false := by
  have a := prd_eyeL ix hx n1 (by omega)
  have b := prd_eyeL ip hp n1 n1
  have c := prd_eye (r := n) (c := n) ip hp n1
  have d := pai_none ip
  have m1 : midL n n (dia (fun _ => 16777216) n) ps = ps := by unfold midL; rw [b.1, eye_trn, c.1]
  have m2 : midB n n (dia (fun _ => 16777216) n) ps = false := by unfold midB; rw [b.1, b.2, eye_trn, c.2]; rfl
  rw [hp] at d
  refine ⟨a.1, ?_, ?_⟩
  · unfold prP prS
    rw [m1, d.1]
    exact gd_self hp he
  · unfold prF
    rw [a.2, m2, m1, d.2]; rfl
theorem trk_of {r1 c1 : Int} {xs : List Int} {r2 c2 : Int} {ps : List Int} (h : trkB r1 c1 xs r2 c2 ps = true) : ∃ n : Nat, r1 = n ∧ c1 = 1 ∧ r2 = n ∧ c2 = n ∧ 1 ≤ n ∧ n ≤ 8 ∧ xs.length = n * 1 ∧ ps.length = n * n ∧ AllIn xs ∧ AllIn ps ∧ evB n ps = true := by
  unfold trkB at h
  simp only [Bool.and_eq_true, decide_eq_true_eq] at h
  obtain ⟨h1, h2, h3, h4, h5, h6⟩ := h
  obtain ⟨R, C, hR⟩ := right_of h1
  obtain ⟨R', C', hR'⟩ := right_of h2
  have e1 := hR.hr; have e2 := hR.hc; have e3 := hR'.hr; have e4 := hR'.hc
  have eC : C = 1 := by omega
  have eR : R' = R := by omega
  have eC' : C' = R := by omega
  subst eC eR eC'
  refine ⟨C', e1, h3, by omega, by omega, hR.r1, hR.r8, hR.len, hR'.len, hR.ins, hR'.ins, ?_⟩
  rw [e1, Int.toNat_natCast] at h6
  exact h6
theorem trk_mk {n : Nat} {xs ps : List Int} (n1 : 1 ≤ n) (n8 : n ≤ 8) (hx : xs.length = n * 1) (hp : ps.length = n * n) (ix : AllIn xs) (ip : AllIn ps) (he : evB n ps = true) : trkB n 1 xs n n ps = true := by
  have r1 : rightB n 1 xs = true := right_mk (R := n) (C := 1) ⟨rfl, rfl, n1, n8, by omega, by omega, hx, ix⟩
  have r2 : rightB n n ps = true := right_mk ⟨rfl, rfl, n1, n8, n1, n8, hp, ip⟩
  unfold trkB
  rw [r1, r2, Int.toNat_natCast, he]
  simp
end Go.Proofs.YtiniobcknmaigaaGreat.Qm

/-
  The contract of the document's Same of tracks.
-/
namespace Go.Proofs.YtiniobcknmaigaaGreat
open Go.RowKit Go.Sort Qm

set_option maxRecDepth 20000 in
set_option maxHeartbeats 1600000 in
theorem rsamet_any (r c p q r' c' p' q' : Int) (va vb vc vd : Value) (xs ys zs us : List Int) (w : World) (hx : xs.length ≤ 100) (hy : ys.length ≤ 100) (hz : zs.length ≤ 100) (hu : us.length ≤ 100) (sa : Sees w va xs) (sb : Sees w vb ys) (sc : Sees w vc zs) (sd : Sees w vd us) :
    Calls Tryz.prog 13 #[.agg #[.int .i64 r, .int .i64 c, va, .int .i64 p, .int .i64 q, vb], .agg #[.int .i64 r', .int .i64 c', vc, .int .i64 p', .int .i64 q', vd]] w fun e b =>
      e = .returned (.bool (sameB r c xs r' c' zs && sameB p q ys p' q' us)) ∧ Below w.heap.size w b := by
  obtain ⟨ao, ac, rfl⟩ := sa.slice
  obtain ⟨bo, bc, rfl⟩ := sb.slice
  obtain ⟨co, cc, rfl⟩ := sc.slice
  obtain ⟨eo, ec, rfl⟩ := sd.slice
  obtain ⟨W, hW⟩ : ∃ W, (w.alloc (.cells #[.int .i64 r, .int .i64 c, .slice ao xs.length ac, .int .i64 p, .int .i64 q, .slice bo ys.length bc] 26)).alloc (.cells #[.int .i64 r', .int .i64 c', .slice co zs.length cc, .int .i64 p', .int .i64 q', .slice eo us.length ec] 26) = W := ⟨_, rfl⟩
  obtain ⟨x1, x2⟩ := allocs2 w (.cells #[.int .i64 r, .int .i64 c, .slice ao xs.length ac, .int .i64 p, .int .i64 q, .slice bo ys.length bc] 26) (.cells #[.int .i64 r', .int .i64 c', .slice co zs.length cc, .int .i64 p', .int .i64 q', .slice eo us.length ec] 26)
  have bW := ball2 w (.cells #[.int .i64 r, .int .i64 c, .slice ao xs.length ac, .int .i64 p, .int .i64 q, .slice bo ys.length bc] 26) (.cells #[.int .i64 r', .int .i64 c', .slice co zs.length cc, .int .i64 p', .int .i64 q', .slice eo us.length ec] 26)
  rw [hW] at x1 x2 bW
  have k1 := rsame_any r c r' c' _ _ xs zs W hx hz (sa.below bW) (sc.below bW)
  have k2 : ∀ v, Below W.heap.size W v → Calls Tryz.prog 44 #[.agg #[.int .i64 p, .int .i64 q, .slice bo ys.length bc], .agg #[.int .i64 p', .int .i64 q', .slice eo us.length ec]] v fun e b =>
      e = .returned (.bool (sameB p q ys p' q' us)) ∧ Below v.heap.size v b := fun v hv => rsame_any p q p' q' _ _ ys us v hy hu ((sb.below bW).below hv) ((sd.below bW).below hv)
  obtain ⟨A, hA⟩ : ∃ A, sameB r c xs r' c' zs = A := ⟨_, rfl⟩
  obtain ⟨B, hB⟩ : ∃ B, sameB p q ys p' q' us = B := ⟨_, rfl⟩
  rw [hA] at k1
  simp only [hB] at k2
  rw [hA, hB]
  rw [← hW] at k1
  have HW : Hid (_ = W) := hW
  clear hW hA hB hx hy hz hu
  obtain ⟨c0, c1, c2, c3, c4, c5⟩ := six_cells x1
  obtain ⟨q0, q1, q2, q3, q4, q5⟩ := six_cells x2
  cases A
  · go_enter Tryz.func13, Tryz.ntmps13
    go_wp2_with (go_at_call 44; refine k1.mono ?_; rintro e wa ⟨rfl, b1⟩; rw [HW.out] at b1)
    go_ret
    exact ⟨rfl, bt bW b1⟩
  · go_enter Tryz.func13, Tryz.ntmps13
    go_wp2_with (first
      | (have _ := b1; go_at_call 44; refine (k2 _ b1).mono ?_; rintro e wb ⟨rfl, b2⟩)
      | (go_at_call 44; refine k1.mono ?_; rintro e wa ⟨rfl, b1⟩; rw [HW.out] at b1; obtain ⟨d0, d1, d2, d3, d4, d5⟩ := six_cells (keep b1 x1); obtain ⟨e0, e1, e2, e3, e4, e5⟩ := six_cells (keep b1 x2)))
    go_ret
    exact ⟨by simp, bt (bt bW b1) b2⟩
end Go.Proofs.YtiniobcknmaigaaGreat

/-
  The contracts of the code's Predict and Update, of what they refuse.
-/
namespace Go.Proofs.YtiniobcknmaigaaGreat
open Go.RowKit Go.Sort Qm

set_option maxRecDepth 20000 in
set_option maxHeartbeats 800000 in
theorem kpredict_not (R1 C1 R2 C2 rf cf rq cq : Int) (l1 k1 l2 k2 l3 k3 l4 k4 : Nat) (xo po fo qo : Option Addr) (h : ¬ ((rf = R2 ∧ cf = C2) ∧ rq = R2 ∧ cq = C2)) (w : World) :
    Calls Tryz.prog 7 #[.agg #[.int .i64 R1, .int .i64 C1, .slice xo l1 k1, .int .i64 R2, .int .i64 C2, .slice po l2 k2], .agg #[.int .i64 rf, .int .i64 cf, .slice fo l3 k3], .agg #[.int .i64 rq, .int .i64 cq, .slice qo l4 k4]] w fun e b =>
      e = .returned (.tuple #[.agg #[.int .i64 0, .int .i64 0, .slice none 0 0, .int .i64 0, .int .i64 0, .slice none 0 0], .bool false, .int .i64 9]) ∧ Below w.heap.size w b := by
  obtain ⟨W, hW⟩ : ∃ W, (((w.alloc (.cells #[.int .i64 R1, .int .i64 C1, .slice xo l1 k1, .int .i64 R2, .int .i64 C2, .slice po l2 k2] 26)).alloc (.cells #[.int .i64 rf, .int .i64 cf, .slice fo l3 k3] 24)).alloc (.cells #[.int .i64 rq, .int .i64 cq, .slice qo l4 k4] 24)).alloc (.cells #[.int .i64 0, .int .i64 0, .slice none 0 0, .int .i64 0, .int .i64 0, .slice none 0 0] 26) = W := ⟨_, rfl⟩
  have bW := ball4 w (.cells #[.int .i64 R1, .int .i64 C1, .slice xo l1 k1, .int .i64 R2, .int .i64 C2, .slice po l2 k2] 26) (.cells #[.int .i64 rf, .int .i64 cf, .slice fo l3 k3] 24) (.cells #[.int .i64 rq, .int .i64 cq, .slice qo l4 k4] 24) (.cells #[.int .i64 0, .int .i64 0, .slice none 0 0, .int .i64 0, .int .i64 0, .slice none 0 0] 26)
  obtain ⟨x1, x2, x3, x4⟩ := allocs4 w (.cells #[.int .i64 R1, .int .i64 C1, .slice xo l1 k1, .int .i64 R2, .int .i64 C2, .slice po l2 k2] 26) (.cells #[.int .i64 rf, .int .i64 cf, .slice fo l3 k3] 24) (.cells #[.int .i64 rq, .int .i64 cq, .slice qo l4 k4] 24) (.cells #[.int .i64 0, .int .i64 0, .slice none 0 0, .int .i64 0, .int .i64 0, .slice none 0 0] 26)
  rw [hW] at bW x1 x2 x3 x4
  have g1 := fun v => hasSize_any rf cf R2 C2 fo l3 k3 v
  have g2 := fun v => hasSize_any rq cq R2 C2 qo l4 k4 v
  obtain ⟨t0, t1, t2, t3, t4, t5⟩ := six_cells x1
  obtain ⟨q0, q1, q2, _⟩ := mat_cells x2
  obtain ⟨z0, z1, z2, z3, z4, z5⟩ := six_cells x4
  have HS := fun v (hv : Below W.heap.size W v) y0 y1 y2 y3 y4 y5 => below_six (D := w.heap.size + 1 + 1 + 1) (bt bW hv) (by omega) y0 y1 y2 y3 y4 y5
  by_cases hf : rf = R2 ∧ cf = C2
  · have hq : ¬ (rq = R2 ∧ cq = C2) := fun g => h ⟨hf, g⟩
    rw [decide_eq_true hf] at g1
    rw [decide_eq_false hq] at g2
    clear h hf hq
    go_enter Tryz.func7, Tryz.ntmps7
    go_wp2_with (first
      | (have _ := bx; go_at_call 16; go_must (refine (g2 _).mono ?_); rintro e wy ⟨rfl, by_⟩; obtain ⟨z0, z1, z2, z3, z4, z5⟩ := six_cells (keep (bt bx by_) x4); obtain ⟨f0, f1, f2, f3, f4, f5⟩ := six_free (keep (bt bx by_) x4))
      | (go_at_call 16; go_must (refine (g1 _).mono ?_); rintro e wx ⟨rfl, bx⟩; obtain ⟨r0, r1, r2, _⟩ := mat_cells (keep bx x3); obtain ⟨t0, t1, t2, t3, t4, t5⟩ := six_cells (keep bx x1)))
    refine bodyPost_ret (v := .tuple #[.agg #[.int .i64 0, .int .i64 0, .slice none 0 0, .int .i64 0, .int .i64 0, .slice none 0 0], .bool false, .int .i64 9]) (by simp [results, Tryz.results7, go_sem, z0, z1, z2, z3, z4, z5]) rfl ?_
    exact ⟨rfl, HS _ (bt bx by_) _ _ _ _ _ _⟩
  · rw [decide_eq_false hf] at g1
    clear h hf
    go_enter Tryz.func7, Tryz.ntmps7
    go_wp2_with (go_at_call 16; go_must (refine (g1 _).mono ?_); rintro e wx ⟨rfl, bx⟩; obtain ⟨z0, z1, z2, z3, z4, z5⟩ := six_cells (keep bx x4); obtain ⟨f0, f1, f2, f3, f4, f5⟩ := six_free (keep bx x4))
    refine bodyPost_ret (v := .tuple #[.agg #[.int .i64 0, .int .i64 0, .slice none 0 0, .int .i64 0, .int .i64 0, .slice none 0 0], .bool false, .int .i64 9]) (by simp [results, Tryz.results7, go_sem, z0, z1, z2, z3, z4, z5]) rfl ?_
    exact ⟨rfl, HS _ bx _ _ _ _ _ _⟩

set_option maxRecDepth 20000 in
set_option maxHeartbeats 800000 in
theorem kupdate_bad (R1 C1 R2 C2 rh ch : Int) (l1 k1 l2 k2 l3 k3 : Nat) (xo po ho : Option Addr) (z r gate : Int) (h : ¬ (rh = 1 ∧ ch = R1) ∨ r ≤ 0) (w : World) :
    Calls Tryz.prog 9 #[.agg #[.int .i64 R1, .int .i64 C1, .slice xo l1 k1, .int .i64 R2, .int .i64 C2, .slice po l2 k2], .agg #[.int .i64 rh, .int .i64 ch, .slice ho l3 k3], .int .i64 z, .int .i64 r, .int .i64 gate] w fun e b =>
      e = .returned (.tuple #[.agg #[.int .i64 0, .int .i64 0, .slice none 0 0, .int .i64 0, .int .i64 0, .slice none 0 0], .bool false, .bool false, .int .i64 (if rh = 1 ∧ ch = R1 then 1 else 9)]) ∧ Below w.heap.size w b := by
  obtain ⟨W, hW⟩ : ∃ W, ((w.alloc (.cells #[.int .i64 R1, .int .i64 C1, .slice xo l1 k1, .int .i64 R2, .int .i64 C2, .slice po l2 k2] 26)).alloc (.cells #[.int .i64 rh, .int .i64 ch, .slice ho l3 k3] 24)).alloc (.cells #[.int .i64 0, .int .i64 0, .slice none 0 0, .int .i64 0, .int .i64 0, .slice none 0 0] 26) = W := ⟨_, rfl⟩
  have bW := ball3 w (.cells #[.int .i64 R1, .int .i64 C1, .slice xo l1 k1, .int .i64 R2, .int .i64 C2, .slice po l2 k2] 26) (.cells #[.int .i64 rh, .int .i64 ch, .slice ho l3 k3] 24) (.cells #[.int .i64 0, .int .i64 0, .slice none 0 0, .int .i64 0, .int .i64 0, .slice none 0 0] 26)
  obtain ⟨x1, x2, x3⟩ := allocs3 w (.cells #[.int .i64 R1, .int .i64 C1, .slice xo l1 k1, .int .i64 R2, .int .i64 C2, .slice po l2 k2] 26) (.cells #[.int .i64 rh, .int .i64 ch, .slice ho l3 k3] 24) (.cells #[.int .i64 0, .int .i64 0, .slice none 0 0, .int .i64 0, .int .i64 0, .slice none 0 0] 26)
  rw [hW] at bW x1 x2 x3
  have g1 := kinnov_not R1 C1 R2 C2 rh ch l1 k1 l2 k2 l3 k3 xo po ho z r h W
  obtain ⟨E, hE⟩ : ∃ E, (if rh = 1 ∧ ch = R1 then (1 : Int) else 9) = E := ⟨_, rfl⟩
  have hE0 : (E == 0) = false := by rw [← hE]; split <;> rfl
  rw [hE] at g1 ⊢
  obtain ⟨t0, t1, t2, t3, t4, t5⟩ := six_cells x1
  obtain ⟨q0, q1, q2, _⟩ := mat_cells x2
  have HS := fun v (hv : Below W.heap.size W v) y0 y1 y2 y3 y4 y5 => below_six (D := w.heap.size + 1 + 1) (bt bW hv) (by omega) y0 y1 y2 y3 y4 y5
  clear h hE
  go_enter Tryz.func9, Tryz.ntmps9
  go_wp2_with (go_at_call 11; go_must (refine g1.mono ?_); rintro e wx ⟨rfl, bx⟩; obtain ⟨z0, z1, z2, z3, z4, z5⟩ := six_cells (keep bx x3); obtain ⟨f0, f1, f2, f3, f4, f5⟩ := six_free (keep bx x3))
  refine bodyPost_ret (v := .tuple #[.agg #[.int .i64 0, .int .i64 0, .slice none 0 0, .int .i64 0, .int .i64 0, .slice none 0 0], .bool false, .bool false, .int .i64 E]) (by simp [results, Tryz.results9, go_sem, z0, z1, z2, z3, z4, z5]) rfl ?_
  exact ⟨rfl, HS _ bx _ _ _ _ _ _⟩
end Go.Proofs.YtiniobcknmaigaaGreat
