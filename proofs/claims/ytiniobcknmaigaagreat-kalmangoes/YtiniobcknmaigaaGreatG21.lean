/-
  Texts joined, in the order in which they stand on one another: FactE FactT RMid.
-/
import Derived.Test.YtiniobcknmaigaaGreatG11
import Derived.Test.YtiniobcknmaigaaGreatG12
import Derived.Test.YtiniobcknmaigaaGreatG14
import Derived.Test.YtiniobcknmaigaaGreatG19
import Derived.Test.YtiniobcknmaigaaGreatG20
/-
  What follows of matrices that are made even.
-/
namespace Go.Proofs.YtiniobcknmaigaaGreat
open Go.RowKit Go.Sort Qm

namespace Qm
theorem half_sum {x y : Int} (h1 : -70368744177664 ≤ x) (h2 : x ≤ 70368744177663) (h3 : -70368744177664 ≤ y) (h4 : y ≤ 70368744177663) : -70368744177664 ≤ half (x + y) 1 ∧ half (x + y) 1 ≤ 70368744177663 := by
  have h := half_err (x + y) 1 (by decide)
  have e : (2 : Int) ^ 1 = 2 := by decide
  rw [e] at h
  have e1 : half (x + y) ((1 : Nat) : Int) = half (x + y) 1 := rfl
  rw [e1] at h
  omega
theorem half_dbl (z : Int) : half (z + z) 1 = z := by
  have h := half_twice z 0 (by decide)
  have e : half z ((0 : Nat) : Int) = z := half_zero z
  rw [e] at h
  rw [show z + z = 2 * z by omega]
  exact h.symm
/-- the place across the diagonal -/
theorem acr_lt {c p : Nat} (hp : p < c * c) : (p % c) * c + p / c < c * c := by
  have hc : 0 < c := by rcases Nat.eq_zero_or_pos c with h | h
                        · subst h; omega
                        · exact h
  exact at_lt (Nat.mod_lt p hc) ((Nat.div_lt_iff_lt_mul hc).2 hp)
theorem acr_acr {c p : Nat} (hp : p < c * c) : (((p % c) * c + p / c) % c) * c + ((p % c) * c + p / c) / c = p := by
  have hc : 0 < c := by rcases Nat.eq_zero_or_pos c with h | h
                        · subst h; omega
                        · exact h
  have h1 : p / c < c := (Nat.div_lt_iff_lt_mul hc).2 hp
  rw [mod_of h1, div_of h1, Nat.mul_comm]
  exact Nat.div_add_mod p c
theorem evn_at {c p : Nat} (xs : List Int) (hp : p < c * c) : ge (evn c xs) p = half (ge xs p + ge xs ((p % c) * c + p / c)) 1 := ge_tab hp
theorem evn_acr {c p : Nat} (xs : List Int) (hp : p < c * c) : ge (evn c xs) ((p % c) * c + p / c) = ge (evn c xs) p := by
  rw [evn_at xs (acr_lt hp), evn_at xs hp, acr_acr hp, Int.add_comm]
theorem evn_len (c : Nat) (xs : List Int) : (evn c xs).length = c * c := tab_len _ _
theorem evn_in {c : Nat} {xs : List Int} (h : AllIn xs) : AllIn (evn c xs) := by
  intro p
  by_cases hp : p < c * c
  · rw [evn_at xs hp]
    exact half_sum (h _).1 (h _).2 (h _).1 (h _).2
  · have e : ge (evn c xs) p = 0 := by unfold ge; rw [List.getD_eq_getElem?_getD, List.getElem?_eq_none (by rw [evn_len]; omega)]; rfl
    rw [e]; omega
theorem evn_evn (c : Nat) (xs : List Int) : evn c (evn c xs) = evn c xs := by
  refine tab_ge (evn_len c xs) fun p hp => ?_
  rw [evn_acr xs hp, half_dbl]
theorem evn_trn (c : Nat) (xs : List Int) : trn c c (evn c xs) = evn c xs := tab_ge (evn_len c xs) fun _ hp => evn_acr xs hp
end Qm
theorem right_mk {xs : List Int} {R C : Nat} (h : IsRight R C xs R C) : rightB R C xs = true := by
  unfold rightB
  rw [laidB_mk h.r1 h.r8 h.c1 h.c8 h.len]
  have : outB xs xs.length = false := anyB_none fun k _ => ob_in (h.ins k).1 (h.ins k).2
  rw [this]; rfl
/-- a call of one matrix -/
def Tells1 (f : Nat) (ra ca : Int) (xs : List Int) (r c : Int) (zs : List Int) (o : Bool) (e : Int) : Prop :=
  ∀ w va, Sees w va xs → Calls Tryz.prog f #[.agg #[.int .i64 ra, .int .i64 ca, va]] w fun e' b =>
    ∃ v, e' = .returned (.tuple #[.agg #[.int .i64 r, .int .i64 c, v], .bool o, .int .i64 e]) ∧ Sees b v zs ∧ Below w.heap.size w b
theorem even_tells {xs : List Int} {C : Nat} (h : IsRight C C xs C C) : Tells1 59 C C xs C C (evn C xs) false 0 ∧ Tells1 62 C C xs C C (evn C xs) false 0 ∧ IsRight C C (evn C xs) C C :=
  ⟨fun w va sa => (even_any C h.c1 h.c8 va xs h.len h.ins w sa).mono fun _ _ ⟨v, x, y, _, z⟩ => ⟨v, x, y, z⟩,
   fun w va sa => (reven_any C h.c1 h.c8 va xs h.len h.ins w sa).mono fun _ _ ⟨v, x, y, _, z⟩ => ⟨v, x, y, z⟩,
   ⟨rfl, rfl, h.c1, h.c8, h.c1, h.c8, evn_len C xs, evn_in h.ins⟩⟩
end Go.Proofs.YtiniobcknmaigaaGreat

/-
  What follows of matrices that are turned, and of products.
-/
namespace Go.Proofs.YtiniobcknmaigaaGreat
open Go.RowKit Go.Sort Qm

namespace Qm
theorem trn_len (r c : Nat) (xs : List Int) : (trn r c xs).length = c * r := tab_len _ _
theorem trn_at {r c i j : Nat} (xs : List Int) (hi : i < c) (hj : j < r) : ge (trn r c xs) (i * r + j) = ge xs (j * c + i) := by
  unfold trn
  rw [ge_tab (at_lt hi hj), mod_of hj, div_of hj]
theorem trn_trn {r c : Nat} {xs : List Int} (h : xs.length = r * c) (hc : 1 ≤ c) : trn c r (trn r c xs) = xs := by
  refine tab_ge h fun q hq => ?_
  have h1 : q / c < r := (Nat.div_lt_iff_lt_mul (by omega)).2 hq
  have h2 : q % c < c := Nat.mod_lt q (by omega)
  rw [trn_at xs h2 h1]
  congr 1
  have := Nat.div_add_mod q c
  rw [Nat.mul_comm] at this
  exact this
theorem trn_in {r c : Nat} {xs : List Int} (h : AllIn xs) : AllIn (trn r c xs) := by
  intro p
  by_cases hp : p < c * r
  · unfold trn; rw [ge_tab hp]; exact h _
  · have e : ge (trn r c xs) p = 0 := by unfold ge; rw [List.getD_eq_getElem?_getD, List.getElem?_eq_none (by rw [trn_len]; omega)]; rfl
    rw [e]; omega
/-- sums whose numbers are the same -/
theorem smv_congr {p q : Nat → Int} {n : Nat} (h : ∀ k, k < n → p k = q k) : smv p n = smv q n := by
  induction n with
  | zero => rfl
  | succ n ih => rw [smv, smv, ih fun k hk => h k (by omega), h n (by omega)]
theorem smB_congr {p q : Nat → Int} {x y : Nat → Bool} {n : Nat} (h : ∀ k, k < n → p k = q k) (g : ∀ k, k < n → x k = y k) : smB p x n = smB q y n := by
  induction n with
  | zero => rfl
  | succ n ih => rw [smB, smB, ih (fun k hk => h k (by omega)) (fun k hk => g k (by omega)), h n (by omega), g n (by omega), smv_congr fun k hk => h k (by omega)]
theorem smv_in (p : Nat → Int) (n : Nat) : -70368744177664 ≤ smv p n ∧ smv p n ≤ 70368744177663 := by
  cases n with
  | zero => exact ⟨by show (_ : Int) ≤ 0; omega, by show (0 : Int) ≤ _; omega⟩
  | succ n => exact cl_bd _
theorem add_none' {a : Int} (h1 : -70368744177664 ≤ a) (h2 : a ≤ 70368744177663) : add 0 a = a ∧ addB 0 a = false := by rw [add_comm', addB_comm]; exact add_none h1 h2
/-- a sum with one number that is not 0 -/
theorem smv_one {v : Int} (h1 : -70368744177664 ≤ v) (h2 : v ≤ 70368744177663) (p : Nat → Int) (x : Nat → Bool) (j : Nat) : ∀ n, (∀ k, k < n → p k = if k = j then v else 0) → (∀ k, k < n → x k = false) → smv p n = (if j < n then v else 0) ∧ smB p x n = false := by
  intro n
  induction n with
  | zero => intro _ _; exact ⟨rfl, rfl⟩
  | succ n ih =>
    intro h g
    obtain ⟨e1, e2⟩ := ih (fun k hk => h k (by omega)) (fun k hk => g k (by omega))
    rw [smv, smB, e1, e2, g n (by omega), h n (by omega)]
    by_cases hn : n = j
    · subst hn
      rw [if_pos rfl, if_neg (by omega), if_pos (by omega)]
      exact ⟨(add_none' h1 h2).1, by rw [(add_none' h1 h2).2]; rfl⟩
    · rw [if_neg hn]
      by_cases hj : j < n
      · rw [if_pos hj, if_pos (by omega)]
        exact ⟨(add_none h1 h2).1, by rw [(add_none h1 h2).2]; rfl⟩
      · rw [if_neg hj, if_neg (by omega)]
        exact ⟨by decide, by decide⟩
theorem dia_at {d : Nat → Int} {n i j : Nat} (hi : i < n) (hj : j < n) : ge (dia d n) (i * n + j) = if i = j then d i else 0 := by
  unfold dia
  rw [ge_tab (at_lt hi hj), div_of hj, mod_of hj]
theorem dot_eye {c : Nat} {xs : List Int} (h : AllIn xs) (i j : Nat) (hj : j < c) : dot c c xs (dia (fun _ => 16777216) c) i j = ge xs (i * c + j) ∧ dotB c c xs (dia (fun _ => 16777216) c) i j = false := by
  have hb := h (i * c + j)
  have hs := smv_one hb.1 hb.2 (fun k => mul (ge xs (i * c + k)) (ge (dia (fun _ => 16777216) c) (k * c + j))) (fun k => mulB (ge xs (i * c + k)) (ge (dia (fun _ => 16777216) c) (k * c + j))) j c (by
    intro k hk
    simp only [dia_at hk hj]
    by_cases e : k = j
    · subst e; rw [if_pos rfl, if_pos rfl]; exact (mul_one' hb.1 hb.2).1
    · rw [if_neg e, if_neg e]; exact (mul_none (h _).1 (h _).2).1) (by
    intro k hk
    simp only [dia_at hk hj]
    by_cases e : k = j
    · subst e; rw [if_pos rfl]; exact (mul_one' hb.1 hb.2).2
    · rw [if_neg e]; exact (mul_none (h _).1 (h _).2).2)
  rw [if_pos hj] at hs
  exact hs
theorem prd_eye {r c : Nat} {xs : List Int} (h : AllIn xs) (hl : xs.length = r * c) (hc : 1 ≤ c) : prd r c c xs (dia (fun _ => 16777216) c) = xs ∧ prdB r c c xs (dia (fun _ => 16777216) c) = false := by
  refine ⟨tab_ge hl fun p _ => ?_, anyB_none fun p _ => (dot_eye h _ _ (Nat.mod_lt p (by omega))).2⟩
  rw [(dot_eye h _ _ (Nat.mod_lt p (by omega))).1]
  congr 1
  have := Nat.div_add_mod p c
  rw [Nat.mul_comm] at this
  exact this
theorem dot_turn {r n c : Nat} (xs ys : List Int) {i j : Nat} (hi : i < r) (hj : j < c) : dot n r (trn n c ys) (trn r n xs) j i = dot n c xs ys i j ∧ dotB n r (trn n c ys) (trn r n xs) j i = dotB n c xs ys i j := by
  have h : ∀ k, k < n → mul (ge (trn n c ys) (j * n + k)) (ge (trn r n xs) (k * r + i)) = mul (ge xs (i * n + k)) (ge ys (k * c + j)) := fun k hk => by rw [trn_at ys hj hk, trn_at xs hk hi, mul_comm']
  have g : ∀ k, k < n → mulB (ge (trn n c ys) (j * n + k)) (ge (trn r n xs) (k * r + i)) = mulB (ge xs (i * n + k)) (ge ys (k * c + j)) := fun k hk => by rw [trn_at ys hj hk, trn_at xs hk hi, mulB_comm]
  exact ⟨smv_congr h, smB_congr h g⟩
theorem anyB_iff (o : Nat → Bool) (n : Nat) : anyB o n = true ↔ ∃ k, k < n ∧ o k = true := by
  constructor
  · induction n with
    | zero => intro h; cases h
    | succ n ih =>
      intro h
      rw [anyB, Bool.or_eq_true] at h
      rcases h with h | h
      · obtain ⟨k, hk, ho⟩ := ih h; exact ⟨k, by omega, ho⟩
      · exact ⟨n, by omega, h⟩
  · rintro ⟨k, hk, ho⟩; exact anyB_hit hk ho
theorem prd_trn {r n c : Nat} (xs ys : List Int) (hr : 1 ≤ r) (hc : 1 ≤ c) : prd c n r (trn n c ys) (trn r n xs) = trn r c (prd r n c xs ys) ∧ prdB c n r (trn n c ys) (trn r n xs) = prdB r n c xs ys := by
  refine ⟨tab_congr fun p hp => ?_, ?_⟩
  · have h1 : p / r < c := (Nat.div_lt_iff_lt_mul (by omega)).2 hp
    have h2 : p % r < r := Nat.mod_lt p (by omega)
    rw [(dot_turn xs ys h2 h1).1]
    unfold prd
    rw [ge_tab (at_lt h2 h1), div_of h1, mod_of h1]
  · rw [Bool.eq_iff_iff]
    unfold prdB
    rw [anyB_iff, anyB_iff]
    constructor
    · rintro ⟨p, hp, ho⟩
      have h1 : p / r < c := (Nat.div_lt_iff_lt_mul (by omega)).2 hp
      have h2 : p % r < r := Nat.mod_lt p (by omega)
      refine ⟨(p % r) * c + p / r, at_lt h2 h1, ?_⟩
      rw [div_of h1, mod_of h1, ← (dot_turn xs ys h2 h1).2]; exact ho
    · rintro ⟨p, hp, ho⟩
      have h1 : p / c < r := (Nat.div_lt_iff_lt_mul (by omega)).2 hp
      have h2 : p % c < c := Nat.mod_lt p (by omega)
      refine ⟨(p % c) * r + p / c, at_lt h2 h1, ?_⟩
      rw [div_of h1, mod_of h1, (dot_turn xs ys h1 h2).2]; exact ho
theorem prd_in (r n c : Nat) (xs ys : List Int) : AllIn (prd r n c xs ys) := by
  intro p
  by_cases hp : p < r * c
  · unfold prd; rw [ge_tab hp]; exact smv_in _ _
  · have e : ge (prd r n c xs ys) p = 0 := by unfold ge; rw [List.getD_eq_getElem?_getD, List.getElem?_eq_none (by rw [prd, tab_len]; omega)]; rfl
    rw [e]; omega
end Qm
end Go.Proofs.YtiniobcknmaigaaGreat

/-
  The contract of the document's mid: a times p, times a turned.
-/
namespace Go.Proofs.YtiniobcknmaigaaGreat
open Go.RowKit Go.Sort Qm

namespace Qm
def midL (r n : Nat) (xs ps : List Int) : List Int := prd r n r (prd r n n xs ps) (trn r n xs)
def midB (r n : Nat) (xs ps : List Int) : Bool := prdB r n n xs ps || prdB r n r (prd r n n xs ps) (trn r n xs)
theorem prd_len (r n c : Nat) (xs ys : List Int) : (prd r n c xs ys).length = r * c := tab_len _ _
theorem midL_len (r n : Nat) (xs ps : List Int) : (midL r n xs ps).length = r * r := prd_len _ _ _ _ _
end Qm

set_option maxRecDepth 20000 in
set_option maxHeartbeats 1600000 in
theorem rmid_any (R N : Nat) (r1 : 1 ≤ R) (hR : R ≤ 8) (n1 : 1 ≤ N) (hN : N ≤ 8) (va vp : Value) (xs ps : List Int) (hx : xs.length = R * N) (hp : ps.length = N * N) (w : World) (sa : Sees w va xs) (sp : Sees w vp ps) :
    Calls Tryz.prog 25 #[.agg #[.int .i64 R, .int .i64 N, va], .agg #[.int .i64 N, .int .i64 N, vp]] w fun e b =>
      ∃ v, e = .returned (.tuple #[.agg #[.int .i64 R, .int .i64 R, v], .bool (midB R N xs ps)]) ∧ Sees b v (midL R N xs ps) ∧ New w.heap.size v ∧ Below w.heap.size w b := by
  have h64 : R * N ≤ 64 := mul_le_64 hR hN
  obtain ⟨ao, cap, rfl⟩ := sa.slice
  obtain ⟨po, pcap, rfl⟩ := sp.slice
  have k1 := fun w va vb sa sb => rmul_mat R N N r1 hR n1 hN n1 hN va vb xs ps hx hp w sa sb
  have kT := fun w v hs => rtrans_any R N r1 hR n1 hN v xs hx w hs
  have k2 := fun w va vb sa sb => rmul_mat R N R r1 hR n1 hN r1 hR va vb (prd R N N xs ps) (trn R N xs) (prd_len _ _ _ _ _) ((trn_len _ _ _)) w sa sb
  have z1 : 0 < (trn R N xs).length := by rw [trn_len]; exact Nat.mul_pos n1 r1
  have z2 : 0 < (midL R N xs ps).length := by rw [midL_len]; exact Nat.mul_pos r1 r1
  unfold midB
  change ∀ w va vb, _ → _ → Calls Tryz.prog 24 _ w (fun e b => ∃ v, e = .returned (.tuple #[_, .bool _, _]) ∧ Sees b v (midL R N xs ps) ∧ _) at k2
  obtain ⟨ms, hms⟩ : ∃ ms, prd R N N xs ps = ms := ⟨_, rfl⟩
  have lm : Hid (ms.length = R * N) := by show _ = _; rw [← hms]; exact prd_len _ _ _ _ _
  rw [hms] at k1 k2 ⊢
  obtain ⟨ts, hts⟩ : ∃ ts, trn R N xs = ts := ⟨_, rfl⟩
  rw [hts] at kT k2 z1 ⊢
  obtain ⟨zs, hzs⟩ : ∃ zs, midL R N xs ps = zs := ⟨_, rfl⟩
  rw [hzs] at k2 z2 ⊢
  obtain ⟨X, hX⟩ : ∃ X, prdB R N N xs ps = X := ⟨_, rfl⟩
  rw [hX] at k1 ⊢
  obtain ⟨Y, hY⟩ : ∃ Y, prdB R N R ms ts = Y := ⟨_, rfl⟩
  rw [hY] at k2 ⊢
  clear hms hts hzs hX hY hx hp h64
  obtain ⟨W, hW⟩ : ∃ W, ((w.alloc (.cells #[.int .i64 R, .int .i64 N, .slice ao xs.length cap] 24)).alloc (.cells #[.int .i64 N, .int .i64 N, .slice po ps.length pcap] 24)).alloc (.cells #[.int .i64 0, .int .i64 0, .slice none 0 0] 24) = W := ⟨_, rfl⟩
  obtain ⟨x1, x2, x3⟩ := allocs3 w (.cells #[.int .i64 R, .int .i64 N, .slice ao xs.length cap] 24) (.cells #[.int .i64 N, .int .i64 N, .slice po ps.length pcap] 24) (.cells #[.int .i64 0, .int .i64 0, .slice none 0 0] 24)
  have bW := ball3 w (.cells #[.int .i64 R, .int .i64 N, .slice ao xs.length cap] 24) (.cells #[.int .i64 N, .int .i64 N, .slice po ps.length pcap] 24) (.cells #[.int .i64 0, .int .i64 0, .slice none 0 0] 24)
  rw [hW] at x1 x2 x3 bW
  have sa1 := sa.below bW
  have sp1 := sp.below bW
  have K1 := k1 W _ _ sa1 sp1
  rw [← hW] at K1
  have HW : Hid (_ = W) := hW
  clear hW k1
  go_enter Tryz.func25, Tryz.ntmps25
  go_wp2_with (go_at_call 24; refine K1.mono ?_; rintro e wa ⟨v1, rfl, s1, n1', b1⟩; rw [HW.out] at b1 n1'; obtain ⟨mo, mcap, rfl⟩ := s1.slice)
  have hV := heap_new wa (.cells #[.int .i64 R, .int .i64 N, .slice mo ms.length mcap] 24)
  have bV := bt b1 (box_below wa (.cells #[.int .i64 R, .int .i64 N, .slice mo ms.length mcap] 24))
  have s1' := s1.alloc (.cells #[.int .i64 R, .int .i64 N, .slice mo ms.length mcap] 24)
  refine mid_region (D2 := w.heap.size) (D6 := wa.heap.size) (R := R) (N := N) (ts := ts) (zs := zs) (X := Y) z1 z2 (fun v hv => ?_) (fun v hv => ?_) (fun v hv => kT v _ (sa1.below (bt bV hv))) (fun v hv s hs => k2 v _ _ (s1'.below hv) hs) ?_
  · obtain ⟨c0, c1, c2, _⟩ := mat_cells (keep (bt bV hv) x1); exact ⟨c0, c1, c2⟩
  · obtain ⟨c0, c1, c2, _⟩ := mat_cells (keep hv hV); exact ⟨c0, c1, c2⟩
  intro vs D sl wb bb e9 e10 e11 gD hDW sD nD
  unfold midFr
  rw [e9, e10, e11]
  obtain ⟨so, scap, rfl⟩ := sD.slice
  obtain ⟨d0, d1, d2, _⟩ := mat_cells gD
  have bx := bt bV bb
  obtain ⟨f0, f1, f2, q0, q1, q2⟩ := mat_cells (keep bx x3)
  cases X
  all_goals
    go_wp2
    refine bodyPost_ret (v := .tuple #[.agg #[.int .i64 R, .int .i64 R, .slice so zs.length scap], .bool _]) (by simp [results, Tryz.results25, go_sem, f0, f1, f2]; rfl) rfl ?_
    exact ⟨_, rfl, sD.put nD (lt_of_block (keep bV x3)) _ _ _, nD.mono (Nat.le_trans bW.size bV.size), below_put (bt bW bx) (by omega) _ _ _⟩
end Go.Proofs.YtiniobcknmaigaaGreat
