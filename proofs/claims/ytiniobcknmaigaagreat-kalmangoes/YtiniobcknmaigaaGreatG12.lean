/-
  Texts joined, in the order in which they stand on one another: MulM RMulM Knuth.
-/
import Derived.Test.YtiniobcknmaigaaGreatG04
import Derived.Test.YtiniobcknmaigaaGreatG11
import Derived.Deep.CutRange
/-
  The contract of mat.Mul.
-/
namespace Go.Proofs.YtiniobcknmaigaaGreat
open Go.RowKit Go.Sort Qm

set_option maxHeartbeats 1600000 in
theorem mul_mat (R N C : Nat) (r1 : 1 ≤ R) (hR : R ≤ 8) (n1 : 1 ≤ N) (hN : N ≤ 8) (c1 : 1 ≤ C) (hC : C ≤ 8) (va vb : Value) (xs ys : List Int) (hx : xs.length = R * N) (hy : ys.length = N * C) (w : World) (sa : Sees w va xs) (sb : Sees w vb ys) :
    Calls Tryz.prog 49 #[.agg #[.int .i64 R, .int .i64 N, va], .agg #[.int .i64 N, .int .i64 C, vb]] w fun e b =>
      ∃ v, e = .returned (.tuple #[.agg #[.int .i64 R, .int .i64 C, v], .bool (prdB R N C xs ys), .int .i64 0]) ∧ Sees b v (prd R N C xs ys) ∧ New w.heap.size v ∧ Below w.heap.size w b := by
  obtain ⟨ao, cap, rfl⟩ := sa.slice
  obtain ⟨bo, bcap, rfl⟩ := sb.slice
  have hla : laidB R N xs.length = true := laidB_mk r1 hR n1 hN hx
  have hlb : laidB N C ys.length = true := laidB_mk n1 hN c1 hC hy
  have hrk := fun A P bA Q bB w hA hB h0 => mul_reck R N C hR hN hC xs ys hx hy A P bA Q bB w hA hB h0
  obtain ⟨S, hS⟩ : ∃ S, prdB R N C xs ys = S := ⟨_, rfl⟩
  rw [hS] at hrk ⊢
  clear hx hy hS
  go_enter Tryz.func49, Tryz.ntmps49
  go_upto_region 5 with (first
    | (go_at_call_of 51 (Value.slice ao xs.length cap); refine (laid_any _ _ _ _ _ _).mono ?_; rintro e w1 ⟨rfl, b1⟩; have a1 := keep b1 (allocs3 w _ _ _).1; have q1 := keep b1 (allocs3 w _ _ _).2.1; have r1 := keep b1 (allocs3 w _ _ _).2.2; obtain ⟨c0, c1, c2, _⟩ := mat_cells a1; obtain ⟨d0, d1, d2, _⟩ := mat_cells q1)
    | (go_at_call 51; refine (laid_any _ _ _ _ _ _).mono ?_; rintro e w2 ⟨rfl, b2⟩; have a2 := keep b2 a1; have q2 := keep b2 q1; have r2 := keep b2 r1; obtain ⟨e0, e1, e2, _⟩ := mat_cells a2; obtain ⟨f0, f1, f2, _⟩ := mat_cells q2))
  refine two_ats (pos := "mat.go:62") (sA := 2) (sB := 3) (dA := 26) (fA := 27) (dB := 28) (fB := 29) (qA := 7) (qB := 8) (fun v26 v27 v28 v29 v7 v8 => ⟨#[.agg #[.int .i64 R, .int .i64 N, .slice ao xs.length cap], .agg #[.int .i64 N, .int .i64 C, .slice bo ys.length bcap], .pointer (some ⟨w.heap.size, 0, none⟩), .pointer (some ⟨w.heap.size + 1, 0, none⟩), .pointer (some ⟨w.heap.size + 1 + 1, 0, none⟩), .bool false, .int .i64 0, v7, v8, undef, undef, .pointer (some ⟨w.heap.size, 1, none⟩), .int .i64 N, .pointer (some ⟨w.heap.size + 1, 0, none⟩), .int .i64 N, .bool false, undef, .agg #[.int .i64 R, .int .i64 N, .slice ao xs.length cap], .bool true, .bool false, .bool false, .agg #[.int .i64 N, .int .i64 C, .slice bo ys.length bcap], .bool true, .bool false, .bool false, undef, v26, v27, v28, v29, undef, undef, undef, undef, undef, undef, undef, undef, undef, undef, undef, undef], []⟩) a2 q2 (fun _ _ _ _ _ _ _ => rfl) (fun _ _ _ _ _ _ _ => rfl) (fun _ _ _ _ _ _ _ => rfl) (fun _ _ _ _ _ _ _ => rfl) (fun _ _ _ _ _ _ _ => rfl) (fun _ _ _ _ _ _ _ => rfl) (fun _ _ _ _ _ _ => rfl) (fun _ _ _ _ _ _ => rfl) (fun _ _ _ _ _ _ => rfl) (fun _ _ _ _ _ _ => rfl) (fun _ _ _ _ _ _ => rfl) (fun _ _ _ _ _ _ => rfl) (fun _ _ _ _ _ _ => rfl) (fun _ _ _ _ _ _ => rfl) undef undef undef undef undef undef rfl (by kernel_rfl) ?_
  intro kA kB nA nB w3 b3 z1 z2 z3 z4
  have bw := bt (bt (bt (ball3 w _ _ _) b1) b2) b3
  have A3 : AtBox w3 nA kA N xs := ⟨cell_of_one z3, lt_of_block z3, _, _, z1, sa.below bw⟩
  have B3 : AtBox w3 nB kB C ys := ⟨cell_of_one z4, lt_of_block z4, _, _, z2, sb.below bw⟩
  have a3 := keep b3 a2
  have q3 := keep b3 q2
  have r3 := keep b3 r2
  obtain ⟨g0, g1, g2, _⟩ := mat_cells a3
  obtain ⟨h0, h1, h2, _⟩ := mat_cells q3
  clear z1 z2 z3 z4 c0 c1 c2 d0 d1 d2 e0 e1 e2 f0 f1 f2
  go_wp2_with (go_at_call 85; refine (hrk _ _ _ _ _ _ A3 B3 g1).mono ?_; rintro e w4 ⟨v4, rfl, s4, n4, b4⟩; obtain ⟨ao4, cap4, rfl⟩ := s4.slice; obtain ⟨f0, f1, f2, k0, k1, k2⟩ := mat_cells (heap_old (keep b4 r3) (.cells #[.int .i64 R, .int .i64 C, .slice ao4 (prd R N C xs ys).length cap4] 24)))
  refine bodyPost_ret (v := .tuple #[.agg #[.int .i64 R, .int .i64 C, .slice ao4 (prd R N C xs ys).length cap4], .bool S, .int .i64 0]) (by simp [results, Tryz.results49, go_sem, f0, f1, f2]) rfl ?_
  exact ⟨_, rfl, (s4.alloc _).put n4 (lt_of_block r3) _ _ _, n4.mono bw.size, below_put ((bt bw b4).alloc (bt bw b4).size _) (by omega) _ _ _⟩

set_option maxHeartbeats 400000 in
theorem mul_not (R N M C : Int) (h : N ≠ M) (va vb : Value) (xs ys : List Int) (w : World) (sa : Sees w va xs) (sb : Sees w vb ys) :
    Calls Tryz.prog 49 #[.agg #[.int .i64 R, .int .i64 N, va], .agg #[.int .i64 M, .int .i64 C, vb]] w fun e b =>
      e = .returned (.tuple #[.agg #[.int .i64 0, .int .i64 0, .slice none 0 0], .bool false, .int .i64 9]) ∧ Below w.heap.size w b := by
  obtain ⟨ao, cap, rfl⟩ := sa.slice
  obtain ⟨bo, bcap, rfl⟩ := sb.slice
  clear sa sb
  have e1 : ¬ (N = M) := h
  have b0 := ball3 w (.cells #[.int .i64 R, .int .i64 N, .slice ao xs.length cap] 24) (.cells #[.int .i64 M, .int .i64 C, .slice bo ys.length bcap] 24) (.cells #[.int .i64 0, .int .i64 0, .slice none 0 0] 24)
  go_enter Tryz.func49, Tryz.ntmps49
  go_wp2
  refine bodyPost_ret (v := .tuple #[.agg #[.int .i64 0, .int .i64 0, .slice none 0 0], .bool false, .int .i64 9]) (by simp [results, Tryz.results49, go_sem]) rfl ?_
  exact ⟨rfl, b0⟩
end Go.Proofs.YtiniobcknmaigaaGreat

/-
  The contract of the document's Mul of two matrices.
-/
namespace Go.Proofs.YtiniobcknmaigaaGreat
open Go.RowKit Go.Sort Qm

namespace Qm
/-- what stands where place q is being summed up -/
def prt (t : Nat → Int) (q : Nat) (s : Int) : Nat → Int := fun p => if p = q then s else upto t q p
theorem prt_zero (t : Nat → Int) (q n p : Nat) (_ : p < n) : upto t q p = prt t q 0 p := by
  unfold prt
  by_cases h : p = q
  · subst h; rw [if_pos rfl]; simp [upto]
  · rw [if_neg h]
theorem prt_step (t : Nat → Int) (q : Nat) (s s' : Int) (n p : Nat) (_ : p < n) : (if p = q then s' else prt t q s p) = prt t q s' p := by
  unfold prt
  by_cases h : p = q
  · rw [if_pos h, if_pos h]
  · rw [if_neg h, if_neg h, if_neg h]
theorem prt_end (t : Nat → Int) (q n p : Nat) (h : p < n) : prt t q (t q) p = upto t (q + 1) p := by unfold prt; exact upto_succ t q n p h
theorem prt_at (t : Nat → Int) (q : Nat) (s : Int) : prt t q s q = s := by unfold prt; rw [if_pos rfl]
theorem or4 (a b c d : Bool) : (a || (b || c || d)) = (((a || b) || c) || d) := by cases a <;> cases b <;> cases c <;> rfl
end Qm

set_option maxRecDepth 40000 in
set_option maxHeartbeats 4000000 in
theorem rmul_own (R N C : Nat) (r1 : 1 ≤ R) (hR : R ≤ 8) (n1 : 1 ≤ N) (hN : N ≤ 8) (c1 : 1 ≤ C) (hC : C ≤ 8) (va vb : Value) (xs ys : List Int) (hx : xs.length = R * N) (hy : ys.length = N * C) (w : World) (sa : Sees w va xs) (sb : Sees w vb ys) :
    Calls Tryz.prog 24 #[.agg #[.int .i64 R, .int .i64 N, va], .agg #[.int .i64 N, .int .i64 C, vb]] w fun e b =>
      ∃ v, e = .returned (.tuple #[.agg #[.int .i64 R, .int .i64 C, v], .bool (prdB R N C xs ys), .int .i64 0]) ∧ b.ownsRow w.heap.size 27 1 v (R * C) ((prd R N C xs ys).map (Value.int .i64)) ∧ Below w.heap.size w b := by
  have h64 : R * C ≤ 64 := mul_le_64 hR hC
  have hx64 : R * N ≤ 64 := mul_le_64 hR hN
  have hy64 : N * C ≤ 64 := mul_le_64 hN hC
  have hno := fun w => none_any R C hR hC r1 c1 w
  obtain ⟨n, hn⟩ : ∃ n, R * C = n := ⟨_, rfl⟩
  have HQ : Hid (R * C = n ∧ xs.length = R * N ∧ ys.length = N * C) := ⟨hn, hx, hy⟩
  have hla : xs.length ≤ 64 := by omega
  have hlb : ys.length ≤ 64 := by omega
  unfold prdB prd
  rw [hn] at h64 hno ⊢
  obtain ⟨S, hS⟩ : ∃ S, anyB (fun p => dotB N C xs ys (p / C) (p % C)) n = S := ⟨_, rfl⟩
  have HS : Hid (anyB (fun p => dotB N C xs ys (p / C) (p % C)) n = S) := hS
  rw [hS]
  obtain ⟨ao, cap, rfl⟩ := sa.slice
  obtain ⟨bo, bcap, rfl⟩ := sb.slice
  obtain ⟨l1, hl1⟩ : ∃ l, xs.length = l := ⟨_, rfl⟩
  obtain ⟨l2, hl2⟩ : ∃ l, ys.length = l := ⟨_, rfl⟩
  rw [hl1] at sa hla ⊢
  rw [hl2] at sb hlb ⊢
  have HL : Hid (xs.length = l1 ∧ ys.length = l2) := ⟨hl1, hl2⟩
  clear hn hS hx hy hl1 hl2 hx64 hy64
  obtain ⟨W, hW⟩ : ∃ W, ((w.alloc (.cells #[.int .i64 R, .int .i64 N, .slice ao l1 cap] 24)).alloc (.cells #[.int .i64 N, .int .i64 C, .slice bo l2 bcap] 24)).alloc (.cells #[.int .i64 0, .int .i64 0, .slice none 0 0] 24) = W := ⟨_, rfl⟩
  obtain ⟨x1, x0, x2⟩ := allocs3 w (.cells #[.int .i64 R, .int .i64 N, .slice ao l1 cap] 24) (.cells #[.int .i64 N, .int .i64 C, .slice bo l2 bcap] 24) (.cells #[.int .i64 0, .int .i64 0, .slice none 0 0] 24)
  have bq := ball3 w (.cells #[.int .i64 R, .int .i64 N, .slice ao l1 cap] 24) (.cells #[.int .i64 N, .int .i64 C, .slice bo l2 bcap] 24) (.cells #[.int .i64 0, .int .i64 0, .slice none 0 0] 24)
  rw [hW] at x1 x0 x2 bq
  obtain ⟨u0, u1, u2, _⟩ := mat_cells x1
  obtain ⟨t0, t1, t2, _⟩ := mat_cells x0
  go_enter Tryz.func24, Tryz.ntmps24
  go_wp2_with (go_at_call 61; refine (hno _).mono ?_; rintro e w1 ⟨g, gc, rfl, hown, b1⟩)
  clear u0 u1 u2 t0 t1 t2
  have hgW := (hown.lt g rfl).1
  have hDg : w.heap.size + 1 + 1 < g := Nat.lt_of_lt_of_le (lt_of_block x2) hgW
  have y1 := heap_old (keep b1 x1) (.cells #[.int .i64 R, .int .i64 C, .slice (some ⟨g, 0, none⟩) n gc] 24)
  have y0 := heap_old (keep b1 x0) (.cells #[.int .i64 R, .int .i64 C, .slice (some ⟨g, 0, none⟩) n gc] 24)
  have y2 := heap_old (keep b1 x2) (.cells #[.int .i64 R, .int .i64 C, .slice (some ⟨g, 0, none⟩) n gc] 24)
  have y3 := heap_new w1 (.cells #[.int .i64 R, .int .i64 C, .slice (some ⟨g, 0, none⟩) n gc] 24)
  have bw := (bt (bt bq b1) (box_below w1 (.cells #[.int .i64 R, .int .i64 C, .slice (some ⟨g, 0, none⟩) n gc] 24)))
  have F0 : Fills (w1.alloc (.cells #[.int .i64 R, .int .i64 C, .slice (some ⟨g, 0, none⟩) n gc] 24)) g gc n (fun _ => 0) (w1.alloc (.cells #[.int .i64 R, .int .i64 C, .slice (some ⟨g, 0, none⟩) n gc] 24)) := Fills.start (hown.alloc _)
  have hgw : w.heap.size ≤ g := Nat.le_trans bq.size hgW
  obtain ⟨V, hV⟩ : ∃ V, w1.alloc (.cells #[.int .i64 R, .int .i64 C, .slice (some ⟨g, 0, none⟩) n gc] 24) = V := ⟨_, rfl⟩
  rw [hV] at y1 y0 y2 y3 bw F0 ⊢
  have gx1 := F0.apart y1
  have gx0 := F0.apart y0
  have gx2 := F0.apart y2
  have gx3 := F0.apart y3
  clear hV hW x1 x0 x2 hown b1 bq hno
  go_loopw [8, 9] (fun m i wr => ∃ a : Nat, a ≤ R ∧ i = .int .i64 a ∧ m = .bool (anyB (fun p => dotB N C xs ys (p / C) (p % C)) (a * C)) ∧ Fills V g gc n (upto (fun p => dot N C xs ys (p / C) (p % C)) (a * C)) wr) (fun _ i _ => R - (intOf i).toNat)
  case atStart => exact ⟨0, Nat.zero_le _, rfl, by rw [Nat.zero_mul]; rfl, by rw [Nat.zero_mul]; exact F0.congr (upto_zero _ n)⟩
  case round =>
    clear F0
    obtain ⟨i, hi, rfl, rfl, hF⟩ := hrel
    obtain ⟨u0, u1, u2, _⟩ := mat_cells (hF.keep y1 gx1)
    obtain ⟨t0, t1, t2, _⟩ := mat_cells (hF.keep y0 gx0)
    by_cases hlt : i < R
    · go_wp2
      clear u0 u1 u2 t0 t1 t2
      go_loopw [8, 10] (fun m c wr => ∃ a : Nat, a ≤ C ∧ c = .int .i64 a ∧ m = .bool (anyB (fun p => dotB N C xs ys (p / C) (p % C)) (i * C + a)) ∧ Fills V g gc n (upto (fun p => dot N C xs ys (p / C) (p % C)) (i * C + a)) wr) (fun _ c _ => C - (intOf c).toNat)
      case atStart => exact ⟨0, Nat.zero_le _, rfl, rfl, hF⟩
      case round =>
        clear hF
        obtain ⟨k, hk, rfl, rfl, hF⟩ := hrel
        obtain ⟨u0, u1, u2, _⟩ := mat_cells (hF.keep y1 gx1)
        obtain ⟨t0, t1, t2, _⟩ := mat_cells (hF.keep y0 gx0)
        by_cases hlk : k < C
        · have pA : i * C + k < n := by rw [← HQ.out.1]; exact at_lt hlt hlk
          have EA : Hid (i * C + (k + 1) = i * C + k + 1) := rfl
          have ED : Hid (dot N C xs ys ((i * C + k) / C) ((i * C + k) % C) = smv (fun j => mul (ge xs (i * N + j)) (ge ys (j * C + k))) N) := by show _ = _; rw [div_of hlk, mod_of hlk]; rfl
          have EB : Hid (dotB N C xs ys ((i * C + k) / C) ((i * C + k) % C) = smB (fun j => mul (ge xs (i * N + j)) (ge ys (j * C + k))) (fun j => mulB (ge xs (i * N + j)) (ge ys (j * C + k))) N) := by show _ = _; rw [div_of hlk, mod_of hlk]; rfl
          have hF1 := hF.congr (prt_zero (fun p => dot N C xs ys (p / C) (p % C)) (i * C + k) n)
          obtain ⟨A, hA⟩ : ∃ A, anyB (fun p => dotB N C xs ys (p / C) (p % C)) (i * C + k) = A := ⟨_, rfl⟩
          have HA : Hid (anyB (fun p => dotB N C xs ys (p / C) (p % C)) (i * C + k + 1) = (A || dotB N C xs ys ((i * C + k) / C) ((i * C + k) % C))) := by show _ = _; rw [← hA]; rfl
          rw [hA]
          obtain ⟨qa, hqa⟩ : ∃ qa, i * C = qa := ⟨_, rfl⟩
          have hqa' : (i : Int) * (C : Int) = (qa : Int) := by rw [← hqa]; exact (Int.natCast_mul i C).symm
          have HQA : Hid (i * C = qa) := hqa
          rw [hqa] at pA EA ED EB hF1 HA
          have ba : qa ≤ 64 := by omega
          clear hqa hA hF
          go_wp2
          clear u0 u1 u2 t0 t1 t2
          go_loopw [8, 12] (fun m c wr => ∃ a : Nat, a ≤ N ∧ c = .int .i64 a ∧ m = .bool (A || smB (fun j => mul (ge xs (i * N + j)) (ge ys (j * C + k))) (fun j => mulB (ge xs (i * N + j)) (ge ys (j * C + k))) a) ∧ Fills V g gc n (prt (fun p => dot N C xs ys (p / C) (p % C)) (qa + k) (smv (fun j => mul (ge xs (i * N + j)) (ge ys (j * C + k))) a)) wr) (fun _ c _ => N - (intOf c).toNat)
          case atStart => exact ⟨0, Nat.zero_le _, rfl, by simp [smB], hF1⟩
          case round =>
            clear hF1
            obtain ⟨j, hj, rfl, rfl, hF⟩ := hrel
            obtain ⟨u0, u1, u2, _⟩ := mat_cells (hF.keep y1 gx1)
            obtain ⟨t0, t1, t2, _⟩ := mat_cells (hF.keep y0 gx0)
            obtain ⟨v0, v1, v2, _⟩ := mat_cells (hF.keep y3 gx3)
            by_cases hlj : j < N
            · have pX : i * N + j < l1 := by rw [← HL.out.1, HQ.out.2.1]; exact at_lt hlt hlj
              have pY : j * C + k < l2 := by rw [← HL.out.2, HQ.out.2.2]; exact at_lt hlj hlk
              have hc := hF.cell pA
              rw [prt_at] at hc
              have hf := hF.free (qa + k)
              have HM : Hid (∀ f x, smB f x (j + 1) = (smB f x j || x j || addB (smv f j) (f j))) := fun f x => rfl
              have HV : Hid (∀ f, smv f (j + 1) = add (smv f j) (f j)) := fun f => rfl
              have HM := HM.out (fun j => mul (ge xs (i * N + j)) (ge ys (j * C + k))) (fun j => mulB (ge xs (i * N + j)) (ge ys (j * C + k)))
              have HV := HV.out (fun j => mul (ge xs (i * N + j)) (ge ys (j * C + k)))
              have HF : ∀ m z, Fills V g gc n _ _ := fun m z => ((hF.drewN m).store (qa + k) z).congr (prt_step _ _ _ z n)
              obtain ⟨ad, rfl, ca⟩ := (hF.sees sa bw hgw).at (i * N + j) (by rw [HL.out.1]; exact pX)
              obtain ⟨bd, rfl, cb⟩ := (hF.sees sb bw hgw).at (j * C + k) (by rw [HL.out.2]; exact pY)
              obtain ⟨sv, hsv⟩ : ∃ sv, smv (fun j => mul (ge xs (i * N + j)) (ge ys (j * C + k))) j = sv := ⟨_, rfl⟩
              obtain ⟨M, hM⟩ : ∃ M, smB (fun j => mul (ge xs (i * N + j)) (ge ys (j * C + k))) (fun j => mulB (ge xs (i * N + j)) (ge ys (j * C + k))) j = M := ⟨_, rfl⟩
              simp only [hsv, hM] at HM HV hc
              obtain ⟨x, hx⟩ : ∃ x, ge xs (i * N + j) = x := ⟨_, rfl⟩
              obtain ⟨y, hy⟩ : ∃ y, ge ys (j * C + k) = y := ⟨_, rfl⟩
              rw [hx, hy] at HM HV
              rw [hx] at ca
              rw [hy] at cb
              have HM : Hid _ := HM
              have HV : Hid _ := HV
              rw [hM]
              clear hx hy hM hsv hF
              obtain ⟨qx, hqx⟩ : ∃ qx, i * N = qx := ⟨_, rfl⟩
              have hqx' : (i : Int) * (N : Int) = (qx : Int) := by rw [← hqx]; exact (Int.natCast_mul i N).symm
              obtain ⟨qy, hqy⟩ : ∃ qy, j * C = qy := ⟨_, rfl⟩
              have hqy' : (j : Int) * (C : Int) = (qy : Int) := by rw [← hqy]; exact (Int.natCast_mul j C).symm
              rw [hqx] at pX ca
              rw [hqy] at pY cb
              clear hqx hqy
              have bx : qx ≤ 64 := by omega
              have by' : qy ≤ 64 := by omega
              obtain ⟨X, hX⟩ : ∃ X, mulB x y = X := ⟨_, rfl⟩
              obtain ⟨P, hP⟩ : ∃ P, mul x y = P := ⟨_, rfl⟩
              have hrm : ∀ w, Calls Tryz.prog 31 #[.int .i64 x, .int .i64 y] w fun e w' => e = .returned (.tuple #[.int .i64 P, .bool X]) ∧ w' = w := fun w => by rw [← hX, ← hP]; exact rmul_any x y w
              rw [hX, hP] at HM
              rw [hP] at HV
              clear hX hP
              cases hAM : (A || M) <;> cases X
              all_goals
                go_wp2
                go_quiet ((go_at_call 31; exact Calls.quiet_of_same (hrm _)))
                go_wp2_with (go_at_call 43; refine (radd_any _ _ _).mono ?_; rintro e wy ⟨rfl, rfl⟩)
                go_roundw
                case rel => exact ⟨j + 1, by omega, by go_num, by rw [HM.out, or4, hAM]; rfl, by rw [HV.out]; exact HF _ _⟩
                case measure => simp [intOf]; omega
            · have e : j = N := by omega
              subst e
              rw [← EB.out]
              rw [← ED.out] at hF
              go_wp2
              go_roundw
              case rel => exact ⟨k + 1, by omega, by go_num, by rw [HQA.out, EA.out, HA.out], by rw [HQA.out, EA.out]; exact hF.congr (prt_end (fun p => dot j C xs ys (p / C) (p % C)) (qa + k) n)⟩
              case measure => simp [intOf]; omega
        · have e : k = C := by omega
          subst e
          go_wp2
          go_roundw
          case rel => exact ⟨i + 1, by omega, by go_num, by rw [Nat.succ_mul], by rw [Nat.succ_mul]; exact hF⟩
          case measure => simp [intOf]; omega
    · have e : i = R := by omega
      subst e
      rw [HQ.out.1] at hF ⊢
      rw [HS.out]
      obtain ⟨v0, v1, v2, _⟩ := mat_cells (hF.keep y3 gx3)
      obtain ⟨d0, d1, d2, f0, f1, f2⟩ := mat_cells (hF.keep y2 gx2)
      have hsh := hF.owns (B := w.heap.size) hgw hDg
      rw [upto_all] at hsh
      have hbl := hF.below bw hgw
      clear hF
      go_wp2
      refine bodyPost_ret (v := .tuple #[.agg #[.int .i64 i, .int .i64 C, .slice (some ⟨g, 0, none⟩) n gc], .bool S, .int .i64 0]) (by simp [results, Tryz.results24, go_sem, d0, d1, d2]) rfl ?_
      refine ⟨_, rfl, ?_, below_put hbl (by omega) _ _ _⟩
      exact hsh _ _ _

theorem rmul_mat (R N C : Nat) (r1 : 1 ≤ R) (hR : R ≤ 8) (n1 : 1 ≤ N) (hN : N ≤ 8) (c1 : 1 ≤ C) (hC : C ≤ 8) (va vb : Value) (xs ys : List Int) (hx : xs.length = R * N) (hy : ys.length = N * C) (w : World) (sa : Sees w va xs) (sb : Sees w vb ys) :
    Calls Tryz.prog 24 #[.agg #[.int .i64 R, .int .i64 N, va], .agg #[.int .i64 N, .int .i64 C, vb]] w fun e b =>
      ∃ v, e = .returned (.tuple #[.agg #[.int .i64 R, .int .i64 C, v], .bool (prdB R N C xs ys), .int .i64 0]) ∧ Sees b v (prd R N C xs ys) ∧ New w.heap.size v ∧ Below w.heap.size w b := by
  refine (rmul_own R N C r1 hR n1 hN c1 hC va vb xs ys hx hy w sa sb).mono ?_
  rintro e b ⟨v, he, ho, hb⟩
  exact ⟨v, he, Sees.own ho, New.own ho, hb⟩

set_option maxRecDepth 40000 in
set_option maxHeartbeats 400000 in
theorem rmul_not (R N M C : Int) (h : N ≠ M) (va vb : Value) (xs ys : List Int) (w : World) (sa : Sees w va xs) (sb : Sees w vb ys) :
    Calls Tryz.prog 24 #[.agg #[.int .i64 R, .int .i64 N, va], .agg #[.int .i64 M, .int .i64 C, vb]] w fun e b =>
      e = .returned (.tuple #[.agg #[.int .i64 0, .int .i64 0, .slice none 0 0], .bool false, .int .i64 9]) ∧ Below w.heap.size w b := by
  obtain ⟨ao, cap, rfl⟩ := sa.slice
  obtain ⟨bo, bcap, rfl⟩ := sb.slice
  clear sa sb
  have e1 : ¬ (N = M) := h
  have b0 := ball3 w (.cells #[.int .i64 R, .int .i64 N, .slice ao xs.length cap] 24) (.cells #[.int .i64 M, .int .i64 C, .slice bo ys.length bcap] 24) (.cells #[.int .i64 0, .int .i64 0, .slice none 0 0] 24)
  go_enter Tryz.func24, Tryz.ntmps24
  go_wp2
  refine bodyPost_ret (v := .tuple #[.agg #[.int .i64 0, .int .i64 0, .slice none 0 0], .bool false, .int .i64 9]) (by simp [results, Tryz.results24, go_sem]) rfl ?_
  exact ⟨rfl, b0⟩
end Go.Proofs.YtiniobcknmaigaaGreat

/-
  Plain arithmetic: a long division in halves of 32 bits, as math/bits.Div64 does it. No program in sight.
-/
namespace Go.Proofs.YtiniobcknmaigaaGreat.Qm

theorem mulV (q v1 v0 : Int) : q * (v1 * 4294967296 + v0) = q * v1 * 4294967296 + q * v0 := by rw [Int.mul_add, Int.mul_assoc]

/-- what stands at the head of a round that mends a guess: q the guess, r what is left of the upper half -/
structure Guess (u v1 v0 c q r : Int) : Prop where
  sum : q * v1 + r = u
  r0 : 0 ≤ r
  r1 : r ≤ 4294967295
  q0 : 0 ≤ q
  q1 : q ≤ 4294967297
  up : u * 4294967296 + c < q * v1 * 4294967296 + q * v0 + v1 * 4294967296 + v0
  a0 : 0 ≤ q * v1
  b0 : 0 ≤ q * v0

/-- what may be divided -/
structure Fit (u v1 v0 c : Int) : Prop where
  v10 : 2147483648 ≤ v1
  v11 : v1 ≤ 4294967295
  v00 : 0 ≤ v0
  v01 : v0 ≤ 4294967295
  u0 : 0 ≤ u
  u1 : u < v1 * 4294967296 + v0
  c0 : 0 ≤ c
  c1 : c ≤ 4294967295

theorem Guess.init {u v1 v0 c : Int} (f : Fit u v1 v0 c) : Guess u v1 v0 c (u / v1) (u - u / v1 * v1) := by
  obtain ⟨v10, v11, v00, v01, u0, u1, c0, c1⟩ := f
  have hq0 : 0 ≤ u / v1 := Int.ediv_nonneg u0 (by omega)
  have e := Int.emod_add_mul_ediv u v1
  have m0 := Int.emod_nonneg u (show v1 ≠ 0 by omega)
  have m1 := Int.emod_lt_of_pos u (show 0 < v1 by omega)
  rw [Int.mul_comm] at e
  have hb0 : 0 ≤ u / v1 * v0 := Int.mul_nonneg hq0 v00
  have ha0 : 0 ≤ u / v1 * v1 := Int.mul_nonneg hq0 (by omega)
  have hq1 : u / v1 < 4294967298 := Int.ediv_lt_of_lt_mul (by omega) (by omega)
  exact ⟨by omega, by omega, by omega, hq0, by omega, by omega, ha0, hb0⟩

/-- a guess that is too great -/
theorem Guess.less {u v1 v0 c q r : Int} (f : Fit u v1 v0 c) (g : Guess u v1 v0 c q r) (h : 4294967296 ≤ q ∨ 4294967296 * r + c < q * v0) :
    1 ≤ q ∧ u * 4294967296 + c < q * v1 * 4294967296 + q * v0 := by
  obtain ⟨v10, v11, v00, v01, u0, u1, c0, c1⟩ := f
  obtain ⟨sum, r0, r1, q0, q1, up, a0, b0⟩ := g
  rcases h with h | h
  · refine ⟨by omega, ?_⟩
    have h1 : 4294967296 * v1 ≤ q * v1 := Int.mul_le_mul_of_nonneg_right h (by omega)
    have h2 : 4294967296 * v0 ≤ q * v0 := Int.mul_le_mul_of_nonneg_right h (by omega)
    omega
  · refine ⟨?_, by omega⟩
    by_cases hq : 0 < q
    · omega
    · have : q = 0 := by omega
      subst this
      rw [Int.zero_mul] at h
      omega

theorem Guess.next {u v1 v0 c q r : Int} (f : Fit u v1 v0 c) (g : Guess u v1 v0 c q r) (h : 4294967296 ≤ q ∨ 4294967296 * r + c < q * v0) (hr : r + v1 < 4294967296) :
    Guess u v1 v0 c (q - 1) (r + v1) := by
  obtain ⟨h1, h2⟩ := g.less f h
  obtain ⟨v10, v11, v00, v01, u0, u1, c0, c1⟩ := f
  obtain ⟨sum, r0, r1, q0, q1, up, a0, b0⟩ := g
  have e1 : (q - 1) * v1 = q * v1 - v1 := by rw [Int.sub_mul, Int.one_mul]
  have e0 : (q - 1) * v0 = q * v0 - v0 := by rw [Int.sub_mul, Int.one_mul]
  have n1 : 0 ≤ (q - 1) * v1 := Int.mul_nonneg (by omega) (by omega)
  have n0 : 0 ≤ (q - 1) * v0 := Int.mul_nonneg (by omega) (by omega)
  exact ⟨by omega, by omega, by omega, by omega, by omega, by omega, n1, n0⟩

/-- the guess is right: the quotient, and what is left, going round at 2^64 or not -/
def Hit (u v1 v0 c q : Int) : Prop := q = (u * 4294967296 + c) / (v1 * 4294967296 + v0)

theorem hit_of {u v1 v0 c q : Int} (f : Fit u v1 v0 c) (h1 : q * v1 * 4294967296 + q * v0 ≤ u * 4294967296 + c) (h2 : u * 4294967296 + c < q * v1 * 4294967296 + q * v0 + v1 * 4294967296 + v0) : Hit u v1 v0 c q := by
  obtain ⟨v10, v11, v00, v01, u0, u1, c0, c1⟩ := f
  unfold Hit
  symm
  have hV : 0 < v1 * 4294967296 + v0 := by omega
  apply (Int.ediv_eq_iff_of_pos hV).2
  have e := mulV q v1 v0
  constructor
  · omega
  · have e2 : (q + 1) * (v1 * 4294967296 + v0) = q * (v1 * 4294967296 + v0) + (v1 * 4294967296 + v0) := by rw [Int.add_mul, Int.one_mul]
    omega

/-- the round that breaks off -/
theorem Guess.broke {u v1 v0 c q r : Int} (f : Fit u v1 v0 c) (g : Guess u v1 v0 c q r) (h : 4294967296 ≤ q ∨ 4294967296 * r + c < q * v0) (hr : ¬ r + v1 < 4294967296) :
    Hit u v1 v0 c (q - 1) := by
  obtain ⟨h1, h2⟩ := g.less f h
  have f' := f
  obtain ⟨v10, v11, v00, v01, u0, u1, c0, c1⟩ := f
  obtain ⟨sum, r0, r1, q0, q1, up, a0, b0⟩ := g
  have e1 : (q - 1) * v1 = q * v1 - v1 := by rw [Int.sub_mul, Int.one_mul]
  have e0 : (q - 1) * v0 = q * v0 - v0 := by rw [Int.sub_mul, Int.one_mul]
  have n0 : (q - 1) * v0 ≤ 4294967296 * 4294967295 := Int.mul_le_mul (by omega) v01 v00 (by omega)
  exact hit_of f' (by omega) (by omega)

/-- the guess stands -/
theorem Guess.stands {u v1 v0 c q r : Int} (f : Fit u v1 v0 c) (g : Guess u v1 v0 c q r) (h : ¬ 4294967296 * r + c < q * v0) :
    Hit u v1 v0 c q := by
  obtain ⟨sum, r0, r1, q0, q1, up, a0, b0⟩ := g
  exact hit_of f (by omega) (by omega)

/-- what a right guess says -/
theorem Hit.bounds {u v1 v0 c q : Int} (f : Fit u v1 v0 c) (h : Hit u v1 v0 c q) :
    0 ≤ q ∧ q ≤ 4294967295 ∧ u * 4294967296 + c - q * (v1 * 4294967296 + v0) = (u * 4294967296 + c) % (v1 * 4294967296 + v0) ∧
    0 ≤ (u * 4294967296 + c) % (v1 * 4294967296 + v0) ∧ (u * 4294967296 + c) % (v1 * 4294967296 + v0) < v1 * 4294967296 + v0 := by
  obtain ⟨v10, v11, v00, v01, u0, u1, c0, c1⟩ := f
  unfold Hit at h
  have hV : 0 < v1 * 4294967296 + v0 := by omega
  have e := Int.emod_add_mul_ediv (u * 4294967296 + c) (v1 * 4294967296 + v0)
  rw [← h, Int.mul_comm (v1 * 4294967296 + v0) q] at e
  have hq0 : 0 ≤ q := by rw [h]; exact Int.ediv_nonneg (by omega) (by omega)
  have hq1 : q < 4294967296 := by rw [h]; exact Int.ediv_lt_of_lt_mul hV (by omega)
  exact ⟨hq0, by omega, by omega, Int.emod_nonneg _ (by omega), Int.emod_lt_of_pos _ hV⟩

end Go.Proofs.YtiniobcknmaigaaGreat.Qm
