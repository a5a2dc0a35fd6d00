/-
  Update, with what it takes told apart; what is right off, and a gate below 0, in plain numbers.
-/
import Derived.Test.YtiniobcknmaigaaG35
import Derived.Test.YtiniobcknmaigaaG36
namespace Go.Proofs.Ytiniobcknmaigaa
open Go.RowKit Go.Sort Qm

namespace Qm
/-- is it taken? -/
def tkB (n : Nat) (xs ps hs : List Int) (z r gate : Int) : Bool := decide (mul (inY n xs hs z) (inY n xs hs z) ≤ mul gate (inS n ps hs r)) && decide (0 < inS n ps hs r)
theorem inY_bd (n : Nat) (xs hs : List Int) (z : Int) : -70368744177664 ≤ inY n xs hs z ∧ inY n xs hs z ≤ 70368744177663 := ⟨cl_lo _, cl_hi _⟩
theorem inS_bd (n : Nat) (ps hs : List Int) (r : Int) : -70368744177664 ≤ inS n ps hs r ∧ inS n ps hs r ≤ 70368744177663 := ⟨cl_lo _, cl_hi _⟩
theorem mul_sq (d : Int) : 0 ≤ mul d d := by
  have hn : ng d d = false := by
    unfold ng flip
    split
    · rfl
    · rfl
  have hp := pr_bd d d
  have h0 : 0 ≤ pr d d / 16777216 := Int.ediv_nonneg hp.1 (by omega)
  have h1 := near_bd (pr d d / 16777216) (pr d d % 16777216) 16777216
  unfold mul mulv
  rw [hn, sg_f]
  unfold cl
  split
  · omega
  · split <;> omega
theorem mul_less {s : Int} (h1 : 16777216 ≤ s) (h2 : s ≤ 70368744177663) : mul (-16777216) s = -s := by
  have e := mulv_minus (a := 16777216) (b := s) (by omega) (by omega)
  have e2 : mulv 16777216 s = s := by
    have := (mul_one' (a := s) (by omega) h2).1
    rw [mulv_comm]
    unfold mulv ng pr
    rw [cl_one, cl_in (by omega) h2, flip_pos (n := 16777216) (by omega), ab_pos (a := 16777216) (by omega), near_whole _ _ (by omega), sg_ab]
  have e3 : (-16777216 : Int) = 0 - 16777216 := by decide
  unfold mul
  rw [e3, e, e2]
  exact cl_in (by omega) (by omega)
theorem tk_right {n : Nat} {xs ps hs : List Int} {z r : Int} (hv : inY n xs hs z = 0) (hs1 : 16777216 ≤ inS n ps hs r) : tkB n xs ps hs z r 16777216 = true := by
  unfold tkB
  rw [hv]
  have h := inS_bd n ps hs r
  have e1 : mul 0 0 = 0 := by decide
  have e2 : mul 16777216 (inS n ps hs r) = inS n ps hs r := by rw [mul_comm']; exact (mul_one' (by omega) h.2).1
  rw [e1, e2]
  simp only [Bool.and_eq_true, decide_eq_true_eq]
  omega
theorem tk_none {n : Nat} {xs ps hs : List Int} {z r : Int} (hs1 : 16777216 ≤ inS n ps hs r) : tkB n xs ps hs z r (-16777216) = false := by
  unfold tkB
  have h := inS_bd n ps hs r
  have h0 := mul_sq (inY n xs hs z)
  rw [mul_less hs1 h.2]
  simp only [Bool.and_eq_false_iff, decide_eq_false_iff_not]
  exact .inl (by omega)
theorem upX_zero {xs k : List Int} (h : AllIn xs) (hk : AllIn k) : upX xs k 0 = xs := by
  unfold upX pai
  refine tab_ge rfl fun p hp => ?_
  have e : ge (scl k 0) p = 0 := by
    by_cases hl : p < k.length
    · unfold scl; rw [ge_tab hl]; exact (mul_none (hk p).1 (hk p).2).1
    · exact ge_out (by unfold scl; rw [tab_len]; omega)
  rw [e]
  exact (add_none (h p).1 (h p).2).1
theorem upK_in (n : Nat) (ps hs : List Int) (s : Int) : AllIn (upK n ps hs s) := fun p => by
  by_cases hl : p < n
  · unfold upK; rw [ge_tab hl]; exact div_bd _ _
  · rw [ge_out (by unfold upK; rw [tab_len]; omega)]; omega
end Qm
theorem upd_gate (n : Nat) (n1 : 1 ≤ n) (n8 : n ≤ 8) (vx vp vh : Value) (xs ps hs : List Int) (hx : xs.length = n * 1) (hp : ps.length = n * n) (hh : hs.length = 1 * n) (z r gate : Int) (hr : 0 < r) (v : World) (sx : Sees v vx xs) (sp : Sees v vp ps) (sh : Sees v vh hs) :
    Calls Try.prog 22 #[.agg #[.int .i64 n, .int .i64 1, vx, .int .i64 n, .int .i64 n, vp], .agg #[.int .i64 1, .int .i64 n, vh], .int .i64 z, .int .i64 r, .int .i64 gate] v fun e b =>
      ∃ xo xc po pc xs' ps' od, e = .returned (.tuple #[.agg #[.int .i64 n, .int .i64 1, .slice xo (List.length xs') xc, .int .i64 n, .int .i64 n, .slice po (List.length ps') pc], .bool (tkB n xs ps hs z r gate), .bool od, .int .i64 0]) ∧ Sees b (.slice xo xs'.length xc) xs' ∧ Sees b (.slice po ps'.length pc) ps' ∧ xs'.length = n * 1 ∧ (tkB n xs ps hs z r gate = true → xs' = upX xs (upK n ps hs (inS n ps hs r)) (inY n xs hs z)) ∧ Below v.heap.size v b := by
  cases hb : tkB n xs ps hs z r gate with
  | false =>
    refine (kupdate_no n n1 n8 vx vp vh xs ps hs hx hp hh z r gate hr v sx sp sh hb).mono ?_
    rintro e b ⟨va, vb, rfl, s1, s2, _, _, hb⟩
    obtain ⟨xo, xc, rfl⟩ := s1.slice
    obtain ⟨po, pc, rfl⟩ := s2.slice
    exact ⟨xo, xc, po, pc, _, _, _, rfl, s1, s2, hx, (fun h => by cases h), hb⟩
  | true =>
    refine (kupdate_any n n1 n8 vx vp vh xs ps hs hx hp hh z r gate hr v sx sp sh hb).mono ?_
    rintro e b ⟨va, vb, rfl, s1, s2, _, _, hb⟩
    obtain ⟨xo, xc, rfl⟩ := s1.slice
    obtain ⟨po, pc, rfl⟩ := s2.slice
    exact ⟨xo, xc, po, pc, _, _, _, rfl, s1, s2, (by unfold upX; rw [pai_len]; exact hx), fun _ => rfl, hb⟩
theorem upd_right (n : Nat) (n1 : 1 ≤ n) (n8 : n ≤ 8) (vx vp vh : Value) (xs ps hs : List Int) (hx : xs.length = n * 1) (hp : ps.length = n * n) (ix : AllIn xs) (hh : hs.length = 1 * n) (z r gate : Int) (hr : 0 < r) (v : World) (sx : Sees v vx xs) (sp : Sees v vp ps) (sh : Sees v vh hs) :
    Calls Try.prog 22 #[.agg #[.int .i64 n, .int .i64 1, vx, .int .i64 n, .int .i64 n, vp], .agg #[.int .i64 1, .int .i64 n, vh], .int .i64 z, .int .i64 r, .int .i64 gate] v fun e b =>
      ∃ xo xc po pc xs' pl od, e = .returned (.tuple #[.agg #[.int .i64 n, .int .i64 1, .slice xo (List.length xs') xc, .int .i64 n, .int .i64 n, .slice po pl pc], .bool (tkB n xs ps hs z r gate), .bool od, .int .i64 0]) ∧ Sees b (.slice xo xs'.length xc) xs' ∧ (tkB n xs ps hs z r gate = true → inY n xs hs z = 0 → xs' = xs) ∧ Below v.heap.size v b := by
  refine (upd_gate n n1 n8 vx vp vh xs ps hs hx hp hh z r gate hr v sx sp sh).mono ?_
  rintro e b ⟨xo, xc, po, pc, xs', ps', od, rfl, s1, s2, _, hk, hb⟩
  refine ⟨xo, xc, po, pc, xs', _, od, rfl, s1, fun h1 h2 => ?_, hb⟩
  rw [hk h1, h2]
  exact upX_zero ix (upK_in _ _ _ _)
end Go.Proofs.Ytiniobcknmaigaa
