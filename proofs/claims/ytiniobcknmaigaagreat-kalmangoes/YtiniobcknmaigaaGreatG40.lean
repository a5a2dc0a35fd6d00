/-
  Texts joined, in the order in which they stand on one another: KGoes.
-/
import Derived.Test.YtiniobcknmaigaaGreatG36
import Derived.Test.YtiniobcknmaigaaGreatG39
/-
  Predict, Update and Innov, the code's and the document's, of whatever right matrices: they answer the same.
-/
namespace Go.Proofs.YtiniobcknmaigaaGreat
open Go.RowKit Go.Sort Qm

namespace Qm
theorem dvF_any (o : Bool) (ks : List Int) (s : Int) : ∀ n, dvF o ks s n = (o || anyB (fun k => divB (ge ks k) s) n)
  | 0 => by simp [dvF, anyB]
  | k + 1 => by
    have h := dvF_any o ks s k
    simp only [dvF, anyB, h]
    simp [Bool.or_assoc]
theorem coF_dv (n : Nat) (xs ps hs : List Int) (y s r : Int) (m : Bool) : (dvF (m || upC n ps hs) (upK0 n ps hs) s n || upE n xs ps hs (upK n ps hs s) y r) = coF n xs ps hs y s r m := by
  have hl : (upK0 n ps hs).length = n := by unfold upK0; rw [prd_len, Nat.mul_one]
  rw [dvF_any]
  unfold coF eaB
  rw [hl]
end Qm
theorem gsees_nil (w : World) : Sees w (.slice none 0 0) [] := ⟨none, 0, rfl, fun k hk => by simp at hk⟩
theorem pred_goes (n : Nat) (n1 : 1 ≤ n) (n8 : n ≤ 8) (vx vp vf vq : Value) (xs ps fs qs : List Int) (hx : xs.length = n * 1) (hp : ps.length = n * n) (rf cf rq cq : Int) (R C R' C' : Nat) (hf : IsRight rf cf fs R C) (hq : IsRight rq cq qs R' C') :
    ∃ (r1 c1 r2 c2 : Int) (X P : List Int) (od : Bool) (E : Int), X.length ≤ 100 ∧ P.length ≤ 100 ∧
      (∀ v, Sees v vx xs → Sees v vp ps → Sees v vf fs → Sees v vq qs → Calls Tryz.prog 7 #[.agg #[.int .i64 n, .int .i64 1, vx, .int .i64 n, .int .i64 n, vp], .agg #[.int .i64 rf, .int .i64 cf, vf], .agg #[.int .i64 rq, .int .i64 cq, vq]] v fun e b =>
        ∃ xo xc po pc, e = .returned (.tuple #[.agg #[.int .i64 r1, .int .i64 c1, .slice xo (List.length X) xc, .int .i64 r2, .int .i64 c2, .slice po (List.length P) pc], .bool od, .int .i64 E]) ∧ Sees b (.slice xo X.length xc) X ∧ Sees b (.slice po P.length pc) P ∧ Below v.heap.size v b) ∧
      (∀ v, Sees v vx xs → Sees v vp ps → Sees v vf fs → Sees v vq qs → Calls Tryz.prog 8 #[.agg #[.int .i64 n, .int .i64 1, vx, .int .i64 n, .int .i64 n, vp], .agg #[.int .i64 rf, .int .i64 cf, vf], .agg #[.int .i64 rq, .int .i64 cq, vq]] v fun e b =>
        ∃ xo xc po pc, e = .returned (.tuple #[.agg #[.int .i64 r1, .int .i64 c1, .slice xo (List.length X) xc, .int .i64 r2, .int .i64 c2, .slice po (List.length P) pc], .bool od, .int .i64 E]) ∧ Sees b (.slice xo X.length xc) X ∧ Sees b (.slice po P.length pc) P ∧ Below v.heap.size v b) := by
  by_cases h : (rf = n ∧ cf = n) ∧ rq = n ∧ cq = n
  · obtain ⟨⟨e1, e2⟩, e3, e4⟩ := h
    have a1 := hf.hr; have a2 := hf.hc; have a3 := hq.hr; have a4 := hq.hc
    have b1 : R = n := by omega
    have b2 : C = n := by omega
    have b3 : R' = n := by omega
    have b4 : C' = n := by omega
    subst e1 e2 e3 e4
    subst b1 b2 b3 b4
    have m1 : (prX C' xs fs).length ≤ 100 := by have e : (prX C' xs fs).length = C' * 1 := prd_len _ _ _ _ _
                                                omega
    have m2 : (prP C' ps fs qs).length ≤ 100 := by have e : (prP C' ps fs qs).length = C' * C' := gd_len _ _
                                                   have := mul_le_64 n8 n8
                                                   omega
    refine ⟨C', 1, C', C', prX C' xs fs, prP C' ps fs qs, prF C' xs ps fs qs, 0, m1, m2, fun v sx sp sf sq => ?_, fun v sx sp sf sq => ?_⟩
    · refine (kpredict_any C' n1 n8 vx vp vf vq xs ps fs qs hx hp hf.len hq.len v sx sp sf sq).mono ?_
      rintro e b ⟨va, vb, rfl, s1, s2, _, _, hb⟩
      obtain ⟨xo, xc, rfl⟩ := s1.slice
      obtain ⟨po, pc, rfl⟩ := s2.slice
      exact ⟨xo, xc, po, pc, rfl, s1, s2, hb⟩
    · refine (rpredict_any C' n1 n8 vx vp vf vq xs ps fs qs hx hp hf.len hq.len v sx sp sf sq).mono ?_
      rintro e b ⟨va, vb, rfl, s1, s2, _, _, hb⟩
      obtain ⟨xo, xc, rfl⟩ := s1.slice
      obtain ⟨po, pc, rfl⟩ := s2.slice
      exact ⟨xo, xc, po, pc, rfl, s1, s2, hb⟩
  · refine ⟨0, 0, 0, 0, [], [], false, 9, by simp, by simp, fun v sx sp sf sq => ?_, fun v sx sp sf sq => ?_⟩
    · obtain ⟨xo, xc, rfl⟩ := sx.slice
      obtain ⟨po, pc, rfl⟩ := sp.slice
      obtain ⟨fo, fc, rfl⟩ := sf.slice
      obtain ⟨qo, qc, rfl⟩ := sq.slice
      refine (kpredict_not n 1 n n rf cf rq cq _ _ _ _ _ _ _ _ xo po fo qo h v).mono ?_
      rintro e b ⟨rfl, hb⟩
      exact ⟨none, 0, none, 0, rfl, gsees_nil b, gsees_nil b, hb⟩
    · obtain ⟨xo, xc, rfl⟩ := sx.slice
      obtain ⟨po, pc, rfl⟩ := sp.slice
      obtain ⟨fo, fc, rfl⟩ := sf.slice
      obtain ⟨qo, qc, rfl⟩ := sq.slice
      refine (rpredict_not n 1 n n rf cf rq cq _ _ _ _ _ _ _ _ xo po fo qo (fun g => h ⟨⟨g.1, g.2.1⟩, g.2.2⟩) v).mono ?_
      rintro e b ⟨rfl, hb⟩
      exact ⟨none, 0, none, 0, rfl, gsees_nil b, gsees_nil b, hb⟩
theorem upd_goes (n : Nat) (n1 : 1 ≤ n) (n8 : n ≤ 8) (vx vp vh : Value) (xs ps hs : List Int) (hx : xs.length = n * 1) (hp : ps.length = n * n) (rh ch : Int) (R C : Nat) (hh : IsRight rh ch hs R C) (z r gate : Int) :
    ∃ (r1 c1 r2 c2 : Int) (X P : List Int) (tk od : Bool) (E : Int), X.length ≤ 100 ∧ P.length ≤ 100 ∧
      (∀ v, Sees v vx xs → Sees v vp ps → Sees v vh hs → Calls Tryz.prog 9 #[.agg #[.int .i64 n, .int .i64 1, vx, .int .i64 n, .int .i64 n, vp], .agg #[.int .i64 rh, .int .i64 ch, vh], .int .i64 z, .int .i64 r, .int .i64 gate] v fun e b =>
        ∃ xo xc po pc, e = .returned (.tuple #[.agg #[.int .i64 r1, .int .i64 c1, .slice xo (List.length X) xc, .int .i64 r2, .int .i64 c2, .slice po (List.length P) pc], .bool tk, .bool od, .int .i64 E]) ∧ Sees b (.slice xo X.length xc) X ∧ Sees b (.slice po P.length pc) P ∧ Below v.heap.size v b) ∧
      (∀ v, Sees v vx xs → Sees v vp ps → Sees v vh hs → Calls Tryz.prog 10 #[.agg #[.int .i64 n, .int .i64 1, vx, .int .i64 n, .int .i64 n, vp], .agg #[.int .i64 rh, .int .i64 ch, vh], .int .i64 z, .int .i64 r, .int .i64 gate] v fun e b =>
        ∃ xo xc po pc, e = .returned (.tuple #[.agg #[.int .i64 r1, .int .i64 c1, .slice xo (List.length X) xc, .int .i64 r2, .int .i64 c2, .slice po (List.length P) pc], .bool tk, .bool od, .int .i64 E]) ∧ Sees b (.slice xo X.length xc) X ∧ Sees b (.slice po P.length pc) P ∧ Below v.heap.size v b) := by
  by_cases h : (rh = 1 ∧ ch = n) ∧ 0 < r
  · obtain ⟨⟨e1, e2⟩, hr⟩ := h
    have a1 := hh.hr; have a2 := hh.hc
    have b1 : R = 1 := by omega
    have b2 : C = n := by omega
    subst e1 e2 b1 b2
    have q64 := mul_le_64 n8 n8
    cases hb : (decide (mul (inY C xs hs z) (inY C xs hs z) ≤ mul gate (inS C ps hs r)) && decide (0 < inS C ps hs r)) with
    | false =>
      have hno : mul gate (inS C ps hs r) < mul (inY C xs hs z) (inY C xs hs z) ∨ inS C ps hs r ≤ 0 := by
        simp only [Bool.and_eq_false_iff, decide_eq_false_iff_not] at hb
        omega
      refine ⟨C, 1, C, C, xs, ps, false, (inF C xs ps hs z r || mulB (inY C xs hs z) (inY C xs hs z) || mulB gate (inS C ps hs r)), 0, by omega, by omega, fun v sx sp sh => ?_, fun v sx sp sh => ?_⟩
      · refine (kupdate_no C n1 n8 vx vp vh xs ps hs hx hp hh.len z r gate hr v sx sp sh hb).mono ?_
        rintro e b ⟨va, vb, rfl, s1, s2, _, _, hb⟩
        obtain ⟨xo, xc, rfl⟩ := s1.slice
        obtain ⟨po, pc, rfl⟩ := s2.slice
        exact ⟨xo, xc, po, pc, rfl, s1, s2, hb⟩
      · refine (rupdate_no C n1 n8 vx vp vh xs ps hs hx hp hh.len z r gate hr v sx sp sh hno).mono ?_
        rintro e b ⟨rfl, hb⟩
        obtain ⟨xo, xc, rfl⟩ := sx.slice
        obtain ⟨po, pc, rfl⟩ := sp.slice
        exact ⟨xo, xc, po, pc, rfl, sx.below hb, sp.below hb, hb⟩
    | true =>
      have hyes : ¬ mul gate (inS C ps hs r) < mul (inY C xs hs z) (inY C xs hs z) ∧ 0 < inS C ps hs r := by
        simp only [Bool.and_eq_true, decide_eq_true_eq] at hb
        omega
      have m1 : (upX xs (upK C ps hs (inS C ps hs r)) (inY C xs hs z)).length ≤ 100 := by unfold upX; rw [pai_len]; omega
      have m2 : (gd C (upPP C ps hs (upK C ps hs (inS C ps hs r)) r)).length ≤ 100 := by rw [gd_len]; omega
      refine ⟨C, 1, C, C, upX xs (upK C ps hs (inS C ps hs r)) (inY C xs hs z), gd C (upPP C ps hs (upK C ps hs (inS C ps hs r)) r), true, coF C xs ps hs (inY C xs hs z) (inS C ps hs r) r (inF C xs ps hs z r || mulB (inY C xs hs z) (inY C xs hs z) || mulB gate (inS C ps hs r)), 0, m1, m2, fun v sx sp sh => ?_, fun v sx sp sh => ?_⟩
      · refine (kupdate_any C n1 n8 vx vp vh xs ps hs hx hp hh.len z r gate hr v sx sp sh hb).mono ?_
        rintro e b ⟨va, vb, rfl, s1, s2, _, _, hb⟩
        obtain ⟨xo, xc, rfl⟩ := s1.slice
        obtain ⟨po, pc, rfl⟩ := s2.slice
        exact ⟨xo, xc, po, pc, rfl, s1, s2, hb⟩
      · have hR := rupdate_any C n1 n8 vx vp vh xs ps hs hx hp hh.len z r gate hr v sx sp sh hyes.1 hyes.2
        rw [coF_dv] at hR
        refine hR.mono ?_
        rintro e b ⟨va, vb, rfl, s1, s2, _, _, hb⟩
        obtain ⟨xo, xc, rfl⟩ := s1.slice
        obtain ⟨po, pc, rfl⟩ := s2.slice
        exact ⟨xo, xc, po, pc, rfl, s1, s2, hb⟩
  · have h' : ¬ (rh = 1 ∧ ch = n) ∨ r ≤ 0 := by
      by_cases g : rh = 1 ∧ ch = n
      · exact .inr (by have : ¬ 0 < r := fun k => h ⟨g, k⟩
                       omega)
      · exact .inl g
    refine ⟨0, 0, 0, 0, [], [], false, false, if rh = 1 ∧ ch = n then 1 else 9, by simp, by simp, fun v sx sp sh => ?_, fun v sx sp sh => ?_⟩
    · obtain ⟨xo, xc, rfl⟩ := sx.slice
      obtain ⟨po, pc, rfl⟩ := sp.slice
      obtain ⟨ho, hc, rfl⟩ := sh.slice
      refine (kupdate_bad n 1 n n rh ch _ _ _ _ _ _ xo po ho z r gate h' v).mono ?_
      rintro e b ⟨rfl, hb⟩
      exact ⟨none, 0, none, 0, rfl, gsees_nil b, gsees_nil b, hb⟩
    · obtain ⟨xo, xc, rfl⟩ := sx.slice
      obtain ⟨po, pc, rfl⟩ := sp.slice
      obtain ⟨ho, hc, rfl⟩ := sh.slice
      refine (rupdate_bad n 1 n n rh ch _ _ _ _ _ _ xo po ho z r gate h' v).mono ?_
      rintro e b ⟨rfl, hb⟩
      exact ⟨none, 0, none, 0, rfl, gsees_nil b, gsees_nil b, hb⟩
theorem inn_goes (n : Nat) (n1 : 1 ≤ n) (n8 : n ≤ 8) (vx vp vh : Value) (xs ps hs : List Int) (hx : xs.length = n * 1) (hp : ps.length = n * n) (rh ch : Int) (R C : Nat) (hh : IsRight rh ch hs R C) (z r : Int) :
    ∃ (y s : Int) (od : Bool) (E : Int),
      (∀ v, Sees v vx xs → Sees v vp ps → Sees v vh hs → Calls Tryz.prog 11 #[.agg #[.int .i64 n, .int .i64 1, vx, .int .i64 n, .int .i64 n, vp], .agg #[.int .i64 rh, .int .i64 ch, vh], .int .i64 z, .int .i64 r] v fun e b => e = .returned (.tuple #[.int .i64 y, .int .i64 s, .bool od, .int .i64 E]) ∧ Below v.heap.size v b) ∧
      (∀ v, Sees v vx xs → Sees v vp ps → Sees v vh hs → Calls Tryz.prog 12 #[.agg #[.int .i64 n, .int .i64 1, vx, .int .i64 n, .int .i64 n, vp], .agg #[.int .i64 rh, .int .i64 ch, vh], .int .i64 z, .int .i64 r] v fun e b => e = .returned (.tuple #[.int .i64 y, .int .i64 s, .bool od, .int .i64 E]) ∧ Below v.heap.size v b) := by
  by_cases h : (rh = 1 ∧ ch = n) ∧ 0 < r
  · obtain ⟨⟨e1, e2⟩, hr⟩ := h
    have a1 := hh.hr; have a2 := hh.hc
    have b1 : R = 1 := by omega
    have b2 : C = n := by omega
    subst e1 e2 b1 b2
    exact ⟨_, _, _, _, fun v sx sp sh => kinnov_any C n1 n8 vx vp vh xs ps hs hx hp hh.len z r hr v sx sp sh, fun v sx sp sh => rinnov_any C n1 n8 vx vp vh xs ps hs hx hp hh.len z r hr v sx sp sh⟩
  · have h' : ¬ (rh = 1 ∧ ch = n) ∨ r ≤ 0 := by
      by_cases g : rh = 1 ∧ ch = n
      · exact .inr (by have : ¬ 0 < r := fun k => h ⟨g, k⟩
                       omega)
      · exact .inl g
    refine ⟨0, 0, false, if rh = 1 ∧ ch = n then 1 else 9, fun v sx sp sh => ?_, fun v sx sp sh => ?_⟩
    · obtain ⟨xo, xc, rfl⟩ := sx.slice
      obtain ⟨po, pc, rfl⟩ := sp.slice
      obtain ⟨ho, hc, rfl⟩ := sh.slice
      exact kinnov_not n 1 n n rh ch _ _ _ _ _ _ xo po ho z r h' v
    · obtain ⟨xo, xc, rfl⟩ := sx.slice
      obtain ⟨po, pc, rfl⟩ := sp.slice
      obtain ⟨ho, hc, rfl⟩ := sh.slice
      exact rinnov_not n 1 n n rh ch _ _ _ _ _ _ xo po ho z r h' v
end Go.Proofs.YtiniobcknmaigaaGreat
