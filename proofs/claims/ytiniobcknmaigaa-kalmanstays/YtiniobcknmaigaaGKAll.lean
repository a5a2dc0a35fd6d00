/-
  Predict and Update, of whatever right matrices: what they answer, in one form.
-/
import Derived.Test.YtiniobcknmaigaaGKBad
import Derived.Test.YtiniobcknmaigaaG36
namespace Go.Proofs.Ytiniobcknmaigaa
open Go.RowKit Go.Sort Qm

theorem sees_nil (w : World) : Sees w (.slice none 0 0) [] := ⟨none, 0, rfl, fun k hk => by simp at hk⟩
theorem pred_all (n : Nat) (n1 : 1 ≤ n) (n8 : n ≤ 8) (vx vp vf vq : Value) (xs ps fs qs : List Int) (hx : xs.length = n * 1) (hp : ps.length = n * n) (rf cf rq cq : Int) (R C R' C' : Nat) (hf : IsRight rf cf fs R C) (hq : IsRight rq cq qs R' C') :
    ∃ E : Int, ∀ v, Sees v vx xs → Sees v vp ps → Sees v vf fs → Sees v vq qs → Calls Try.prog 21 #[.agg #[.int .i64 n, .int .i64 1, vx, .int .i64 n, .int .i64 n, vp], .agg #[.int .i64 rf, .int .i64 cf, vf], .agg #[.int .i64 rq, .int .i64 cq, vq]] v fun e b =>
      ∃ r1 c1 r2 c2 xo xc po pc xs' ps' od, e = .returned (.tuple #[.agg #[.int .i64 r1, .int .i64 c1, .slice xo (List.length xs') xc, .int .i64 r2, .int .i64 c2, .slice po (List.length ps') pc], .bool od, .int .i64 E]) ∧ Sees b (.slice xo xs'.length xc) xs' ∧ Sees b (.slice po ps'.length pc) ps' ∧ ((E == 0) = true → trkB r1 c1 xs' r2 c2 ps' = true) ∧ Below v.heap.size v b := by
  by_cases h : (rf = n ∧ cf = n) ∧ rq = n ∧ cq = n
  · obtain ⟨⟨e1, e2⟩, e3, e4⟩ := h
    have a1 := hf.hr; have a2 := hf.hc; have a3 := hq.hr; have a4 := hq.hc
    have b1 : R = n := by omega
    have b2 : C = n := by omega
    have b3 : R' = n := by omega
    have b4 : C' = n := by omega
    subst e1 e2 e3 e4
    subst b1 b2 b3 b4
    refine ⟨0, fun v sx sp sf sq => (kpredict_any C' n1 n8 vx vp vf vq xs ps fs qs hx hp hf.len hq.len v sx sp sf sq).mono ?_⟩
    rintro e b ⟨va, vb, rfl, s1, s2, _, _, hb⟩
    obtain ⟨xo, xc, rfl⟩ := s1.slice
    obtain ⟨po, pc, rfl⟩ := s2.slice
    refine ⟨_, _, _, _, xo, xc, po, pc, _, _, _, rfl, s1, s2, fun _ => ?_, hb⟩
    exact trk_mk n1 n8 (prd_len _ _ _ _ _) (gd_len _ _) (prd_in _ _ _ _ _) (gd_in (pai_add_in _ _)) (evB_gd _ _)
  · refine ⟨9, fun v sx sp sf sq => ?_⟩
    obtain ⟨xo, xc, rfl⟩ := sx.slice
    obtain ⟨po, pc, rfl⟩ := sp.slice
    obtain ⟨fo, fc, rfl⟩ := sf.slice
    obtain ⟨qo, qc, rfl⟩ := sq.slice
    refine (kpredict_not n 1 n n rf cf rq cq _ _ _ _ _ _ _ _ xo po fo qo h v).mono ?_
    rintro e b ⟨rfl, hb⟩
    exact ⟨0, 0, 0, 0, none, 0, none, 0, [], [], false, rfl, sees_nil b, sees_nil b, (fun h => by cases h), hb⟩
theorem upd_all (n : Nat) (n1 : 1 ≤ n) (n8 : n ≤ 8) (vx vp vh : Value) (xs ps hs : List Int) (hx : xs.length = n * 1) (hp : ps.length = n * n) (ix : AllIn xs) (ip : AllIn ps) (he : evB n ps = true) (rh ch : Int) (R C : Nat) (hh : IsRight rh ch hs R C) (z r gate : Int) :
    ∃ (G : Int) (tk : Bool), ∀ v, Sees v vx xs → Sees v vp ps → Sees v vh hs → Calls Try.prog 22 #[.agg #[.int .i64 n, .int .i64 1, vx, .int .i64 n, .int .i64 n, vp], .agg #[.int .i64 rh, .int .i64 ch, vh], .int .i64 z, .int .i64 r, .int .i64 gate] v fun e b =>
      ∃ r1 c1 r2 c2 xo xc po pc xs' ps' od, e = .returned (.tuple #[.agg #[.int .i64 r1, .int .i64 c1, .slice xo (List.length xs') xc, .int .i64 r2, .int .i64 c2, .slice po (List.length ps') pc], .bool tk, .bool od, .int .i64 G]) ∧ Sees b (.slice xo xs'.length xc) xs' ∧ Sees b (.slice po ps'.length pc) ps' ∧ ((G == 0) = true → trkB r1 c1 xs' r2 c2 ps' = true) ∧ ((G == 0) = true → tk = false → (sameB r1 c1 xs' n 1 xs && sameB r2 c2 ps' n n ps) = true) ∧ Below v.heap.size v b := by
  by_cases h : (rh = 1 ∧ ch = n) ∧ 0 < r
  · obtain ⟨⟨e1, e2⟩, hr⟩ := h
    have a1 := hh.hr; have a2 := hh.hc
    have b1 : R = 1 := by omega
    have b2 : C = n := by omega
    subst e1 e2 b1 b2
    cases hb : (decide (mul (inY C xs hs z) (inY C xs hs z) ≤ mul gate (inS C ps hs r)) && decide (0 < inS C ps hs r)) with
    | false =>
      refine ⟨0, false, fun v sx sp sh => (kupdate_no C n1 n8 vx vp vh xs ps hs hx hp hh.len z r gate hr v sx sp sh hb).mono ?_⟩
      rintro e b ⟨va, vb, rfl, s1, s2, _, _, hb⟩
      obtain ⟨xo, xc, rfl⟩ := s1.slice
      obtain ⟨po, pc, rfl⟩ := s2.slice
      refine ⟨_, _, _, _, xo, xc, po, pc, _, _, _, rfl, s1, s2, fun _ => trk_mk n1 n8 hx hp ix ip he, fun _ _ => ?_, hb⟩
      rw [sameB_self, sameB_self]; rfl
    | true =>
      refine ⟨0, true, fun v sx sp sh => (kupdate_any C n1 n8 vx vp vh xs ps hs hx hp hh.len z r gate hr v sx sp sh hb).mono ?_⟩
      rintro e b ⟨va, vb, rfl, s1, s2, _, _, hb⟩
      obtain ⟨xo, xc, rfl⟩ := s1.slice
      obtain ⟨po, pc, rfl⟩ := s2.slice
      refine ⟨_, _, _, _, xo, xc, po, pc, _, _, _, rfl, s1, s2, fun _ => ?_, fun _ h => (by cases h), hb⟩
      exact trk_mk n1 n8 (by unfold upX; rw [pai_len]; exact hx) (gd_len _ _) (pai_add_in _ _) (gd_in (pai_add_in _ _)) (evB_gd _ _)
  · have h' : ¬ (rh = 1 ∧ ch = n) ∨ r ≤ 0 := by
      by_cases g : rh = 1 ∧ ch = n
      · exact .inr (by have : ¬ 0 < r := fun k => h ⟨g, k⟩
                       omega)
      · exact .inl g
    refine ⟨if rh = 1 ∧ ch = n then 1 else 9, false, fun v sx sp sh => ?_⟩
    obtain ⟨xo, xc, rfl⟩ := sx.slice
    obtain ⟨po, pc, rfl⟩ := sp.slice
    obtain ⟨ho, hc, rfl⟩ := sh.slice
    refine (kupdate_bad n 1 n n rh ch _ _ _ _ _ _ xo po ho z r gate h' v).mono ?_
    rintro e b ⟨rfl, hb⟩
    have hG : ∀ {P : Prop}, (((if rh = 1 ∧ ch = n then (1 : Int) else 9) == 0) = true → P) := fun h => by
      split at h <;> cases h
    exact ⟨0, 0, 0, 0, none, 0, none, 0, [], [], false, rfl, sees_nil b, sees_nil b, hG, hG, hb⟩
end Go.Proofs.Ytiniobcknmaigaa
