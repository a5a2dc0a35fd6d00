/-
  The code and the document's answer side by side: whatever two right matrices are, both tell the same.
-/
import Derived.Test.YtiniobcknmaigaaRAdd
import Derived.Test.YtiniobcknmaigaaRMulM
import Derived.Test.YtiniobcknmaigaaREven
import Derived.Test.YtiniobcknmaigaaRDiag
namespace Go.Proofs.Ytiniobcknmaigaa
open Go.RowKit Go.Sort Qm

/-- a right matrix -/
structure IsRight (r c : Int) (xs : List Int) (R C : Nat) : Prop where
  hr : r = R
  hc : c = C
  r1 : 1 ≤ R
  r8 : R ≤ 8
  c1 : 1 ≤ C
  c8 : C ≤ 8
  len : xs.length = R * C
  ins : AllIn xs
theorem right_of {r c : Int} {xs : List Int} (h : rightB r c xs = true) : ∃ R C, IsRight r c xs R C := by
  unfold rightB at h
  simp only [Bool.and_eq_true, Bool.not_eq_true'] at h
  obtain ⟨R, C, h1, h2, h3, h4, h5, h6, h7⟩ := laidB_in h.1
  refine ⟨R, C, h1, h2, h3, h4, h5, h6, h7, fun k => ?_⟩
  by_cases hk : k < xs.length
  · have := anyB_of h.2 k hk
    unfold ob at this
    simp only [Bool.or_eq_false_iff, decide_eq_false_iff_not] at this
    omega
  · have e : ge xs k = 0 := by unfold ge; rw [List.getD_eq_getElem?_getD, List.getElem?_eq_none (by omega)]; rfl
    rw [e]; omega
theorem IsRight.le {r c : Int} {xs : List Int} {R C : Nat} (h : IsRight r c xs R C) : xs.length ≤ 64 := by rw [h.len]; exact mul_le_64 h.r8 h.c8

/-- a call of two matrices that tells a matrix, whether a bound was met, and a word -/
def Tells2 (f : Nat) (ra ca : Int) (xs : List Int) (rb cb : Int) (ys : List Int) (r c : Int) (zs : List Int) (o : Bool) (e : Int) : Prop :=
  ∀ w va vb, Sees w va xs → Sees w vb ys → Calls Try.prog f #[.agg #[.int .i64 ra, .int .i64 ca, va], .agg #[.int .i64 rb, .int .i64 cb, vb]] w fun e' b =>
    ∃ v, e' = .returned (.tuple #[.agg #[.int .i64 r, .int .i64 c, v], .bool o, .int .i64 e]) ∧ Sees b v zs ∧ Below w.heap.size w b
theorem sees_none (w : World) : Sees w (.slice none 0 0) [] := ⟨Option.none, 0, rfl, fun k hk => absurd hk (Nat.not_lt_zero k)⟩
theorem tells2_not {f : Nat} {ra ca : Int} {xs : List Int} {rb cb : Int} {ys : List Int} {e : Int}
    (h : ∀ w va vb, Sees w va xs → Sees w vb ys → Calls Try.prog f #[.agg #[.int .i64 ra, .int .i64 ca, va], .agg #[.int .i64 rb, .int .i64 cb, vb]] w fun e' b => e' = .returned (.tuple #[.agg #[.int .i64 0, .int .i64 0, .slice none 0 0], .bool false, .int .i64 e]) ∧ Below w.heap.size w b) :
    Tells2 f ra ca xs rb cb ys 0 0 [] false e := fun w va vb sa sb => (h w va vb sa sb).mono fun _ _ hh => ⟨_, hh.1, sees_none _, hh.2⟩

theorem pai_len (t : Int → Int → Int) (xs ys : List Int) : (pai t xs ys).length = xs.length := tab_len _ _
theorem prd_len (r n c : Nat) (xs ys : List Int) : (prd r n c xs ys).length = r * c := tab_len _ _

theorem sameB_self (r c : Int) (xs : List Int) : sameB r c xs r c xs = true := by unfold sameB eqB; simp
end Go.Proofs.Ytiniobcknmaigaa
