/-
  What follows of matrices that are made even.
-/
import Derived.Test.YtiniobcknmaigaaBoth
import Derived.Test.YtiniobcknmaigaaMathF
namespace Go.Proofs.Ytiniobcknmaigaa
open Go.RowKit Go.Sort Qm

namespace Qm
theorem half_sum {x y : Int} (h1 : -70368744177664 ≤ x) (h2 : x ≤ 70368744177663) (h3 : -70368744177664 ≤ y) (h4 : y ≤ 70368744177663) : -70368744177664 ≤ half (x + y) 1 ∧ half (x + y) 1 ≤ 70368744177663 := by
  have h := half_err (x + y) 1 (by decide)
  have e : (2 : Int) ^ 1 = 2 := by decide
  rw [e] at h
  have e1 : half (x + y) ((1 : Nat) : Int) = half (x + y) 1 := rfl
  rw [e1] at h
  omega
theorem half_dbl (z : Int) : half (z + z) 1 = z := by
  have h := half_twice z 0 (by decide)
  have e : half z ((0 : Nat) : Int) = z := half_zero z
  rw [e] at h
  rw [show z + z = 2 * z by omega]
  exact h.symm
/-- the place across the diagonal -/
theorem acr_lt {c p : Nat} (hp : p < c * c) : (p % c) * c + p / c < c * c := by
  have hc : 0 < c := by rcases Nat.eq_zero_or_pos c with h | h
                        · subst h; omega
                        · exact h
  exact at_lt (Nat.mod_lt p hc) ((Nat.div_lt_iff_lt_mul hc).2 hp)
theorem acr_acr {c p : Nat} (hp : p < c * c) : (((p % c) * c + p / c) % c) * c + ((p % c) * c + p / c) / c = p := by
  have hc : 0 < c := by rcases Nat.eq_zero_or_pos c with h | h
                        · subst h; omega
                        · exact h
  have h1 : p / c < c := (Nat.div_lt_iff_lt_mul hc).2 hp
  rw [mod_of h1, div_of h1, Nat.mul_comm]
  exact Nat.div_add_mod p c
theorem evn_at {c p : Nat} (xs : List Int) (hp : p < c * c) : ge (evn c xs) p = half (ge xs p + ge xs ((p % c) * c + p / c)) 1 := ge_tab hp
theorem evn_acr {c p : Nat} (xs : List Int) (hp : p < c * c) : ge (evn c xs) ((p % c) * c + p / c) = ge (evn c xs) p := by
  rw [evn_at xs (acr_lt hp), evn_at xs hp, acr_acr hp, Int.add_comm]
theorem evn_len (c : Nat) (xs : List Int) : (evn c xs).length = c * c := tab_len _ _
theorem evn_in {c : Nat} {xs : List Int} (h : AllIn xs) : AllIn (evn c xs) := by
  intro p
  by_cases hp : p < c * c
  · rw [evn_at xs hp]
    exact half_sum (h _).1 (h _).2 (h _).1 (h _).2
  · have e : ge (evn c xs) p = 0 := by unfold ge; rw [List.getD_eq_getElem?_getD, List.getElem?_eq_none (by rw [evn_len]; omega)]; rfl
    rw [e]; omega
theorem evn_evn (c : Nat) (xs : List Int) : evn c (evn c xs) = evn c xs := by
  refine tab_ge (evn_len c xs) fun p hp => ?_
  rw [evn_acr xs hp, half_dbl]
theorem evn_trn (c : Nat) (xs : List Int) : trn c c (evn c xs) = evn c xs := tab_ge (evn_len c xs) fun _ hp => evn_acr xs hp
end Qm
theorem right_mk {xs : List Int} {R C : Nat} (h : IsRight R C xs R C) : rightB R C xs = true := by
  unfold rightB
  rw [laidB_mk h.r1 h.r8 h.c1 h.c8 h.len]
  have : outB xs xs.length = false := anyB_none fun k _ => ob_in (h.ins k).1 (h.ins k).2
  rw [this]; rfl
/-- a call of one matrix -/
def Tells1 (f : Nat) (ra ca : Int) (xs : List Int) (r c : Int) (zs : List Int) (o : Bool) (e : Int) : Prop :=
  ∀ w va, Sees w va xs → Calls Try.prog f #[.agg #[.int .i64 ra, .int .i64 ca, va]] w fun e' b =>
    ∃ v, e' = .returned (.tuple #[.agg #[.int .i64 r, .int .i64 c, v], .bool o, .int .i64 e]) ∧ Sees b v zs ∧ Below w.heap.size w b
theorem even_tells {xs : List Int} {C : Nat} (h : IsRight C C xs C C) : Tells1 37 C C xs C C (evn C xs) false 0 ∧ Tells1 39 C C xs C C (evn C xs) false 0 ∧ IsRight C C (evn C xs) C C :=
  ⟨fun w va sa => (even_any C h.c1 h.c8 va xs h.len h.ins w sa).mono fun _ _ ⟨v, x, y, _, z⟩ => ⟨v, x, y, z⟩,
   fun w va sa => (reven_any C h.c1 h.c8 va xs h.len h.ins w sa).mono fun _ _ ⟨v, x, y, _, z⟩ => ⟨v, x, y, z⟩,
   ⟨rfl, rfl, h.c1, h.c8, h.c1, h.c8, evn_len C xs, evn_in h.ins⟩⟩
end Go.Proofs.Ytiniobcknmaigaa
