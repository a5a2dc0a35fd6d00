/-
  What follows of sums and multiples of right matrices.
-/
import Derived.Test.YtiniobcknmaigaaBoth
import Derived.Test.YtiniobcknmaigaaMathG
namespace Go.Proofs.Ytiniobcknmaigaa
open Go.RowKit Go.Sort Qm

namespace Qm
theorem add_none {a : Int} (h1 : -70368744177664 ≤ a) (h2 : a ≤ 70368744177663) : add a 0 = a ∧ addB a 0 = false := by
  unfold add addB ob2
  rw [cl_in h1 h2, cl_in (a := 0) (by omega) (by omega), Int.add_zero, ob_in h1 h2, ob_in (a := 0) (by omega) (by omega)]
  exact ⟨cl_in h1 h2, rfl⟩
theorem mul_none {a : Int} (h1 : -70368744177664 ≤ a) (h2 : a ≤ 70368744177663) : mul a 0 = 0 ∧ mulB a 0 = false := by
  have hv : mulv a 0 = 0 := by
    unfold mulv
    have hp : pr a 0 = 0 := by unfold pr; have : ab (cl 0) = 0 := by decide
                               rw [this, Int.mul_zero]
    rw [hp]
    have hn : near (0 / 16777216) (0 % 16777216) 16777216 = 0 := by decide
    rw [hn]
    unfold sg; split <;> rfl
  unfold mul mulB ob2
  rw [hv, ob_in h1 h2]
  exact ⟨by decide, by decide⟩
theorem pai_comm (xs ys : List Int) (h : xs.length = ys.length) : pai add ys xs = pai add xs ys ∧ paiB addB ys xs = paiB addB xs ys := by
  unfold pai paiB
  rw [h]
  exact ⟨tab_congr fun k _ => add_comm' _ _, anyB_congr fun k _ => addB_comm _ _⟩
theorem pai_self {xs : List Int} (h : AllIn xs) : pai sub xs xs = tab (fun _ => 0) xs.length ∧ paiB subB xs xs = false :=
  ⟨tab_congr fun k _ => (sub_self' (h k).1 (h k).2).1, anyB_none fun k _ => (sub_self' (h k).1 (h k).2).2⟩
theorem pai_none {xs : List Int} (h : AllIn xs) : pai add xs (tab (fun _ => 0) xs.length) = xs ∧ paiB addB xs (tab (fun _ => 0) xs.length) = false := by
  unfold pai paiB
  refine ⟨tab_ge rfl fun k hk => ?_, anyB_none fun k hk => ?_⟩
  · rw [ge_tab hk]; exact (add_none (h k).1 (h k).2).1
  · rw [ge_tab hk]; exact (add_none (h k).1 (h k).2).2
theorem scl_one {xs : List Int} (h : AllIn xs) : scl xs 16777216 = xs ∧ sclB xs 16777216 = false :=
  ⟨tab_ge rfl fun k _ => (mul_one' (h k).1 (h k).2).1, anyB_none fun k _ => (mul_one' (h k).1 (h k).2).2⟩
theorem scl_none {xs : List Int} (h : AllIn xs) : scl xs 0 = tab (fun _ => 0) xs.length ∧ sclB xs 0 = false :=
  ⟨tab_congr fun k _ => (mul_none (h k).1 (h k).2).1, anyB_none fun k _ => (mul_none (h k).1 (h k).2).2⟩
end Qm

theorem sums_facts {ra ca : Int} {xs ys : List Int} {R C R' C' : Nat} (ha : IsRight ra ca xs R C) (hb : IsRight ra ca ys R' C') :
    xs.length = ys.length ∧ ∃ zs o, zs.length ≤ 64 ∧ Tells2 72 ra ca xs ra ca ys ra ca zs o 0 ∧ Tells2 72 ra ca ys ra ca xs ra ca zs o 0 ∧
      Tells2 99 ra ca xs ra ca xs ra ca (tab (fun _ => 0) xs.length) false 0 ∧ Tells2 72 ra ca xs ra ca (tab (fun _ => 0) xs.length) ra ca xs false 0 := by
  have e1 : R' = R := by have h1 := ha.hr; have h2 := hb.hr; omega
  have e2 : C' = C := by have h1 := ha.hc; have h2 := hb.hc; omega
  subst e1; subst e2
  obtain ⟨rfl, rfl, h1, h2, h3, h4, h5, hi⟩ := ha
  have h6 := hb.len
  have hl : xs.length = ys.length := by omega
  have hc := pai_comm xs ys hl
  have hs := pai_self hi
  have hn := pai_none hi
  have hz : (tab (fun _ => (0 : Int)) xs.length).length = R' * C' := by rw [tab_len]; exact h5
  refine ⟨hl, pai add xs ys, paiB addB xs ys, by rw [pai_len, h5]; exact mul_le_64 h2 h4, ?_, ?_, ?_, ?_⟩
  · exact fun w va vb sa sb => (add_mat R' C' h1 h2 h3 h4 va vb xs ys h5 h6 w sa sb).mono fun _ _ ⟨v, x, y, _, z⟩ => ⟨v, x, y, z⟩
  · intro w va vb sa sb
    have := add_mat R' C' h1 h2 h3 h4 va vb ys xs h6 h5 w sa sb
    rw [hc.1, hc.2] at this
    exact this.mono fun _ _ ⟨v, x, y, _, z⟩ => ⟨v, x, y, z⟩
  · intro w va vb sa sb
    have := sub_mat R' C' h1 h2 h3 h4 va vb xs xs h5 h5 w sa sb
    rw [hs.1, hs.2] at this
    exact this.mono fun _ _ ⟨v, x, y, _, z⟩ => ⟨v, x, y, z⟩
  · intro w va vb sa sb
    have := add_mat R' C' h1 h2 h3 h4 va vb xs (tab (fun _ => 0) xs.length) h5 hz w sa sb
    rw [hn.1, hn.2] at this
    exact this.mono fun _ _ ⟨v, x, y, _, z⟩ => ⟨v, x, y, z⟩

/-- a call of a matrix and a number -/
def TellsK (f : Nat) (ra ca : Int) (xs : List Int) (k : Int) (r c : Int) (zs : List Int) (o : Bool) : Prop :=
  ∀ w va, Sees w va xs → Calls Try.prog f #[.agg #[.int .i64 ra, .int .i64 ca, va], .int .i64 k] w fun e' b =>
    ∃ v, e' = .returned (.tuple #[.agg #[.int .i64 r, .int .i64 c, v], .bool o]) ∧ Sees b v zs ∧ Below w.heap.size w b
theorem scl_len (xs : List Int) (k : Int) : (scl xs k).length = xs.length := tab_len _ _
end Go.Proofs.Ytiniobcknmaigaa
