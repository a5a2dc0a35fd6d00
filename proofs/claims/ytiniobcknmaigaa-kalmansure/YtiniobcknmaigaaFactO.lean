/-
  Eye, Diag and Even: the code and the document's answer side by side.
-/
import Derived.Test.YtiniobcknmaigaaFactE
namespace Go.Proofs.Ytiniobcknmaigaa
open Go.RowKit Go.Sort Qm

def TellsN (f : Nat) (n r c : Int) (zs : List Int) (e : Int) : Prop :=
  ∀ w, Calls Try.prog f #[.int .i64 n] w fun e' b => ∃ v, e' = .returned (.tuple #[.agg #[.int .i64 r, .int .i64 c, v], .int .i64 e]) ∧ Sees b v zs ∧ Below w.heap.size w b
def TellsL (f : Nat) (xs : List Int) (r c : Int) (zs : List Int) (e : Int) : Prop :=
  ∀ w v, Sees w v xs → Calls Try.prog f #[v] w fun e' b => ∃ v, e' = .returned (.tuple #[.agg #[.int .i64 r, .int .i64 c, v], .int .i64 e]) ∧ Sees b v zs ∧ Below w.heap.size w b
theorem dia_len (d : Nat → Int) (n : Nat) : (dia d n).length = n * n := tab_len _ _
theorem eye_both (n : Int) : ∃ r c zs e, zs.length ≤ 64 ∧ TellsN 77 n r c zs e ∧ TellsN 24 n r c zs e := by
  by_cases h : 1 ≤ n ∧ n ≤ 8
  · obtain ⟨m, rfl⟩ := Int.eq_ofNat_of_zero_le (by omega : 0 ≤ n)
    have h1 : 1 ≤ m := by omega
    have h2 : m ≤ 8 := by omega
    exact ⟨(m : Int), (m : Int), dia (fun _ => 16777216) m, 0, by rw [dia_len]; exact mul_le_64 h2 h2, fun w => (eye_any m h1 h2 w).mono fun _ _ ⟨v, x, y, _, z⟩ => ⟨v, x, y, z⟩, fun w => (reye_any m h1 h2 w).mono fun _ _ ⟨v, x, y, _, z⟩ => ⟨v, x, y, z⟩⟩
  · exact ⟨0, 0, [], 1, Nat.zero_le _, fun w => (eye_not n h w).mono fun _ _ hh => ⟨_, hh.1, sees_none _, hh.2⟩, fun w => (reye_not n h w).mono fun _ _ hh => ⟨_, hh.1, sees_none _, hh.2⟩⟩
theorem diag_both (xs : List Int) (hl : xs.length ≤ 100) : ∃ r c zs e, zs.length ≤ 64 ∧ TellsL 26 xs r c zs e ∧ TellsL 28 xs r c zs e := by
  by_cases h : 1 ≤ xs.length ∧ xs.length ≤ 8 ∧ outB xs xs.length = false
  · exact ⟨(xs.length : Int), (xs.length : Int), dia (ge xs) xs.length, 0, by rw [dia_len]; exact mul_le_64 h.2.1 h.2.1, fun w v s => (diag_any v xs h.1 h.2.1 h.2.2 w s).mono fun _ _ ⟨v, x, y, _, z⟩ => ⟨v, x, y, z⟩, fun w v s => (rdiag_any v xs h.1 h.2.1 h.2.2 w s).mono fun _ _ ⟨v, x, y, _, z⟩ => ⟨v, x, y, z⟩⟩
  · exact ⟨0, 0, [], 1, Nat.zero_le _, fun w v s => (diag_not v xs hl h w s).mono fun _ _ hh => ⟨_, hh.1, sees_none _, hh.2⟩, fun w v s => (rdiag_not v xs hl h w s).mono fun _ _ hh => ⟨_, hh.1, sees_none _, hh.2⟩⟩
theorem even_both {ra ca : Int} {xs : List Int} {R C : Nat} (h : IsRight ra ca xs R C) : ∃ r c zs o e, zs.length ≤ 64 ∧ Tells1 37 ra ca xs r c zs o e ∧ Tells1 39 ra ca xs r c zs o e := by
  have h1 := h.hr
  have h2 := h.hc
  subst h1; subst h2
  by_cases e : R = C
  · subst e
    obtain ⟨t1, t2, hr⟩ := even_tells h
    exact ⟨_, _, _, _, _, hr.le, t1, t2⟩
  · exact ⟨0, 0, [], false, 9, Nat.zero_le _, fun w va sa => (even_not R C e va xs w sa).mono fun _ _ hh => ⟨_, hh.1, sees_none _, hh.2⟩, fun w va sa => (reven_not R C e va xs w sa).mono fun _ _ hh => ⟨_, hh.1, sees_none _, hh.2⟩⟩
end Go.Proofs.Ytiniobcknmaigaa
