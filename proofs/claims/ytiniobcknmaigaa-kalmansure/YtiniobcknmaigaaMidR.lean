/-
  The second statement of the document's mid, in whatever order: what it leaves.
-/
import Derived.Test.YtiniobcknmaigaaRegS
namespace Go.Proofs.Ytiniobcknmaigaa
open Go.RowKit Go.Sort Qm
set_option linter.unusedVariables false

/-- the blocks of a matrix; the matrix of several results -/
def obl : Value → List Nat
  | .agg cs => (cs[2]?.bind Value.ownBlock).toList
  | _ => []
def tupOf : Value → Value
  | .tuple vs => vs[0]?.getD undef
  | v => v
theorem three_set {w : World} {D C k : Nat} {v : Value} {t : TypeId} (hk : k < 3) (h : ∃ x y z, w.heap[D]? = some (.cells #[x, y, z] t (0, 0))) : ∃ x y z, (w.setCell ⟨C, k, none⟩ v).heap[D]? = some (.cells #[x, y, z] t (0, 0)) := by
  obtain ⟨x, y, z, h⟩ := h
  by_cases e : D = C
  · subst e
    have := heap_setCell_same w D k _ t v h
    rcases (by omega : k = 0 ∨ k = 1 ∨ k = 2) with rfl | rfl | rfl
    · exact ⟨_, _, _, this⟩
    · exact ⟨_, _, _, this⟩
    · exact ⟨_, _, _, this⟩
  · exact ⟨x, y, z, by rw [Below.heap_setCell _ _ _ _ e]; exact h⟩
def midDst (i : Nat) : Nat := [20, 21, 22, 23, 19, 24, 25, 26, 9, 1000, 10, 11].getD i 0
def midFr (D2 : Nat) (D6 : Nat) (R : Nat) (N : Nat) (ao : Option Addr) (n : Nat) (cap : Nat) (mo : Option Addr) (m : Nat) (mcap : Nat) (ts : List Int) (zs : List Int) (X : Bool) (u0 u1 u3 u4 u5 u7 u8 u12 u13 u14 u15 u16 u17 u18 u27 u28 u29 u30 u31 : Value) (vs : Nat → Value) : Act := ⟨#[u0, u1, .pointer (some ⟨D2, 0, none⟩), u3, u4, u5, .pointer (some ⟨D6, 0, none⟩), u7, u8, vs 9, vs 10, vs 11, u12, u13, u14, u15, u16, u17, u18, vs 19, vs 20, vs 21, vs 22, vs 23, vs 24, vs 25, vs 26, u27, u28, u29, u30, u31], []⟩
def midT (W : Nat) (D2 : Nat) (D6 : Nat) (R : Nat) (N : Nat) (ao : Option Addr) (n : Nat) (cap : Nat) (mo : Option Addr) (m : Nat) (mcap : Nat) (ts : List Int) (zs : List Int) (X : Bool) : Nat → Value → World → Prop
  | 8, v, w => ∃ D, v = .pointer (some ⟨D, 0, none⟩) ∧ W ≤ D ∧ ∃ x y z, w.heap[D]? = some (.cells #[x, y, z] 24 (0, 0))
  | 2, v, w => ∃ sl, v = .agg #[.int .i64 N, .int .i64 R, sl] ∧ Sees w sl ts ∧ New W sl
  | 3, v, w => ∃ sl, v = .tuple #[.agg #[.int .i64 R, .int .i64 R, sl], .bool X, .int .i64 0] ∧ Sees w sl zs ∧ New W sl
  | 4, v, w => ∃ sl, v = .tuple #[.agg #[.int .i64 R, .int .i64 R, sl], .bool X, .int .i64 0] ∧ Sees w sl zs ∧ New W sl
  | 5, v, w => ∃ sl, v = .agg #[.int .i64 R, .int .i64 R, sl] ∧ Sees w sl zs ∧ New W sl
  | i, v, _ => v = ([.agg #[.int .i64 R, .int .i64 N, .slice mo m mcap], .agg #[.int .i64 R, .int .i64 N, .slice ao n cap], undef, undef, undef, undef, .bool X, .int .i64 0, undef, undef, .bool X, .int .i64 0] : List Value).getD i undef
def midO : Nat → Value → List Nat
  | 2, v => obl v
  | 3, v => obl (tupOf v)
  | 4, v => obl (tupOf v)
  | 5, v => obl v
  | _, _ => []
theorem midT_mono (W : Nat) (D2 : Nat) (D6 : Nat) (R : Nat) (N : Nat) (ao : Option Addr) (n : Nat) (cap : Nat) (mo : Option Addr) (m : Nat) (mcap : Nat) (ts : List Int) (zs : List Int) (X : Bool) : ∀ i v w w', midT W D2 D6 R N ao n cap mo m mcap ts zs X i v w → Below w.heap.size w w' → midT W D2 D6 R N ao n cap mo m mcap ts zs X i v w' := by
  intro i v w w' h hb
  unfold midT at *
  split
  · obtain ⟨D, h1, h2, x, y, z, h3⟩ := h; exact ⟨D, h1, h2, x, y, z, keep hb h3⟩
  · obtain ⟨sl, h1, h2, h3⟩ := h; exact ⟨sl, h1, h2.below hb, h3⟩
  · obtain ⟨sl, h1, h2, h3⟩ := h; exact ⟨sl, h1, h2.below hb, h3⟩
  · obtain ⟨sl, h1, h2, h3⟩ := h; exact ⟨sl, h1, h2.below hb, h3⟩
  · obtain ⟨sl, h1, h2, h3⟩ := h; exact ⟨sl, h1, h2.below hb, h3⟩
  · simp_all
theorem midT_set (W : Nat) (D2 : Nat) (D6 : Nat) (R : Nat) (N : Nat) (ao : Option Addr) (n : Nat) (cap : Nat) (mo : Option Addr) (m : Nat) (mcap : Nat) (ts : List Int) (zs : List Int) (X : Bool) (C : Nat) (k : Nat) (hk : k < 3) (x : Value) : ∀ i v w, (∀ k ∈ midO i v, k ≠ C) → midT W D2 D6 R N ao n cap mo m mcap ts zs X i v w → midT W D2 D6 R N ao n cap mo m mcap ts zs X i v (w.setCell ⟨C, k, none⟩ x) := by
  intro i v w ho h
  unfold midT at *
  unfold midO at ho
  split
  · obtain ⟨D, h1, h2, h3⟩ := h; exact ⟨D, h1, h2, three_set hk h3⟩
  · obtain ⟨sl, h1, h2, h3⟩ := h; subst h1; exact ⟨sl, rfl, h2.set' (a := ⟨C, k, none⟩) (fun b hb => ho b (by simp [obl, hb])) x, h3⟩
  · obtain ⟨sl, h1, h2, h3⟩ := h; subst h1; exact ⟨sl, rfl, h2.set' (a := ⟨C, k, none⟩) (fun b hb => ho b (by simp [obl, tupOf, hb])) x, h3⟩
  · obtain ⟨sl, h1, h2, h3⟩ := h; subst h1; exact ⟨sl, rfl, h2.set' (a := ⟨C, k, none⟩) (fun b hb => ho b (by simp [obl, tupOf, hb])) x, h3⟩
  · obtain ⟨sl, h1, h2, h3⟩ := h; subst h1; exact ⟨sl, rfl, h2.set' (a := ⟨C, k, none⟩) (fun b hb => ho b (by simp [obl, hb])) x, h3⟩
  · simp_all
theorem midO_lt (W : Nat) (D2 : Nat) (D6 : Nat) (R : Nat) (N : Nat) (ao : Option Addr) (n : Nat) (cap : Nat) (mo : Option Addr) (m : Nat) (mcap : Nat) (ts : List Int) (zs : List Int) (X : Bool) (z_ts : 0 < ts.length) (z_zs : 0 < zs.length) : ∀ i v w, midT W D2 D6 R N ao n cap mo m mcap ts zs X i v w → ∀ k ∈ midO i v, k < w.heap.size := by
  intro i v w h k hk
  unfold midT at h
  unfold midO at hk
  split at h
  · cases hk
  · obtain ⟨sl, h1, h2, _⟩ := h; subst h1; exact h2.lt z_ts k (by simpa [obl] using hk)
  · obtain ⟨sl, h1, h2, _⟩ := h; subst h1; exact h2.lt z_zs k (by simpa [obl, tupOf] using hk)
  · obtain ⟨sl, h1, h2, _⟩ := h; subst h1; exact h2.lt z_zs k (by simpa [obl, tupOf] using hk)
  · obtain ⟨sl, h1, h2, _⟩ := h; subst h1; exact h2.lt z_zs k (by simpa [obl] using hk)
  · simp_all
end Go.Proofs.Ytiniobcknmaigaa
