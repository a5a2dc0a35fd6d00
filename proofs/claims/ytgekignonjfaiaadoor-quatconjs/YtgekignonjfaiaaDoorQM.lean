/-
  The contracts of the closures of quat.Mul, and of quat.Mul.
-/
import Derived.Test.YtgekignonjfaiaaDoorQS
namespace Go.Proofs.YtgekignonjfaiaaDoor
open Go.RowKit Go.Sort Qm

namespace Qm
/-- which products are turned round: place k, product i -/
def lessB (k i : Nat) : Bool := (k == 0 && i != 0) || (k == 1 && i == 3) || (k == 2 && i == 1) || (k == 3 && i == 2)
/-- the place of the other factor -/
def oth (k i : Nat) : Nat := match k, i with
  | 0, i => i
  | 1, 0 => 1 | 1, 1 => 0 | 1, 2 => 3 | 1, _ => 2
  | 2, 0 => 2 | 2, 1 => 3 | 2, 2 => 0 | 2, _ => 1
  | _, 0 => 3 | _, 1 => 2 | _, 2 => 1 | _, _ => 0
theorem oth_lt {k i : Nat} (hk : k < 4) (hi : i < 4) : oth k i < 4 := by
  have h1 : k = 0 ∨ k = 1 ∨ k = 2 ∨ k = 3 := by omega
  have h2 : i = 0 ∨ i = 1 ∨ i = 2 ∨ i = 3 := by omega
  rcases h1 with rfl | rfl | rfl | rfl <;> rcases h2 with rfl | rfl | rfl | rfl <;> decide
/-- a product of a quaternions' product: ahead of the turn, and behind it -/
def tp (p q : Nat → Int) (k i : Nat) : Int := mul (p i) (q (oth k i))
def tpB (p q : Nat → Int) (k i : Nat) : Bool := mulB (p i) (q (oth k i))
def tm (p q : Nat → Int) (k i : Nat) : Int := if lessB k i = true then sub 0 (tp p q k i) else tp p q k i
def tmB (p q : Nat → Int) (k i : Nat) : Bool := if lessB k i = true then tpB p q k i || subB 0 (tp p q k i) else tpB p q k i
/-- a number of a product; was a bound met? -/
def qm (p q : Nat → Int) (k : Nat) : Int := sm4 (tm p q k)
def qmB (p q : Nat → Int) (k : Nat) : Bool := anyB (tmB p q k) 4 || sm4B (tm p q k)
end Qm

/-- what the table of the products that are turned round reads as -/
def Less (w : World) : Prop := ∀ k i : Nat, k < 4 → i < 4 → w.cell? ⟨0, k * 4 + i, none⟩ = some (.bool (lessB k i))
theorem Less.below {w w' : World} (h : Less w) (hb : Below w.heap.size w w') : Less w' := fun k i hk hi => by
  rw [hb.cell (p := ⟨0, k * 4 + i, none⟩) (block_lt_of_cell (h k i hk hi))]; exact h k i hk hi
/-- a quaternion in a block -/
def Box4 (w : World) (B : Nat) (p : Nat → Int) : Prop := ∀ k : Nat, k < 4 → w.cell? ⟨B, k, none⟩ = some (.int .i64 (p k))
theorem Box4.below {w w' : World} {B : Nat} {p : Nat → Int} (h : Box4 w B p) (hb : Below w.heap.size w w') : Box4 w' B p := fun k hk => by
  rw [hb.cell (p := ⟨B, k, none⟩) (block_lt_of_cell (h k hk))]; exact h k hk
theorem Box4.of {w : World} {B : Nat} {p : Nat → Int} {t : TypeId} (h : w.heap[B]? = some (.cells #[.int .i64 (p 0), .int .i64 (p 1), .int .i64 (p 2), .int .i64 (p 3)] t (0, 0))) : Box4 w B p := by
  obtain ⟨c0, c1, c2, c3, _⟩ := four_cells h
  intro k hk
  have h1 : k = 0 ∨ k = 1 ∨ k = 2 ∨ k = 3 := by omega
  rcases h1 with rfl | rfl | rfl | rfl
  · exact c0
  · exact c1
  · exact c2
  · exact c3
theorem xor_oth {k i : Nat} (hk : k < 4) (hi : i < 4) : bits .xor .i64 (k : Int) (i : Int) = (oth k i : Int) := by
  have h1 : k = 0 ∨ k = 1 ∨ k = 2 ∨ k = 3 := by omega
  have h2 : i = 0 ∨ i = 1 ∨ i = 2 ∨ i = 3 := by omega
  rcases h1 with rfl | rfl | rfl | rfl <;> rcases h2 with rfl | rfl | rfl | rfl <;> decide

theorem mul_calm (a b : Int) (w : World) (d : Nat) (os : Array Obj) : Calls Tryd.prog 29 #[.int .i64 a, .int .i64 b] (grow (redrawn w d) os) fun e w'' => e = .returned (.tuple #[.int .i64 (mul a b), .bool (mulB a b)]) ∧ ∃ p : Regrown, w'' = grow (redrawn w p.d) p.os :=
  Calls.regrown_of (mul_any a b _)
theorem enters28 : ∀ (args : Array Value) (a : World), Sem.run Tryd.prog (callFunc 28 args) a = Result.ok (Next.enter 28 args) a := by
  intro args a
  simp [callFunc, Tryd.func28, go_sem]
  rfl
theorem enters26 : ∀ (args : Array Value) (a : World), Sem.run Tryd.prog (callFunc 26 args) a = Result.ok (Next.enter 26 args) a := by
  intro args a
  simp [callFunc, Tryd.func26, go_sem]
  rfl

set_option maxHeartbeats 1000000 in
theorem mul11_any (k i : Nat) (hk : k < 4) (hi : i < 4) (P Q L : Nat) (p q : Nat → Int) (w : World) (hP : Box4 w P p) (hQ : Box4 w Q q) (hL : w.cell? ⟨L, 0, none⟩ = some (.int .i64 k)) (hG : Less w) :
    Calls Tryd.prog 28 #[.int .i64 i, .pointer (some ⟨P, 0, none⟩), .pointer (some ⟨Q, 0, none⟩), .pointer (some ⟨L, 0, none⟩)] w fun e w' =>
      e = .returned (.tuple #[.int .i64 (tm p q k i), .bool (tmB p q k i)]) ∧ Below w.heap.size w w' := by
  have hx := xor_oth hk hi
  have hz := oth_lt hk hi
  have c1 := cell_regrown (hP i hi)
  have c2 := cell_regrown (hQ (oth k i) hz)
  have c3 := cell_regrown hL
  have c4 := cell_regrown (hG k i hk hi)
  have cM := mul_calm (p i) (q (oth k i)) w
  unfold tm tmB tp tpB
  obtain ⟨z, hz'⟩ : ∃ z, oth k i = z := ⟨_, rfl⟩
  rw [hz'] at hx hz c2 cM
  simp only [hz']
  obtain ⟨x, hx'⟩ : ∃ x, p i = x := ⟨_, rfl⟩
  obtain ⟨y, hy'⟩ : ∃ y, q z = y := ⟨_, rfl⟩
  rw [hx'] at c1 cM ⊢
  rw [hy'] at c2 cM ⊢
  clear hz' hx' hy' hP hQ hL hG
  have i1 : (i : Int) < 4 := by omega
  have i2 : (0 : Int) ≤ (i : Int) := by omega
  have k1 : (k : Int) < 4 := by omega
  have z1 : (z : Int) < 4 := by omega
  have z2 : (0 : Int) ≤ (z : Int) := by omega
  obtain ⟨M, hM⟩ : ∃ M, mul x y = M := ⟨_, rfl⟩
  obtain ⟨X, hX⟩ : ∃ X, mulB x y = X := ⟨_, rfl⟩
  rw [hM, hX] at cM ⊢
  clear hM hX
  cases hb : lessB k i <;> rw [hb] at c4 <;> cases X
  all_goals
    clear hb
    simp only [if_true, if_false, Bool.false_eq_true]
    go_enter Tryd.func28, Tryd.ntmps28
    go_wp2
    refine wp_region_quiet_below (by kernel_rfl) (by kernel_rfl) ?_
    repeat (quiet_step (first | exact cM _ _))
    refine wpQuiet_nil ?_
    intro _ hw'
    obtain ⟨⟨dq, osq⟩, hw''⟩ := hw'
    subst hw''
    have bz := below_regrown w dq osq
    have c3q := c3 dq osq
    have c4q := c4 dq osq
    obtain ⟨W, hW⟩ : ∃ W, grow (redrawn w dq) osq = W := ⟨_, rfl⟩
    rw [hW] at bz c3q c4q ⊢
    clear hW c1 c2 c3 c4 cM
    go_wp2_with (go_at_call 30; refine (sub_any _ _ _).mono ?_; rintro e wy ⟨rfl, rfl⟩)
    go_ret2
    exact ⟨rfl, bz⟩
end Go.Proofs.YtgekignonjfaiaaDoor
