/-
  The contract of 'shown', the document's examples at the head of each statement: it returns true.
-/
import Derived.Test.YtpcajdmbfclfpaaHalf
import Derived.Test.YtpcajdmbfclfpaaDiv
namespace Go.Proofs.Ytpcajdmbfclfpaa
open Go.RowKit Qm

set_option maxHeartbeats 1000000 in
theorem shown_any (w : World) : Calls Try.prog 12 #[] w fun e w' => e = .returned (.bool true) ∧ Below w.heap.size w w' := by
  have m1 : mul 25165824 25165824 = 37748736 := by decide
  have m2 : mulB 25165824 25165824 = false := by decide
  have d1 : div 16777216 50331648 = 5592405 := by decide
  have d2 : divB 16777216 50331648 = false := by decide
  have e1 : half 5 1 = 2 := by decide
  have e2 : half 7 1 = 4 := by decide
  go_enter Try.func12, Try.ntmps12
  go_wp2_with fail
  refine (mul_any _ _ _).mono ?_
  rintro e w1 ⟨rfl, b1⟩
  have B1 : Hid (Below _ _ w1) := b1
  clear b1
  go_wp2_with fail
  refine (div_any _ _ _).mono ?_
  rintro e w2 ⟨rfl, b2⟩
  have B2 : Hid (Below _ _ w2) := b2
  clear b2
  go_wp2_with fail
  refine (half_any _ _ _ (by omega) (by omega)).mono ?_
  rintro e w3 ⟨rfl, b3⟩
  have B3 : Hid (Below _ _ w3) := b3
  clear b3
  go_wp2_with fail
  refine (half_any _ _ _ (by omega) (by omega)).mono ?_
  rintro e w4 ⟨rfl, b4⟩
  have B4 : Hid (Below _ _ w4) := b4
  clear b4
  go_wp2
  go_ret
  exact ⟨rfl, bt (bt (bt B1.out B2.out) B3.out) B4.out⟩

/-! ### the same, from an elder world on: nothing of what was there then has turned -/
theorem from_mono {f : Nat} {args : Array Value} {v : Value} {w : World} (w0 : World) (b : Below w0.heap.size w0 w) (c : Calls Try.prog f args w fun e w' => e = .returned v ∧ Below w.heap.size w w') :
    Calls Try.prog f args w fun e w' => e = .returned v ∧ Below w0.heap.size w0 w' := c.mono fun _ _ h => ⟨h.1, bt b h.2⟩
theorem mul_from (w0 : World) (a b : Int) (w : World) (h : Below w0.heap.size w0 w) :
    Calls Try.prog 17 #[.int .i64 a, .int .i64 b] w fun e w' => e = .returned (.tuple #[.int .i64 (mul a b), .bool (mulB a b)]) ∧ Below w0.heap.size w0 w' := from_mono w0 h (mul_any a b w)
theorem div_from (w0 : World) (a b : Int) (w : World) (h : Below w0.heap.size w0 w) :
    Calls Try.prog 19 #[.int .i64 a, .int .i64 b] w fun e w' => e = .returned (.tuple #[.int .i64 (div a b), .bool (divB a b)]) ∧ Below w0.heap.size w0 w' := from_mono w0 h (div_any a b w)
theorem half_from (w0 : World) (n b : Int) (w : World) (n0 : -9223372036854775808 ≤ n) (n1 : n ≤ 9223372036854775807) (h : Below w0.heap.size w0 w) :
    Calls Try.prog 29 #[.int .i64 n, .int .i64 b] w fun e w' => e = .returned (.int .i64 (half n b)) ∧ Below w0.heap.size w0 w' := from_mono w0 h (half_any n b w n0 n1)
theorem round_from (w0 : World) (a : Int) (w : World) (h : Below w0.heap.size w0 w) :
    Calls Try.prog 27 #[.int .i64 a] w fun e w' => e = .returned (.int .i64 (half (cl a) 24)) ∧ Below w0.heap.size w0 w' := from_mono w0 h (round_any a w)
theorem shown_from (w0 : World) (w : World) (h : Below w0.heap.size w0 w) :
    Calls Try.prog 12 #[] w fun e w' => e = .returned (.bool true) ∧ Below w0.heap.size w0 w' := from_mono w0 h (shown_any w)
end Go.Proofs.Ytpcajdmbfclfpaa
