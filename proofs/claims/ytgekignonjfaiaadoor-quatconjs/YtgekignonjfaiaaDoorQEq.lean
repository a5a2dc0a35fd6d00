/-
  Two arrays of numbers, compared.
-/
import Derived.Test.YtgekignonjfaiaaDoorQW
import Derived.Laws.StructEq
namespace Go.Proofs.YtgekignonjfaiaaDoor
open Go.RowKit Qm

/-- arrays of numbers, each in one cell, place by place -/
theorem equalIn_row {P : Program} (w : World) (d : Nat) (t e : TypeId) (n : Nat) (ht : P.underlying t = some (.array n e)) (he : P.underlying e = some (.int .i64)) (hsz : ∀ w, (sizeOf e).run P w = .ok 1 w)
    (xs ys : List Int) (hx : xs.length = n) (hy : ys.length = n) :
    (Op.equalIn (d + 2) t (.agg (xs.map (Value.int .i64)).toArray) (.agg (ys.map (Value.int .i64)).toArray)).run P w = .ok ((List.range n).all fun i => xs.getD i 0 == ys.getD i 0) w := by
  rw [List.range_eq_range', Op.equalIn]
  simp only [Sem.run_bind, run_underlying ht, Result.andThen_ok, hsz, Std.Legacy.Range.forIn_eq_forIn_range', Std.Legacy.Range.size, Nat.sub_zero, Nat.add_sub_cancel, Nat.div_one]
  have hl : ∀ i ∈ List.range' 0 n 1, i < n := fun i hi => by simpa using (List.mem_range'_1.1 hi).2
  generalize List.range' 0 n 1 = l at hl ⊢
  induction l with
  | nil => simp
  | cons i l ih =>
    have hi : i < n := hl i (by simp)
    have px : (part e (xs.map (Value.int .i64)).toArray (i * 1)).run P w = .ok (.int .i64 (xs.getD i 0)) w := by
      simp [part, isAgg, run_underlying he, List.getD, List.getElem?_eq_getElem (show i < xs.length by omega)]
    have py : (part e (ys.map (Value.int .i64)).toArray (i * 1)).run P w = .ok (.int .i64 (ys.getD i 0)) w := by
      simp [part, isAgg, run_underlying he, List.getD, List.getElem?_eq_getElem (show i < ys.length by omega)]
    have pe : (Op.equalIn (d + 1) e (.int .i64 (xs.getD i 0)) (.int .i64 (ys.getD i 0))).run P w = .ok (xs.getD i 0 == ys.getD i 0) w := run_equalIn_int w d e .i64 .i64 _ _ he
    simp only [List.forIn_cons, Sem.run_bind, px, py, pe, Result.andThen_ok, List.all_cons]
    cases hb : (xs.getD i 0 == ys.getD i 0)
    · simp
    · simp only [Bool.not_true, Bool.false_eq_true, if_false, Sem.run_pure, Result.andThen_ok, Bool.true_and]
      exact ih fun j hj => hl j (by simp [hj])

theorem Tryd.under24 : Tryd.prog.underlying 24 = some (.array 4 22) := by kernel_rfl
theorem Tryd.under35 : Tryd.prog.underlying 35 = some (.array 3 22) := by kernel_rfl
theorem Tryd.under22 : Tryd.prog.underlying 22 = some (.int .i64) := by kernel_rfl
theorem size22 (w : World) : (sizeOf 22).run Tryd.prog w = .ok 1 w := by kernel_rfl
theorem guard24 : Tryd.prog.eqGuardType Tryd.prog.depth 24 = false := by kernel_rfl
theorem guard35 : Tryd.prog.eqGuardType Tryd.prog.depth 35 = false := by kernel_rfl

/-- are four the same? -/
def Qm.eq4 (a b c d e f g h : Int) : Bool := a == e && b == f && c == g && d == h
def Qm.eq3 (a b c e f g : Int) : Bool := a == e && b == f && c == g
theorem Qm.eq4_self (a b c d : Int) : eq4 a b c d a b c d = true := by simp [eq4]
theorem Qm.eq3_self (a b c : Int) : eq3 a b c a b c = true := by simp [eq3]
theorem run_eq4 (w : World) (a b c d e f g h : Int) :
    (Op.equalIn 10000 24 (.agg #[.int .i64 a, .int .i64 b, .int .i64 c, .int .i64 d]) (.agg #[.int .i64 e, .int .i64 f, .int .i64 g, .int .i64 h])).run Tryd.prog w = .ok (eq4 a b c d e f g h) w := by
  have := equalIn_row w 9998 24 22 4 Tryd.under24 Tryd.under22 size22 [a, b, c, d] [e, f, g, h] rfl rfl
  refine this.trans ?_
  simp [eq4, List.range, List.range.loop, Bool.and_assoc]
theorem run_eq3 (w : World) (a b c e f g : Int) :
    (Op.equalIn 10000 35 (.agg #[.int .i64 a, .int .i64 b, .int .i64 c]) (.agg #[.int .i64 e, .int .i64 f, .int .i64 g])).run Tryd.prog w = .ok (eq3 a b c e f g) w := by
  have := equalIn_row w 9998 35 22 3 Tryd.under35 Tryd.under22 size22 [a, b, c] [e, f, g] rfl rfl
  refine this.trans ?_
  simp [eq3, List.range, List.range.loop, Bool.and_assoc]
end Go.Proofs.YtgekignonjfaiaaDoor
