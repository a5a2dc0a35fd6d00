/-
  'append' of any row of words to an own row, as a step of a region that draws.
-/
import Derived.Test.YtbhgffbmeaomkaaDW
namespace Go.Proofs.Ytbhgffbmeaomkaa.Gr
open Go.RowKit Go.Sort
set_option linter.unusedVariables false

/-- 'append' of a row of words, whatever it is, to an own row, as a step of a region that draws -/
theorem step64v {ops : Array Oper} {o : Oper} {a : Act} {w : World} {K : Act → World → Prop} {Q : Exit → Act → World → Prop} {E : Prop} (hg : o.guard = none) (s x : Operand)
    (hop : o.op = Op.call { callee := Callee.builtin Builtin.append, args := #[s, x], argTypes := #[22, 22] }) (base : Nat) (v : Value) (n : Nat) (xs : List Value)
    (hs : a.eval s = v) (hown : w.ownsRow base 2 1 v n xs) (hb : base ≤ w.heap.size) (vx : Value) (zs : List Int) (hx : a.eval x = vx) (sx : SeesI w vx zs) (hl : n + zs.length ≤ 100000)
    (hK : ∀ v' w', w'.ownsRow base 2 1 v' (n + zs.length) (xs ++ zs.map vw) → w.grownBy w' v.ownBlock → K (a.put o.dst v') w') :
    if Region.wanted o (yielded ops a.tmps) = true then Oper.wp Try.prog o a w K Q else E := by
  have hw : Region.wanted o (yielded ops a.tmps) = true := by simp [Region.wanted, hg]
  rw [if_pos hw]
  obtain ⟨i0, hi, hz0, hz1, hz2⟩ := info_parts info2
  obtain ⟨ao, cap, rfl⟩ := sx.slice
  cases ao with
  | some ad =>
    obtain ⟨v', w', hrun, r1, r2, _⟩ := run_append_own (P := Try.prog) w base 22 o.type 2 i0 (.int .i64 0) 1 8 under22 hi hz0 hz1 hz2 rfl (by decide) v n xs hown ad zs.length cap (zs.map vw) (by simp) (seesI_cells sx) (ws_one zs) (by unfold maxLen; omega) (by omega) hb
    unfold Oper.wp
    simp [execOp, hop, resolve, invoke, builtin, hs, hx, hrun, Result.andThen]
    exact hK v' w' r1 r2
  | none =>
    have h0 : zs.length = 0 := by have := (Row.of_none sx).1; simpa using this
    have hc0 : cap = 0 := (Row.of_none sx).2
    obtain rfl : zs = [] := List.eq_nil_of_length_eq_zero h0
    subst hc0
    have hrun := run_append_owned_none (P := Try.prog) w base 22 o.type 2 i0 1 under22 hi _ n xs hown
    unfold Oper.wp
    simp [execOp, hop, resolve, invoke, builtin, hs, hx, hrun, Result.andThen]
    exact hK v w (by simpa using hown) (gb_refl _ _)
end Go.Proofs.Ytbhgffbmeaomkaa.Gr
