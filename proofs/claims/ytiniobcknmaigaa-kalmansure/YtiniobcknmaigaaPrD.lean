/-
  Predict and Update in plain numbers.
-/
import Derived.Test.YtiniobcknmaigaaRInn
import Derived.Test.YtiniobcknmaigaaRGood
import Derived.Test.YtiniobcknmaigaaBoth
import Derived.Test.YtiniobcknmaigaaRDiv
import Derived.Test.YtiniobcknmaigaaRScale
import Derived.Test.YtiniobcknmaigaaFactO
namespace Go.Proofs.Ytiniobcknmaigaa
open Go.RowKit Go.Sort Qm

namespace Qm
def prX (n : Nat) (xs fs : List Int) : List Int := prd n n 1 fs xs
def prS (n : Nat) (ps fs qs : List Int) : List Int := pai add (midL n n fs ps) qs
def prP (n : Nat) (ps fs qs : List Int) : List Int := gd n (prS n ps fs qs)
def prF (n : Nat) (xs ps fs qs : List Int) : Bool := prdB n n 1 fs xs || midB n n fs ps || paiB addB (midL n n fs ps) qs
theorem pai_add_in (xs ys : List Int) : AllIn (pai add xs ys) := by
  intro p
  by_cases hp : p < xs.length
  · unfold pai; rw [ge_tab hp]; exact ⟨cl_lo _, cl_hi _⟩
  · have e : ge (pai add xs ys) p = 0 := by unfold ge; rw [List.getD_eq_getElem?_getD, List.getElem?_eq_none (by rw [pai_len]; omega)]; rfl
    rw [e]; omega
end Qm
namespace Qm
def upK0 (n : Nat) (ps hs : List Int) : List Int := prd n n 1 ps (trn 1 n hs)
def upC (n : Nat) (ps hs : List Int) : Bool := prdB n n 1 ps (trn 1 n hs)
def upK (n : Nat) (ps hs : List Int) (s : Int) : List Int := tab (fun k => div (ge (upK0 n ps hs) k) s) n
/-- the flag behind k rounds -/
def dvF (o : Bool) (ks : List Int) (s : Int) : Nat → Bool
  | 0 => o
  | k + 1 => dvF o ks s k || divB (ge ks k) s
def dvu (ks : List Int) (s : Int) (a k : Nat) : Int := if k < a then div (ge ks k) s else ge ks k
theorem dvu_at (ks : List Int) (s : Int) (a : Nat) : dvu ks s a a = ge ks a := if_neg (Nat.lt_irrefl _)
theorem dvu_put (ks : List Int) (s : Int) (a k : Nat) : (if k = a then div (ge ks a) s else dvu ks s a k) = dvu ks s (a + 1) k := by
  unfold dvu
  by_cases h : k = a
  · subst h; rw [if_pos rfl, if_pos (by omega)]
  · rw [if_neg h]
    by_cases h2 : k < a
    · rw [if_pos h2, if_pos (by omega)]
    · rw [if_neg h2, if_neg (by omega)]
def upKH (n : Nat) (hs k : List Int) : List Int := prd n 1 n k hs
def upIK (n : Nat) (hs k : List Int) : List Int := pai sub (dia (fun _ => 16777216) n) (upKH n hs k)
def upP1 (n : Nat) (ps hs k : List Int) : List Int := midL n n (upIK n hs k) ps
def upP2 (n : Nat) (k : List Int) (r : Int) : List Int := prd n 1 n (scl k r) (trn n 1 k)
def upPP (n : Nat) (ps hs k : List Int) (r : Int) : List Int := pai add (upP1 n ps hs k) (upP2 n k r)
def upX (xs k : List Int) (y : Int) : List Int := pai add xs (scl k y)
/-- the flags behind the quotients -/
def upE (n : Nat) (xs ps hs k : List Int) (y r : Int) : Bool :=
  sclB k y || paiB addB xs (scl k y) || prdB n 1 n k hs || paiB subB (dia (fun _ => 16777216) n) (upKH n hs k) || midB n n (upIK n hs k) ps || sclB k r || prdB n 1 n (scl k r) (trn n 1 k) || paiB addB (upP1 n ps hs k) (upP2 n k r)
theorem dvF_true (ks : List Int) (s : Int) (k : Nat) : dvF true ks s k = true := by
  induction k with
  | zero => rfl
  | succ k ih => unfold dvF; rw [ih]; rfl
theorem nine (Z a b c d e f g : Bool) : Z = true ∨ (Z = false ∧ a = true) ∨ (Z = false ∧ a = false ∧ b = true) ∨ (Z = false ∧ a = false ∧ b = false ∧ c = true) ∨ (Z = false ∧ a = false ∧ b = false ∧ c = false ∧ d = true) ∨ (Z = false ∧ a = false ∧ b = false ∧ c = false ∧ d = false ∧ e = true) ∨ (Z = false ∧ a = false ∧ b = false ∧ c = false ∧ d = false ∧ e = false ∧ f = true) ∨ (Z = false ∧ a = false ∧ b = false ∧ c = false ∧ d = false ∧ e = false ∧ f = false ∧ g = true) ∨ (Z = false ∧ a = false ∧ b = false ∧ c = false ∧ d = false ∧ e = false ∧ f = false ∧ g = false) := by
  cases Z <;> cases a <;> cases b <;> cases c <;> cases d <;> cases e <;> cases f <;> cases g <;> simp
theorem five (a b c d : Bool) : a = true ∨ (a = false ∧ b = true) ∨ (a = false ∧ b = false ∧ c = true) ∨ (a = false ∧ b = false ∧ c = false ∧ d = true) ∨ (a = false ∧ b = false ∧ c = false ∧ d = false) := by
  cases a <;> cases b <;> cases c <;> cases d <;> simp
end Qm
end Go.Proofs.Ytiniobcknmaigaa
