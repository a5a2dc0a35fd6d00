/-
  Plain lists of whole numbers, by what stands at each place. No program in sight.
-/
import Derived.Test.YtiniobcknmaigaaMath
namespace Go.Proofs.Ytiniobcknmaigaa.Qm

/-- a list by what stands at each place -/
def tab {α : Type} (u : Nat → α) (n : Nat) : List α := (List.range n).map u
theorem tab_len {α : Type} (u : Nat → α) (n : Nat) : (tab u n).length = n := by simp [tab]
theorem tab_zero {α : Type} (u : Nat → α) : tab u 0 = [] := rfl
theorem tab_succ {α : Type} (u : Nat → α) (n : Nat) : tab u (n + 1) = tab u n ++ [u n] := by simp [tab, List.range_succ]
theorem tab_getElem {α : Type} (u : Nat → α) (n k : Nat) (h : k < (tab u n).length) : (tab u n)[k] = u k := by simp [tab]
theorem tab_get {u : Nat → Int} {n k : Nat} (h : k < n) : (tab u n).getD k 0 = u k := by
  rw [List.getD_eq_getElem?_getD, List.getElem?_eq_getElem (by rw [tab_len]; exact h), tab_getElem]; rfl
theorem tab_congr {α : Type} {u v : Nat → α} {n : Nat} (h : ∀ k, k < n → u k = v k) : tab u n = tab v n := by
  unfold tab; apply List.map_congr_left; intro k hk; exact h k (List.mem_range.1 hk)
theorem tab_map {α β : Type} (u : Nat → α) (f : α → β) (n : Nat) : (tab u n).map f = tab (fun k => f (u k)) n := by simp [tab]
theorem tab_set {α : Type} (u : Nat → α) (n p : Nat) (x : α) : (tab u n).set p x = tab (fun k => if k = p then x else u k) n := by
  apply List.ext_getElem
  · rw [List.length_set, tab_len, tab_len]
  · intro k h1 h2
    rw [List.getElem_set, tab_getElem, tab_getElem]
    by_cases h : p = k
    · rw [if_pos h, if_pos h.symm]
    · rw [if_neg h, if_neg (fun e => h e.symm)]
/-- each list is one -/
theorem tab_self (xs : List Int) : tab (fun k => xs.getD k 0) xs.length = xs := by
  apply List.ext_getElem
  · rw [tab_len]
  · intro k h1 h2
    rw [tab_getElem, List.getD_eq_getElem?_getD, List.getElem?_eq_getElem h2]; rfl
theorem tab_eq {u : Nat → Int} {xs : List Int} {n : Nat} (h : xs.length = n) (g : ∀ k, k < n → u k = xs.getD k 0) : tab u n = xs := by
  rw [tab_congr g, ← h]; exact tab_self xs

/-- was one of the first n so? -/
def anyB (o : Nat → Bool) : Nat → Bool
  | 0 => false
  | n + 1 => anyB o n || o n
theorem anyB_congr {o p : Nat → Bool} {n : Nat} (h : ∀ k, k < n → o k = p k) : anyB o n = anyB p n := by
  induction n with
  | zero => rfl
  | succ n ih => rw [anyB, anyB, ih fun k hk => h k (by omega), h n (by omega)]
theorem anyB_none {o : Nat → Bool} {n : Nat} (h : ∀ k, k < n → o k = false) : anyB o n = false := by
  induction n with
  | zero => rfl
  | succ n ih => rw [anyB, ih fun k hk => h k (by omega), h n (by omega)]; rfl

theorem div_of {i j c : Nat} (h : j < c) : (i * c + j) / c = i := by
  rw [Nat.mul_comm, Nat.mul_add_div (by omega), Nat.div_eq_of_lt h, Nat.add_zero]
theorem mod_of {i j c : Nat} (h : j < c) : (i * c + j) % c = j := by
  rw [Nat.mul_comm, Nat.mul_add_mod, Nat.mod_eq_of_lt h]
theorem at_lt {i j r c : Nat} (hi : i < r) (hj : j < c) : i * c + j < r * c := by
  have h : (i + 1) * c ≤ r * c := Nat.mul_le_mul_right c hi
  rw [Nat.succ_mul] at h; omega
theorem mul_le_64 {r c : Nat} (hr : r ≤ 8) (hc : c ≤ 8) : r * c ≤ 64 := Nat.mul_le_mul hr hc

end Go.Proofs.Ytiniobcknmaigaa.Qm
