/-
  Texts joined, in the order in which they stand on one another: Math Base MatM.
-/
import Derived.Test.YtiniobcknmaigaaGreatRows
import Derived.WalkKit
import Derived.ProofKit
import Derived.WalkLawsBesides
/-
  Plain arithmetic of the numbers of 24 bits behind the point: what the document says of sums, products, quotients and roots, as functions of whole numbers. No program in sight.
-/
namespace Go.Proofs.YtiniobcknmaigaaGreat.Qm

/-- a number in bounds -/
def cl (a : Int) : Int := if 70368744177663 < a then 70368744177663 else if a < -70368744177664 then -70368744177664 else a
/-- is it out of bounds? -/
def ob (a : Int) : Bool := decide (70368744177663 < a) || decide (a < -70368744177664)

theorem cl_bd (a : Int) : -70368744177664 ≤ cl a ∧ cl a ≤ 70368744177663 := by unfold cl; omega
theorem cl_lo (a : Int) : -70368744177664 ≤ cl a := (cl_bd a).1
theorem cl_hi (a : Int) : cl a ≤ 70368744177663 := (cl_bd a).2
theorem cl_in {a : Int} (h1 : -70368744177664 ≤ a) (h2 : a ≤ 70368744177663) : cl a = a := by unfold cl; omega
theorem ob_in {a : Int} (h1 : -70368744177664 ≤ a) (h2 : a ≤ 70368744177663) : ob a = false := by unfold ob; simp; omega
theorem cl_top {a : Int} (h : 70368744177663 < a) : cl a = 70368744177663 := by unfold cl; omega
theorem cl_low {a : Int} (h : a < -70368744177664) : cl a = -70368744177664 := by unfold cl; omega
theorem ob_top {a : Int} (h : 70368744177663 < a) : ob a = true := by unfold ob; simp; omega
theorem ob_low {a : Int} (h : a < -70368744177664) : ob a = true := by unfold ob; simp; omega
theorem cl_cl (a : Int) : cl (cl a) = cl a := cl_in (cl_lo a) (cl_hi a)

/-- q and r by d, rounded: to the nearest, of two that are as near to the even one -/
def near (q r d : Int) : Int := if d < 2 * r ∨ (2 * r = d ∧ q % 2 = 1) then q + 1 else q
theorem near_up {q r d : Int} (h : d < 2 * r ∨ (2 * r = d ∧ q % 2 = 1)) : near q r d = q + 1 := by unfold near; rw [if_pos h]
theorem near_stay {q r d : Int} (h : ¬ (d < 2 * r ∨ (2 * r = d ∧ q % 2 = 1))) : near q r d = q := by unfold near; rw [if_neg h]
theorem near_bd (q r d : Int) : q ≤ near q r d ∧ near q r d ≤ q + 1 := by unfold near; split <;> omega
/-- a size with a sign -/
def sg (neg : Bool) (n : Int) : Int := if neg = true then -n else n
theorem sg_t (n : Int) : sg true n = -n := rfl
theorem sg_f (n : Int) : sg false n = n := rfl
/-- a number without its sign -/
def ab (a : Int) : Int := if a < 0 then -a else a
theorem ab_bd (a : Int) : 0 ≤ ab (cl a) ∧ ab (cl a) ≤ 70368744177664 := by have := cl_bd a; unfold ab; split <;> omega
theorem ab_neg {a : Int} (h : a < 0) : ab a = -a := by unfold ab; rw [if_pos h]
theorem ab_pos {a : Int} (h : ¬ a < 0) : ab a = a := by unfold ab; rw [if_neg h]

/-- a sign, turned round by a number below 0 -/
def flip (s : Bool) (n : Int) : Bool := if n < 0 then !s else s
theorem flip_neg {s : Bool} {n : Int} (h : n < 0) : flip s n = !s := by unfold flip; rw [if_pos h]
theorem flip_pos {s : Bool} {n : Int} (h : ¬ n < 0) : flip s n = s := by unfold flip; rw [if_neg h]
/-- was one of two out of bounds? -/
def ob2 (a b : Int) : Bool := ob a || ob b
/-- the product of two sizes; the sign of a product -/
def pr (a b : Int) : Int := ab (cl a) * ab (cl b)
def ng (a b : Int) : Bool := flip (flip false (cl a)) (cl b)
/-- a product, rounded, ahead of its bounds -/
def mulv (a b : Int) : Int := sg (ng a b) (near (pr a b / 16777216) (pr a b % 16777216) 16777216)
theorem pr_bd (a b : Int) : 0 ≤ pr a b ∧ pr a b ≤ 4951760157141521099596496896 := by
  obtain ⟨h1, h2⟩ := ab_bd a
  obtain ⟨h3, h4⟩ := ab_bd b
  have e : (4951760157141521099596496896 : Int) = 70368744177664 * 70368744177664 := by decide
  exact ⟨Int.mul_nonneg h1 h3, by rw [e]; exact Int.mul_le_mul h2 h4 h3 (by omega)⟩
theorem sg_bd (s : Bool) {n m : Int} (h0 : 0 ≤ n) (h : n ≤ m) : -m ≤ sg s n ∧ sg s n ≤ m := by cases s <;> simp [sg_t, sg_f] <;> omega
/-- two sizes that are both beyond the bounds come to the same -/
theorem far_same (s : Bool) {m n : Int} (hm : 70368744177664 < m) (hn : 70368744177664 < n) : cl (sg s m) = cl (sg s n) ∧ ob (sg s m) = ob (sg s n) := by
  cases s
  · rw [sg_f, sg_f, cl_top (by omega), cl_top (by omega), ob_top (by omega), ob_top (by omega)]; exact ⟨rfl, rfl⟩
  · rw [sg_t, sg_t, cl_low (by omega), cl_low (by omega), ob_low (by omega), ob_low (by omega)]; exact ⟨rfl, rfl⟩

/-- sums and differences -/
def add (a b : Int) : Int := cl (cl a + cl b)
def addB (a b : Int) : Bool := ob2 a b || ob (cl a + cl b)
def sub (a b : Int) : Int := cl (cl a - cl b)
def subB (a b : Int) : Bool := ob2 a b || ob (cl a - cl b)
/-- products -/
def mul (a b : Int) : Int := cl (mulv a b)
def mulB (a b : Int) : Bool := ob2 a b || ob (mulv a b)

end Go.Proofs.YtiniobcknmaigaaGreat.Qm

/-
  The contracts of the leaves of package qfix and of the document's answer: each call returns what the plain arithmetic says.
-/
namespace Go.Proofs.YtiniobcknmaigaaGreat
open Go.RowKit Qm

set_option maxHeartbeats 400000 in
theorem clamp_any (a : Int) (w : World) :
    Calls Tryz.prog 75 #[.int .i64 a] w fun e w' => e = .returned (.tuple #[.int .i64 (cl a), .bool (ob a)]) ∧ w' = w := by
  by_cases h1 : 70368744177663 < a
  · rw [cl_top h1, ob_top h1]
    go_enter Tryz.func75, Tryz.ntmps75
    go_wp2
    go_ret2
    exact ⟨rfl, rfl⟩
  · by_cases h2 : a < -70368744177664
    · rw [cl_low h2, ob_low h2]
      go_enter Tryz.func75, Tryz.ntmps75
      go_wp2
      go_ret2
      exact ⟨rfl, rfl⟩
    · rw [cl_in (by omega) (by omega), ob_in (by omega) (by omega)]
      go_enter Tryz.func75, Tryz.ntmps75
      go_wp2
      go_ret2
      exact ⟨rfl, rfl⟩

set_option maxHeartbeats 400000 in
theorem rclamp_any (a : Int) (w : World) :
    Calls Tryz.prog 69 #[.int .i64 a] w fun e w' => e = .returned (.tuple #[.int .i64 (cl a), .bool (ob a)]) ∧ w' = w := by
  by_cases h1 : 70368744177663 < a
  · rw [cl_top h1, ob_top h1]
    go_enter Tryz.func69, Tryz.ntmps69
    go_wp2
    go_ret2
    exact ⟨rfl, rfl⟩
  · by_cases h2 : a < -70368744177664
    · rw [cl_low h2, ob_low h2]
      go_enter Tryz.func69, Tryz.ntmps69
      go_wp2
      go_ret2
      exact ⟨rfl, rfl⟩
    · rw [cl_in (by omega) (by omega), ob_in (by omega) (by omega)]
      go_enter Tryz.func69, Tryz.ntmps69
      go_wp2
      go_ret2
      exact ⟨rfl, rfl⟩

/-- a word's last bit -/
theorem i64_and1 (n : Int) : bits .and .i64 n 1 = n % 2 := by
  have last : ∀ v : BitVec 64, (v &&& 1#64).toNat = v.toNat % 2 := fun v => by rw [BitVec.toNat_and]; exact Nat.and_one_is_mod _
  show IntKind.i64.wrap (((BitVec.ofInt 64 n &&& 1#64).toNat : Nat) : Int) = n % 2
  rw [last, BitVec.toNat_ofInt, IntKind.wrap_i64]
  omega

set_option maxHeartbeats 400000 in
theorem nearest_any (q r d : Int) (w : World) (hr0 : 0 ≤ r) (hr : r ≤ 4611686018427387904) (hq : near q r d ≤ 9223372036854775807) (hq0 : -9223372036854775808 ≤ q) :
    Calls Tryz.prog 96 #[.int .i64 q, .int .u64 r, .int .u64 d] w fun e w' => e = .returned (.int .i64 (near q r d)) ∧ w' = w := by
  by_cases h1 : d < 2 * r
  · rw [near_up (Or.inl h1)] at hq ⊢
    go_enter Tryz.func96, Tryz.ntmps96
    go_wp2
    go_ret
    exact ⟨rfl, rfl⟩
  · by_cases h2 : 2 * r = d
    · by_cases h3 : q % 2 = 1
      · rw [near_up (Or.inr ⟨h2, h3⟩)] at hq ⊢
        have h4 : (bits BinOp.and IntKind.i64 q 1 == 1) = true := by rw [i64_and1]; simp; omega
        have h5 : (2 * r == d) = true := by simp; omega
        clear h2 h3
        go_enter Tryz.func96, Tryz.ntmps96
        go_wp2
        go_ret
        exact ⟨rfl, rfl⟩
      · rw [near_stay (by omega)]
        have h4 : (bits BinOp.and IntKind.i64 q 1 == 1) = false := by rw [i64_and1]; simp; omega
        have h5 : (2 * r == d) = true := by simp; omega
        clear h2 h3
        go_enter Tryz.func96, Tryz.ntmps96
        go_wp2
        go_ret
        exact ⟨rfl, rfl⟩
    · rw [near_stay (by omega)]
      have h5 : (2 * r == d) = false := by simp; omega
      clear h2
      go_enter Tryz.func96, Tryz.ntmps96
      go_wp2
      go_ret
      exact ⟨rfl, rfl⟩

set_option maxHeartbeats 400000 in
theorem clampBoth_any (a b : Int) (w : World) :
    Calls Tryz.prog 74 #[.int .i64 a, .int .i64 b] w fun e w' => e = .returned (.tuple #[.int .i64 (cl a), .int .i64 (cl b), .bool (ob2 a b)]) ∧ w' = w := by
  unfold ob2
  cases hb : ob a
  all_goals
    go_enter Tryz.func74, Tryz.ntmps74
    go_wp2_with (go_at_call 75; refine (clamp_any _ _).mono ?_; rintro e w' ⟨rfl, rfl⟩)
    go_ret3
    exact ⟨rfl, rfl⟩

set_option maxHeartbeats 400000 in
theorem add_any (a b : Int) (w : World) :
    Calls Tryz.prog 41 #[.int .i64 a, .int .i64 b] w fun e w' => e = .returned (.tuple #[.int .i64 (add a b), .bool (addB a b)]) ∧ w' = w := by
  have h1 := cl_lo a; have h2 := cl_hi a; have h3 := cl_lo b; have h4 := cl_hi b
  unfold add addB
  cases hb : ob2 a b
  all_goals
    go_enter Tryz.func41, Tryz.ntmps41
    go_wp2_with (first | (go_at_call 75; refine (clamp_any _ _).mono ?_; rintro e w' ⟨rfl, rfl⟩) | (go_at_call 74; refine (clampBoth_any _ _ _).mono ?_; rintro e w' ⟨rfl, rfl⟩))
    go_ret2
    exact ⟨rfl, rfl⟩

set_option maxHeartbeats 400000 in
theorem sub_any (a b : Int) (w : World) :
    Calls Tryz.prog 39 #[.int .i64 a, .int .i64 b] w fun e w' => e = .returned (.tuple #[.int .i64 (sub a b), .bool (subB a b)]) ∧ w' = w := by
  have h1 := cl_lo a; have h2 := cl_hi a; have h3 := cl_lo b; have h4 := cl_hi b
  unfold sub subB
  cases hb : ob2 a b
  all_goals
    go_enter Tryz.func39, Tryz.ntmps39
    go_wp2_with (first | (go_at_call 75; refine (clamp_any _ _).mono ?_; rintro e w' ⟨rfl, rfl⟩) | (go_at_call 74; refine (clampBoth_any _ _ _).mono ?_; rintro e w' ⟨rfl, rfl⟩))
    go_ret2
    exact ⟨rfl, rfl⟩

set_option maxHeartbeats 400000 in
theorem radd_any (a b : Int) (w : World) :
    Calls Tryz.prog 43 #[.int .i64 a, .int .i64 b] w fun e w' => e = .returned (.tuple #[.int .i64 (add a b), .bool (addB a b)]) ∧ w' = w := by
  have h1 := cl_lo a; have h2 := cl_hi a; have h3 := cl_lo b; have h4 := cl_hi b
  unfold add addB ob2
  cases hb : ob a <;> cases hc : ob b
  all_goals
    go_enter Tryz.func43, Tryz.ntmps43
    go_wp2_with (go_at_call 69; refine (rclamp_any _ _).mono ?_; rintro e w' ⟨rfl, rfl⟩)
    go_ret2
    exact ⟨rfl, rfl⟩

set_option maxHeartbeats 400000 in
theorem rsub_any (a b : Int) (w : World) :
    Calls Tryz.prog 42 #[.int .i64 a, .int .i64 b] w fun e w' => e = .returned (.tuple #[.int .i64 (sub a b), .bool (subB a b)]) ∧ w' = w := by
  have h1 := cl_lo a; have h2 := cl_hi a; have h3 := cl_lo b; have h4 := cl_hi b
  unfold sub subB ob2
  cases hb : ob a <;> cases hc : ob b
  all_goals
    go_enter Tryz.func42, Tryz.ntmps42
    go_wp2_with (go_at_call 69; refine (rclamp_any _ _).mono ?_; rintro e w' ⟨rfl, rfl⟩)
    go_ret2
    exact ⟨rfl, rfl⟩

/-! ### the sign's two closures, over a cell of their own -/
set_option maxHeartbeats 400000 in
theorem signs_any (w : World) :
    Calls Tryz.prog 94 #[] w fun e w' => e = .returned (.tuple #[.func (Fn.func 110) #[] #[.pointer (some ⟨w.heap.size, 0, none⟩)], .func (Fn.func 111) #[] #[.pointer (some ⟨w.heap.size, 0, none⟩)]]) ∧ w' = w.alloc (.cells #[.bool false] 4) := by
  go_enter Tryz.func94, Tryz.ntmps94
  go_wp2
  go_ret2
  exact ⟨rfl, rfl⟩

set_option maxHeartbeats 400000 in
theorem takeOff_any (n : Int) (s : Bool) (w : World) (h1 : -70368744177664 ≤ n) (h2 : n ≤ 70368744177663) :
    Calls Tryz.prog 110 #[.int .i64 n, .pointer (some ⟨w.heap.size, 0, none⟩)] (w.alloc (.cells #[.bool s] 4)) fun e w' => e = .returned (.int .u64 (ab n)) ∧ w' = w.alloc (.cells #[.bool (flip s n)] 4) := by
  by_cases h : n < 0
  · rw [flip_neg h, ab_neg h]
    go_enter Tryz.func110, Tryz.ntmps110
    go_wp2
    go_ret
    exact ⟨rfl, rfl⟩
  · rw [flip_pos h, ab_pos h]
    go_enter Tryz.func110, Tryz.ntmps110
    go_wp2
    go_ret
    exact ⟨rfl, rfl⟩

set_option maxHeartbeats 400000 in
theorem layOn_any (n : Int) (s : Bool) (w : World) (h1 : 0 ≤ n) (h2 : n ≤ 4611686018427387904) :
    Calls Tryz.prog 111 #[.int .i64 n, .pointer (some ⟨w.heap.size, 0, none⟩)] (w.alloc (.cells #[.bool s] 4)) fun e w' => e = .returned (.int .i64 (sg s n)) ∧ w' = w.alloc (.cells #[.bool s] 4) := by
  cases s
  · rw [sg_f]
    go_enter Tryz.func111, Tryz.ntmps111
    go_wp2
    go_ret
    exact ⟨rfl, rfl⟩
  · rw [sg_t]
    go_enter Tryz.func111, Tryz.ntmps111
    go_wp2
    go_ret
    exact ⟨rfl, rfl⟩
end Go.Proofs.YtiniobcknmaigaaGreat

/-
  Plain lists of whole numbers, by what stands at each place. No program in sight.
-/
namespace Go.Proofs.YtiniobcknmaigaaGreat.Qm

/-- a list by what stands at each place -/
def tab {α : Type} (u : Nat → α) (n : Nat) : List α := (List.range n).map u
theorem tab_len {α : Type} (u : Nat → α) (n : Nat) : (tab u n).length = n := by simp [tab]
theorem tab_zero {α : Type} (u : Nat → α) : tab u 0 = [] := rfl
theorem tab_succ {α : Type} (u : Nat → α) (n : Nat) : tab u (n + 1) = tab u n ++ [u n] := by simp [tab, List.range_succ]
theorem tab_getElem {α : Type} (u : Nat → α) (n k : Nat) (h : k < (tab u n).length) : (tab u n)[k] = u k := by simp [tab]
theorem tab_get {u : Nat → Int} {n k : Nat} (h : k < n) : (tab u n).getD k 0 = u k := by
  rw [List.getD_eq_getElem?_getD, List.getElem?_eq_getElem (by rw [tab_len]; exact h), tab_getElem]; rfl
theorem tab_congr {α : Type} {u v : Nat → α} {n : Nat} (h : ∀ k, k < n → u k = v k) : tab u n = tab v n := by
  unfold tab; apply List.map_congr_left; intro k hk; exact h k (List.mem_range.1 hk)
theorem tab_map {α β : Type} (u : Nat → α) (f : α → β) (n : Nat) : (tab u n).map f = tab (fun k => f (u k)) n := by simp [tab]
theorem tab_set {α : Type} (u : Nat → α) (n p : Nat) (x : α) : (tab u n).set p x = tab (fun k => if k = p then x else u k) n := by
  apply List.ext_getElem
  · rw [List.length_set, tab_len, tab_len]
  · intro k h1 h2
    rw [List.getElem_set, tab_getElem, tab_getElem]
    by_cases h : p = k
    · rw [if_pos h, if_pos h.symm]
    · rw [if_neg h, if_neg (fun e => h e.symm)]
/-- each list is one -/
theorem tab_self (xs : List Int) : tab (fun k => xs.getD k 0) xs.length = xs := by
  apply List.ext_getElem
  · rw [tab_len]
  · intro k h1 h2
    rw [tab_getElem, List.getD_eq_getElem?_getD, List.getElem?_eq_getElem h2]; rfl
theorem tab_eq {u : Nat → Int} {xs : List Int} {n : Nat} (h : xs.length = n) (g : ∀ k, k < n → u k = xs.getD k 0) : tab u n = xs := by
  rw [tab_congr g, ← h]; exact tab_self xs

/-- was one of the first n so? -/
def anyB (o : Nat → Bool) : Nat → Bool
  | 0 => false
  | n + 1 => anyB o n || o n
theorem anyB_congr {o p : Nat → Bool} {n : Nat} (h : ∀ k, k < n → o k = p k) : anyB o n = anyB p n := by
  induction n with
  | zero => rfl
  | succ n ih => rw [anyB, anyB, ih fun k hk => h k (by omega), h n (by omega)]
theorem anyB_none {o : Nat → Bool} {n : Nat} (h : ∀ k, k < n → o k = false) : anyB o n = false := by
  induction n with
  | zero => rfl
  | succ n ih => rw [anyB, ih fun k hk => h k (by omega), h n (by omega)]; rfl

theorem div_of {i j c : Nat} (h : j < c) : (i * c + j) / c = i := by
  rw [Nat.mul_comm, Nat.mul_add_div (by omega), Nat.div_eq_of_lt h, Nat.add_zero]
theorem mod_of {i j c : Nat} (h : j < c) : (i * c + j) % c = j := by
  rw [Nat.mul_comm, Nat.mul_add_mod, Nat.mod_eq_of_lt h]
theorem at_lt {i j r c : Nat} (hi : i < r) (hj : j < c) : i * c + j < r * c := by
  have h : (i + 1) * c ≤ r * c := Nat.mul_le_mul_right c hi
  rw [Nat.succ_mul] at h; omega
theorem mul_le_64 {r c : Nat} (hr : r ≤ 8) (hc : c ≤ 8) : r * c ≤ 64 := Nat.mul_le_mul hr hc

end Go.Proofs.YtiniobcknmaigaaGreat.Qm
