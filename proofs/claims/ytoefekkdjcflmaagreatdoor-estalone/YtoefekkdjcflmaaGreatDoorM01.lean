/- Parts of the proof. -/
import Derived.Test.YtoefekkdjcflmaaGreatDoorRows
import Derived.BigQuiet
import Derived.Deep.QuietTactic
import Derived.Deep.RegionWith
import Derived.Laws.EntriesVeiled
import Derived.Lib.QuietBelow
import Derived.OneCell
import Derived.ProofKit
import Derived.WalkKit
import Derived.WalkLawsBesides
import Derived.WalkSpells
namespace Go.Proofs.YtoefekkdjcflmaaGreatDoor
def eD (n : Nat) : Edge := ⟨n, .data⟩
def eP (n : Nat) : Edge := ⟨n, .phase⟩
def eG (n : Nat) : Edge := ⟨n, .guard⟩
def eC (n : Nat) : Edge := ⟨n, .chain⟩
end Go.Proofs.YtoefekkdjcflmaaGreatDoor
namespace Go.Proofs.YtoefekkdjcflmaaGreatDoor.Qm
def cl (a : Int) : Int := if 70368744177663 < a then 70368744177663 else if a < -70368744177664 then -70368744177664 else a
def ob (a : Int) : Bool := decide (70368744177663 < a) || decide (a < -70368744177664)
theorem cl_bd (a : Int) : -70368744177664 ≤ cl a ∧ cl a ≤ 70368744177663 := by unfold cl; omega
theorem cl_lo (a : Int) : -70368744177664 ≤ cl a := (cl_bd a).1
theorem cl_hi (a : Int) : cl a ≤ 70368744177663 := (cl_bd a).2
theorem cl_in {a : Int} (h1 : -70368744177664 ≤ a) (h2 : a ≤ 70368744177663) : cl a = a := by unfold cl; omega
theorem ob_in {a : Int} (h1 : -70368744177664 ≤ a) (h2 : a ≤ 70368744177663) : ob a = false := by unfold ob; simp; omega
theorem cl_top {a : Int} (h : 70368744177663 < a) : cl a = 70368744177663 := by unfold cl; omega
theorem cl_low {a : Int} (h : a < -70368744177664) : cl a = -70368744177664 := by unfold cl; omega
theorem ob_top {a : Int} (h : 70368744177663 < a) : ob a = true := by unfold ob; simp; omega
theorem ob_low {a : Int} (h : a < -70368744177664) : ob a = true := by unfold ob; simp; omega
def near (q r d : Int) : Int := if d < 2 * r ∨ (2 * r = d ∧ q % 2 = 1) then q + 1 else q
theorem near_up {q r d : Int} (h : d < 2 * r ∨ (2 * r = d ∧ q % 2 = 1)) : near q r d = q + 1 := by unfold near; rw [if_pos h]
theorem near_stay {q r d : Int} (h : ¬ (d < 2 * r ∨ (2 * r = d ∧ q % 2 = 1))) : near q r d = q := by unfold near; rw [if_neg h]
theorem near_bd (q r d : Int) : q ≤ near q r d ∧ near q r d ≤ q + 1 := by unfold near; split <;> omega
def sg (neg : Bool) (n : Int) : Int := if neg = true then -n else n
theorem sg_t (n : Int) : sg true n = -n := rfl
theorem sg_f (n : Int) : sg false n = n := rfl
def ab (a : Int) : Int := if a < 0 then -a else a
theorem ab_bd (a : Int) : 0 ≤ ab (cl a) ∧ ab (cl a) ≤ 70368744177664 := by have := cl_bd a; unfold ab; split <;> omega
theorem ab_neg {a : Int} (h : a < 0) : ab a = -a := by unfold ab; rw [if_pos h]
theorem ab_pos {a : Int} (h : ¬ a < 0) : ab a = a := by unfold ab; rw [if_neg h]
def flip (s : Bool) (n : Int) : Bool := if n < 0 then !s else s
theorem flip_neg {s : Bool} {n : Int} (h : n < 0) : flip s n = !s := by unfold flip; rw [if_pos h]
theorem flip_pos {s : Bool} {n : Int} (h : ¬ n < 0) : flip s n = s := by unfold flip; rw [if_neg h]
def ob2 (a b : Int) : Bool := ob a || ob b
def pr (a b : Int) : Int := ab (cl a) * ab (cl b)
def ng (a b : Int) : Bool := flip (flip false (cl a)) (cl b)
def mulv (a b : Int) : Int := sg (ng a b) (near (pr a b / 16777216) (pr a b % 16777216) 16777216)
theorem pr_bd (a b : Int) : 0 ≤ pr a b ∧ pr a b ≤ 4951760157141521099596496896 := by
  obtain ⟨h1, h2⟩ := ab_bd a
  obtain ⟨h3, h4⟩ := ab_bd b
  have e : (4951760157141521099596496896 : Int) = 70368744177664 * 70368744177664 := by decide
  exact ⟨Int.mul_nonneg h1 h3, by rw [e]; exact Int.mul_le_mul h2 h4 h3 (by omega)⟩
theorem far_same (s : Bool) {m n : Int} (hm : 70368744177664 < m) (hn : 70368744177664 < n) : cl (sg s m) = cl (sg s n) ∧ ob (sg s m) = ob (sg s n) := by
  cases s
  · rw [sg_f, sg_f, cl_top (by omega), cl_top (by omega), ob_top (by omega), ob_top (by omega)]; exact ⟨rfl, rfl⟩
  · rw [sg_t, sg_t, cl_low (by omega), cl_low (by omega), ob_low (by omega), ob_low (by omega)]; exact ⟨rfl, rfl⟩
def add (a b : Int) : Int := cl (cl a + cl b)
def addB (a b : Int) : Bool := ob2 a b || ob (cl a + cl b)
def sub (a b : Int) : Int := cl (cl a - cl b)
def subB (a b : Int) : Bool := ob2 a b || ob (cl a - cl b)
def mul (a b : Int) : Int := cl (mulv a b)
def mulB (a b : Int) : Bool := ob2 a b || ob (mulv a b)
end Go.Proofs.YtoefekkdjcflmaaGreatDoor.Qm
namespace Go.Proofs.YtoefekkdjcflmaaGreatDoor
open Go.RowKit Qm
set_option maxHeartbeats 400000 in
theorem clamp_any (a : Int) (w : World) :
    Calls Tryz.prog 91 #[.int .i64 a] w fun e w' => e = .returned (.tuple #[.int .i64 (cl a), .bool (ob a)]) ∧ w' = w := by
  by_cases h1 : 70368744177663 < a
  · rw [cl_top h1, ob_top h1]
    go_enter Tryz.func91, Tryz.ntmps91
    go_wp2
    go_ret2
    exact ⟨rfl, rfl⟩
  · by_cases h2 : a < -70368744177664
    · rw [cl_low h2, ob_low h2]
      go_enter Tryz.func91, Tryz.ntmps91
      go_wp2
      go_ret2
      exact ⟨rfl, rfl⟩
    · rw [cl_in (by omega) (by omega), ob_in (by omega) (by omega)]
      go_enter Tryz.func91, Tryz.ntmps91
      go_wp2
      go_ret2
      exact ⟨rfl, rfl⟩
theorem i64_and1 (n : Int) : bits .and .i64 n 1 = n % 2 := by
  have last : ∀ v : BitVec 64, (v &&& 1#64).toNat = v.toNat % 2 := fun v => by rw [BitVec.toNat_and]; exact Nat.and_one_is_mod _
  show IntKind.i64.wrap (((BitVec.ofInt 64 n &&& 1#64).toNat : Nat) : Int) = n % 2
  rw [last, BitVec.toNat_ofInt, IntKind.wrap_i64]
  omega
set_option maxHeartbeats 400000 in
theorem nearest_any (q r d : Int) (w : World) (hr0 : 0 ≤ r) (hr : r ≤ 4611686018427387904) (hq : near q r d ≤ 9223372036854775807) (hq0 : -9223372036854775808 ≤ q) :
    Calls Tryz.prog 146 #[.int .i64 q, .int .u64 r, .int .u64 d] w fun e w' => e = .returned (.int .i64 (near q r d)) ∧ w' = w := by
  by_cases h1 : d < 2 * r
  · rw [near_up (Or.inl h1)] at hq ⊢
    go_enter Tryz.func146, Tryz.ntmps146
    go_wp2
    go_ret
    exact ⟨rfl, rfl⟩
  · by_cases h2 : 2 * r = d
    · by_cases h3 : q % 2 = 1
      · rw [near_up (Or.inr ⟨h2, h3⟩)] at hq ⊢
        have h4 : (bits BinOp.and IntKind.i64 q 1 == 1) = true := by rw [i64_and1]; simp; omega
        have h5 : (2 * r == d) = true := by simp; omega
        clear h2 h3
        go_enter Tryz.func146, Tryz.ntmps146
        go_wp2
        go_ret
        exact ⟨rfl, rfl⟩
      · rw [near_stay (by omega)]
        have h4 : (bits BinOp.and IntKind.i64 q 1 == 1) = false := by rw [i64_and1]; simp; omega
        have h5 : (2 * r == d) = true := by simp; omega
        clear h2 h3
        go_enter Tryz.func146, Tryz.ntmps146
        go_wp2
        go_ret
        exact ⟨rfl, rfl⟩
    · rw [near_stay (by omega)]
      have h5 : (2 * r == d) = false := by simp; omega
      clear h2
      go_enter Tryz.func146, Tryz.ntmps146
      go_wp2
      go_ret
      exact ⟨rfl, rfl⟩
set_option maxHeartbeats 400000 in
theorem clampBoth_any (a b : Int) (w : World) :
    Calls Tryz.prog 148 #[.int .i64 a, .int .i64 b] w fun e w' => e = .returned (.tuple #[.int .i64 (cl a), .int .i64 (cl b), .bool (ob2 a b)]) ∧ w' = w := by
  unfold ob2
  cases hb : ob a
  all_goals
    go_enter Tryz.func148, Tryz.ntmps148
    go_wp2_with (go_at_call 91; refine (clamp_any _ _).mono ?_; rintro e w' ⟨rfl, rfl⟩)
    go_ret3
    exact ⟨rfl, rfl⟩
set_option maxHeartbeats 400000 in
theorem add_any (a b : Int) (w : World) :
    Calls Tryz.prog 118 #[.int .i64 a, .int .i64 b] w fun e w' => e = .returned (.tuple #[.int .i64 (add a b), .bool (addB a b)]) ∧ w' = w := by
  have h1 := cl_lo a; have h2 := cl_hi a; have h3 := cl_lo b; have h4 := cl_hi b
  unfold add addB
  cases hb : ob2 a b
  all_goals
    go_enter Tryz.func118, Tryz.ntmps118
    go_wp2_with (first | (go_at_call 91; refine (clamp_any _ _).mono ?_; rintro e w' ⟨rfl, rfl⟩) | (go_at_call 148; refine (clampBoth_any _ _ _).mono ?_; rintro e w' ⟨rfl, rfl⟩))
    go_ret2
    exact ⟨rfl, rfl⟩
set_option maxHeartbeats 400000 in
theorem sub_any (a b : Int) (w : World) :
    Calls Tryz.prog 103 #[.int .i64 a, .int .i64 b] w fun e w' => e = .returned (.tuple #[.int .i64 (sub a b), .bool (subB a b)]) ∧ w' = w := by
  have h1 := cl_lo a; have h2 := cl_hi a; have h3 := cl_lo b; have h4 := cl_hi b
  unfold sub subB
  cases hb : ob2 a b
  all_goals
    go_enter Tryz.func103, Tryz.ntmps103
    go_wp2_with (first | (go_at_call 91; refine (clamp_any _ _).mono ?_; rintro e w' ⟨rfl, rfl⟩) | (go_at_call 148; refine (clampBoth_any _ _ _).mono ?_; rintro e w' ⟨rfl, rfl⟩))
    go_ret2
    exact ⟨rfl, rfl⟩
set_option maxHeartbeats 400000 in
theorem signs_any (w : World) :
    Calls Tryz.prog 149 #[] w fun e w' => e = .returned (.tuple #[.func (Fn.func 175) #[] #[.pointer (some ⟨w.heap.size, 0, none⟩)], .func (Fn.func 176) #[] #[.pointer (some ⟨w.heap.size, 0, none⟩)]]) ∧ w' = w.alloc (.cells #[.bool false] 4) := by
  go_enter Tryz.func149, Tryz.ntmps149
  go_wp2
  go_ret2
  exact ⟨rfl, rfl⟩
set_option maxHeartbeats 400000 in
theorem takeOff_any (n : Int) (s : Bool) (w : World) (h1 : -70368744177664 ≤ n) (h2 : n ≤ 70368744177663) :
    Calls Tryz.prog 175 #[.int .i64 n, .pointer (some ⟨w.heap.size, 0, none⟩)] (w.alloc (.cells #[.bool s] 4)) fun e w' => e = .returned (.int .u64 (ab n)) ∧ w' = w.alloc (.cells #[.bool (flip s n)] 4) := by
  by_cases h : n < 0
  · rw [flip_neg h, ab_neg h]
    go_enter Tryz.func175, Tryz.ntmps175
    go_wp2
    go_ret
    exact ⟨rfl, rfl⟩
  · rw [flip_pos h, ab_pos h]
    go_enter Tryz.func175, Tryz.ntmps175
    go_wp2
    go_ret
    exact ⟨rfl, rfl⟩
set_option maxHeartbeats 400000 in
theorem layOn_any (n : Int) (s : Bool) (w : World) (h1 : 0 ≤ n) (h2 : n ≤ 4611686018427387904) :
    Calls Tryz.prog 176 #[.int .i64 n, .pointer (some ⟨w.heap.size, 0, none⟩)] (w.alloc (.cells #[.bool s] 4)) fun e w' => e = .returned (.int .i64 (sg s n)) ∧ w' = w.alloc (.cells #[.bool s] 4) := by
  cases s
  · rw [sg_f]
    go_enter Tryz.func176, Tryz.ntmps176
    go_wp2
    go_ret
    exact ⟨rfl, rfl⟩
  · rw [sg_t]
    go_enter Tryz.func176, Tryz.ntmps176
    go_wp2
    go_ret
    exact ⟨rfl, rfl⟩
theorem bt {a b c : World} (h : Below a.heap.size a b) (k : Below b.heap.size b c) : Below a.heap.size a c := h.trans (k.mono h.size)
theorem mask32 (z : Int) (h0 : 0 ≤ z) (h1 : z ≤ 18446744073709551615) : bits .and .u64 z 4294967295 = z % 4294967296 :=
  bits_mask .u64 64 (by decide) (fun n h0 h1 => by rw [IntKind.wrap_u64]; omega) 32 (by omega) z h0 (by omega)
theorem crossed (p q r s : Int) : (p * 4294967296 + q) * (r * 4294967296 + s) = p * r * 18446744073709551616 + (p * s + q * r) * 4294967296 + q * s := by
  have e1 : p * 4294967296 * (r * 4294967296) = p * r * 18446744073709551616 := by
    rw [Int.mul_assoc, Int.mul_left_comm 4294967296 r 4294967296, ← Int.mul_assoc p]
    generalize p * r = t
    omega
  have e2 : p * 4294967296 * s = p * s * 4294967296 := Int.mul_right_comm _ _ _
  have e3 : q * (r * 4294967296) = q * r * 4294967296 := (Int.mul_assoc _ _ _).symm
  rw [Int.add_mul, Int.mul_add, Int.mul_add, e1, e2, e3]
  omega
theorem prod32 {a b : Int} (ha : 0 ≤ a) (hA : a ≤ 4294967295) (hb : 0 ≤ b) (hB : b ≤ 4294967295) : 0 ≤ a * b ∧ a * b ≤ 4294967295 * 4294967295 :=
  ⟨Int.mul_nonneg ha hb, Int.mul_le_mul hA hB hb (by omega)⟩
def hi64 (n : Int) : Int := n / 18446744073709551616
def lo64 (n : Int) : Int := n % 18446744073709551616
theorem hi64_bd {n : Int} (h0 : 0 ≤ n) (h : n ≤ 4951760157141521099596496896) : 0 ≤ hi64 n ∧ hi64 n ≤ 268435456 := by unfold hi64; omega
theorem lo64_bd (n : Int) : 0 ≤ lo64 n ∧ lo64 n ≤ 18446744073709551615 := by unfold lo64; omega
set_option maxHeartbeats 1000000 in
theorem mul64_any (x y : Int) (w : World) (hx0 : 0 ≤ x) (hx : x ≤ 18446744073709551615) (hy0 : 0 ≤ y) (hy : y ≤ 18446744073709551615) :
    Calls Tryz.prog 150 #[.int .u64 x, .int .u64 y] w fun e w' => e = .returned (.tuple #[.int .u64 (hi64 (x * y)), .int .u64 (lo64 (x * y))]) ∧ w' = w := by
  have m1 := mask32 x hx0 hx
  have m2 := mask32 y hy0 hy
  obtain ⟨x1, ex1⟩ : ∃ z, x / 4294967296 = z := ⟨_, rfl⟩
  obtain ⟨x0, ex0⟩ : ∃ z, x % 4294967296 = z := ⟨_, rfl⟩
  obtain ⟨y1, ey1⟩ : ∃ z, y / 4294967296 = z := ⟨_, rfl⟩
  obtain ⟨y0, ey0⟩ : ∃ z, y % 4294967296 = z := ⟨_, rfl⟩
  rw [ex0] at m1
  rw [ey0] at m2
  have hxy : x * y = (x1 * 4294967296 + x0) * (y1 * 4294967296 + y0) := by
    rw [show x = x1 * 4294967296 + x0 by omega, show y = y1 * 4294967296 + y0 by omega]
  rw [crossed] at hxy
  have pa := prod32 (a := x1) (b := y1) (by omega) (by omega) (by omega) (by omega)
  have pb := prod32 (a := x1) (b := y0) (by omega) (by omega) (by omega) (by omega)
  have pc := prod32 (a := x0) (b := y1) (by omega) (by omega) (by omega) (by omega)
  have pd := prod32 (a := x0) (b := y0) (by omega) (by omega) (by omega) (by omega)
  obtain ⟨a, ea⟩ : ∃ z, x1 * y1 = z := ⟨_, rfl⟩
  obtain ⟨b, eb⟩ : ∃ z, x1 * y0 = z := ⟨_, rfl⟩
  obtain ⟨c, ec⟩ : ∃ z, x0 * y1 = z := ⟨_, rfl⟩
  obtain ⟨d, ed⟩ : ∃ z, x0 * y0 = z := ⟨_, rfl⟩
  rw [ea, eb, ec, ed] at hxy
  rw [ea] at pa
  rw [eb] at pb
  rw [ec] at pc
  rw [ed] at pd
  have m3 := mask32 (b + d / 4294967296) (by omega) (by omega)
  have hhi : hi64 (x * y) = a + (b + d / 4294967296) / 4294967296 + ((b + d / 4294967296) % 4294967296 + c) / 4294967296 := by
    unfold hi64; omega
  have hlo : lo64 (x * y) = IntKind.u64.wrap (x * y) := by unfold lo64; rw [IntKind.wrap_u64]
  rw [hhi, hlo]
  clear hxy hhi hlo ex0 ey0
  go_enter Tryz.func150, Tryz.ntmps150
  go_wp2
  go_ret2
  exact ⟨rfl, rfl⟩
set_option maxHeartbeats 400000 in
theorem below_any (x c : Int) (w : World) (hx0 : 0 ≤ x) (hx : x ≤ 18446744073709551615) (hc0 : 0 ≤ c) (hc : c ≤ 62) :
    Calls Tryz.prog 147 #[.int .u64 x, .int .i64 c] w fun e w' => e = .returned (.int .u64 (x % 2 ^ c.toNat)) ∧ w' = w := by
  obtain ⟨k, rfl⟩ := Int.eq_ofNat_of_zero_le hc0
  have hk : k ≤ 62 := by omega
  have hp : (2 : Int) ^ k ≤ 4611686018427387904 := by
    have := Nat.pow_le_pow_right (n := 2) (by decide) hk
    have h2 : ((2 ^ k : Nat) : Int) ≤ ((2 ^ 62 : Nat) : Int) := by omega
    simpa using h2
  have hp1 : (1 : Int) ≤ 2 ^ k := by
    have := Nat.two_pow_pos k
    have h2 : ((1 : Nat) : Int) ≤ ((2 ^ k : Nat) : Int) := by omega
    simpa using h2
  have hm := bits_mask .u64 64 (by decide) (fun n h0 h1 => by rw [IntKind.wrap_u64]; omega) k (by omega) x hx0 (by omega)
  simp only [Int.toNat_natCast]
  go_enter Tryz.func147, Tryz.ntmps147
  go_wp2
  go_ret
  exact ⟨rfl, rfl⟩
theorem below24_any (x : Int) (w : World) (hx0 : 0 ≤ x) (hx : x ≤ 18446744073709551615) :
    Calls Tryz.prog 147 #[.int .u64 x, .int .i64 24] w fun e w' => e = .returned (.int .u64 (x % 16777216)) ∧ w' = w := below_any x 24 w hx0 hx (by omega) (by omega)
theorem whole_eq {n : Int} (h0 : 0 ≤ n) (h : hi64 n < 128) : bits .or .u64 (hi64 n * 1099511627776) (lo64 n / 16777216) = n / 16777216 := by
  have h1 : 0 ≤ hi64 n := by unfold hi64; omega
  have hl := lo64_bd n
  rw [bits_join .u64 64 (by decide) (fun n h0 h1 => by rw [IntKind.wrap_u64]; omega) 40 _ _ (by omega) (by omega) (by omega) (by omega) (by omega) (by omega)]
  unfold hi64 lo64
  omega
theorem whole_lt {n : Int} (h0 : 0 ≤ n) (h : hi64 n < 128) : n / 16777216 ≤ 140737488355327 := by unfold hi64 at h; omega
theorem whole_pos {n : Int} (h0 : 0 ≤ n) : 0 ≤ n / 16777216 := by omega
theorem rest_eq (n : Int) : lo64 n % 16777216 = n % 16777216 := by unfold lo64; omega
set_option maxHeartbeats 1000000 in
theorem mul_near (a b : Int) (w : World) (hh : hi64 (pr a b) < 128) :
    Calls Tryz.prog 99 #[.int .i64 a, .int .i64 b] w fun e w' => e = .returned (.tuple #[.int .i64 (mul a b), .bool (mulB a b)]) ∧ Below w.heap.size w w' := by
  have h1 := cl_lo a; have h2 := cl_hi a; have h3 := cl_lo b; have h4 := cl_hi b
  obtain ⟨p1, p2⟩ := pr_bd a b
  obtain ⟨a1, a2⟩ := ab_bd a
  obtain ⟨b1, b2⟩ := ab_bd b
  have hP : ab (cl a) * ab (cl b) = pr a b := rfl
  obtain ⟨l1, l2⟩ := lo64_bd (pr a b)
  obtain ⟨i1, i2⟩ := hi64_bd p1 p2
  have hw := whole_eq p1 hh
  have hwl := whole_lt p1 hh
  have hwp := whole_pos p1
  have hr := rest_eq (pr a b)
  obtain ⟨n1, n2⟩ := near_bd (pr a b / 16777216) (pr a b % 16777216) 16777216
  unfold mul mulB mulv ng
  cases hob : ob2 a b
  all_goals
    go_enter Tryz.func99, Tryz.ntmps99
    go_wp2_with (first | (go_at_call 148; refine (clampBoth_any _ _ _).mono ?_; rintro e w' ⟨rfl, rfl⟩) | (go_at_call 149; refine (signs_any _).mono ?_; rintro e w' ⟨rfl, rfl⟩) | (go_at_call 175; refine (takeOff_any _ _ _ (by omega) (by omega)).mono ?_; rintro e w' ⟨rfl, rfl⟩) | (go_at_call 176; refine (layOn_any _ _ _ (by omega) (by omega)).mono ?_; rintro e w' ⟨rfl, rfl⟩) | (go_at_call 150; refine (mul64_any _ _ _ (by omega) (by omega) (by omega) (by omega)).mono ?_; rintro e w' ⟨rfl, rfl⟩) | (go_at_call 147; refine (below24_any _ _ (by omega) (by omega)).mono ?_; rintro e w' ⟨rfl, rfl⟩) | (go_at_call 146; refine (nearest_any _ _ _ _ (by omega) (by omega) (by omega) (by omega)).mono ?_; rintro e w' ⟨rfl, rfl⟩) | (go_at_call 91; refine (clamp_any _ _).mono ?_; rintro e w' ⟨rfl, rfl⟩))
    go_ret2
    exact ⟨rfl, (Below.refl _ _).alloc (Nat.le_refl _) _⟩
theorem far_ge {n : Int} (h : ¬ hi64 n < 128) : 140737488355328 ≤ n / 16777216 := by unfold hi64 at h; omega
set_option maxHeartbeats 1000000 in
theorem mul_far (a b : Int) (w : World) (hh : ¬ hi64 (pr a b) < 128) :
    Calls Tryz.prog 99 #[.int .i64 a, .int .i64 b] w fun e w' => e = .returned (.tuple #[.int .i64 (mul a b), .bool (mulB a b)]) ∧ Below w.heap.size w w' := by
  have hfar := far_ge hh
  obtain ⟨n1, n2⟩ := near_bd 140737488355328 (pr a b % 16777216) 16777216
  have n3 := (near_bd (pr a b / 16777216) (pr a b % 16777216) 16777216).1
  obtain ⟨e1, e2⟩ := far_same (flip (flip false (cl a)) (cl b)) (m := near (pr a b / 16777216) (pr a b % 16777216) 16777216) (n := near 140737488355328 (pr a b % 16777216) 16777216) (by omega) (by omega)
  unfold mul mulB mulv ng
  rw [e1, e2]
  clear e1 e2 n3 hfar
  have h1 := cl_lo a; have h2 := cl_hi a; have h3 := cl_lo b; have h4 := cl_hi b
  obtain ⟨p1, p2⟩ := pr_bd a b
  obtain ⟨a1, a2⟩ := ab_bd a
  obtain ⟨b1, b2⟩ := ab_bd b
  have hP : ab (cl a) * ab (cl b) = pr a b := rfl
  obtain ⟨l1, l2⟩ := lo64_bd (pr a b)
  obtain ⟨i1, i2⟩ := hi64_bd p1 p2
  have hr := rest_eq (pr a b)
  cases hob : ob2 a b
  all_goals
    go_enter Tryz.func99, Tryz.ntmps99
    go_wp2_with (first | (go_at_call 148; refine (clampBoth_any _ _ _).mono ?_; rintro e w' ⟨rfl, rfl⟩) | (go_at_call 149; refine (signs_any _).mono ?_; rintro e w' ⟨rfl, rfl⟩) | (go_at_call 175; refine (takeOff_any _ _ _ (by omega) (by omega)).mono ?_; rintro e w' ⟨rfl, rfl⟩) | (go_at_call 176; refine (layOn_any _ _ _ (by omega) (by omega)).mono ?_; rintro e w' ⟨rfl, rfl⟩) | (go_at_call 150; refine (mul64_any _ _ _ (by omega) (by omega) (by omega) (by omega)).mono ?_; rintro e w' ⟨rfl, rfl⟩) | (go_at_call 147; refine (below24_any _ _ (by omega) (by omega)).mono ?_; rintro e w' ⟨rfl, rfl⟩) | (go_at_call 146; refine (nearest_any _ _ _ _ (by omega) (by omega) (by omega) (by omega)).mono ?_; rintro e w' ⟨rfl, rfl⟩) | (go_at_call 91; refine (clamp_any _ _).mono ?_; rintro e w' ⟨rfl, rfl⟩))
    go_ret2
    exact ⟨rfl, (Below.refl _ _).alloc (Nat.le_refl _) _⟩
theorem mul_any (a b : Int) (w : World) :
    Calls Tryz.prog 99 #[.int .i64 a, .int .i64 b] w fun e w' => e = .returned (.tuple #[.int .i64 (mul a b), .bool (mulB a b)]) ∧ Below w.heap.size w w' := by
  by_cases h : hi64 (pr a b) < 128
  · exact mul_near a b w h
  · exact mul_far a b w h
end Go.Proofs.YtoefekkdjcflmaaGreatDoor
namespace Go.Proofs.YtoefekkdjcflmaaGreatDoor.Qt
open Go.RowKit Go.Sort Go.Proofs.YtoefekkdjcflmaaGreatDoor.Qm
namespace Qm
def anyB (o : Nat → Bool) : Nat → Bool
  | 0 => false
  | n + 1 => anyB o n || o n
def q4 (p : Nat → Int) (k : Nat) : Array Value := #[.int .i64 (if 0 < k then p 0 else 0), .int .i64 (if 1 < k then p 1 else 0), .int .i64 (if 2 < k then p 2 else 0), .int .i64 (if 3 < k then p 3 else 0)]
theorem q4_0 (p : Nat → Int) : q4 p 0 = #[.int .i64 0, .int .i64 0, .int .i64 0, .int .i64 0] := rfl
theorem q4_4 (p : Nat → Int) : q4 p 4 = #[.int .i64 (p 0), .int .i64 (p 1), .int .i64 (p 2), .int .i64 (p 3)] := rfl
end Qm
open Go.Proofs.YtoefekkdjcflmaaGreatDoor.Qt.Qm
theorem keep {w w' : World} {b : Nat} {o : Obj} (hb : Below w.heap.size w w') (h : w.heap[b]? = some o) : w'.heap[b]? = some o := (hb.block b (lt_of_block h)).trans h
theorem heap_old {w : World} {b : Nat} {x : Obj} (h : w.heap[b]? = some x) (o : Obj) : (w.alloc o).heap[b]? = some x := (Below.heap_alloc _ _ _ (lt_of_block h)).trans h
theorem heap_new (w : World) (o : Obj) : (w.alloc o).heap[w.heap.size]? = some o := heap_alloc_new w o
theorem allocs2 (w : World) (o1 o2 : Obj) : ((w.alloc o1).alloc o2).heap[w.heap.size]? = some o1 ∧ ((w.alloc o1).alloc o2).heap[w.heap.size + 1]? = some o2 :=
  ⟨heap_old (heap_new w o1) o2, by have h := heap_new (w.alloc o1) o2; simpa using h⟩
theorem allocs3 (w : World) (o1 o2 o3 : Obj) : (((w.alloc o1).alloc o2).alloc o3).heap[w.heap.size]? = some o1 ∧ (((w.alloc o1).alloc o2).alloc o3).heap[w.heap.size + 1]? = some o2 ∧ (((w.alloc o1).alloc o2).alloc o3).heap[w.heap.size + 1 + 1]? = some o3 :=
  ⟨heap_old (allocs2 w o1 o2).1 o3, heap_old (allocs2 w o1 o2).2 o3, by have h := heap_new ((w.alloc o1).alloc o2) o3; simpa using h⟩
theorem ball1 (w : World) (o1 : Obj) : Below w.heap.size w (w.alloc o1) := (Below.refl _ _).alloc (Nat.le_refl _) _
theorem ball2 (w : World) (o1 o2 : Obj) : Below w.heap.size w ((w.alloc o1).alloc o2) := (ball1 w o1).alloc (by simp) _
theorem ball3 (w : World) (o1 o2 o3 : Obj) : Below w.heap.size w (((w.alloc o1).alloc o2).alloc o3) := (ball2 w o1 o2).alloc (by simp; omega) _
theorem four_cells {w : World} {b : Nat} {x y z u : Value} {t : TypeId} (h : w.heap[b]? = some (.cells #[x, y, z, u] t (0, 0))) :
    w.cell? ⟨b, 0, none⟩ = some x ∧ w.cell? ⟨b, 1, none⟩ = some y ∧ w.cell? ⟨b, 2, none⟩ = some z ∧ w.cell? ⟨b, 3, none⟩ = some u ∧ w.frozen? ⟨b, 0, none⟩ = false ∧ w.frozen? ⟨b, 1, none⟩ = false ∧ w.frozen? ⟨b, 2, none⟩ = false ∧ w.frozen? ⟨b, 3, none⟩ = false := by
  simp [World.cell?, World.frozen?, h]
theorem q4_cell {w : World} {b k : Nat} {p : Nat → Int} {t : TypeId} (h : w.heap[b]? = some (.cells (q4 p k) t (0, 0))) (hk : k < 4) : w.cell? ⟨b, k, none⟩ = some (.int .i64 0) := by
  have hk4 : k = 0 ∨ k = 1 ∨ k = 2 ∨ k = 3 := by omega
  rcases hk4 with rfl | rfl | rfl | rfl <;> simp [World.cell?, h, q4]
theorem q4_free {w : World} {b k : Nat} {cs : Array Value} {t : TypeId} (h : w.heap[b]? = some (.cells cs t (0, 0))) : w.frozen? ⟨b, k, none⟩ = false := by simp [World.frozen?, h]
theorem q4_set {w : World} {b k : Nat} {p : Nat → Int} {t : TypeId} (h : w.heap[b]? = some (.cells (q4 p k) t (0, 0))) (hk : k < 4) :
    (w.setCell ⟨b, k, none⟩ (.int .i64 (p k))).heap[b]? = some (.cells (q4 p (k + 1)) t (0, 0)) := by
  rw [heap_setCell_same w b k _ t _ h]
  have hk4 : k = 0 ∨ k = 1 ∨ k = 2 ∨ k = 3 := by omega
  rcases hk4 with rfl | rfl | rfl | rfl <;> simp [q4]
theorem set_other {w : World} {b c k : Nat} {v : Value} {o : Obj} (h : w.heap[b]? = some o) (hn : b ≠ c) : (w.setCell ⟨c, k, none⟩ v).heap[b]? = some o := by
  rw [Below.heap_setCell _ _ _ _ hn]; exact h
def TI (w : World) (p : Nat → Int) (k : Nat) (wr : World) : Prop :=
  wr.heap[w.heap.size]? = some (.cells (q4 p 0) 25 (0, 0)) ∧ wr.heap[w.heap.size + 1]? = some (.cells (q4 p k) 25 (0, 0)) ∧ Below w.heap.size w wr
theorem TI.step {w wr wx : World} {p : Nat → Int} {k : Nat} (h : TI w p k wr) (hb : Below wr.heap.size wr wx) (hk : k < 4) : TI w p (k + 1) (wx.setCell ⟨w.heap.size + 1, k, none⟩ (.int .i64 (p k))) :=
  ⟨set_other (keep hb h.1) (by omega), q4_set (keep hb h.2.1) hk, ((h.2.2.trans (hb.mono h.2.2.size))).setCell (Nat.le_succ _) _⟩
set_option maxHeartbeats 1000000 in
theorem told_any (G : Nat) (hG : ∀ (args : Array Value) (a : World), Sem.run Tryz.prog (callFunc G args) a = Result.ok (Next.enter G args) a) (caps : Array Value) (p : Nat → Int) (x : Nat → Bool) (w : World)
    (hcall : ∀ (k : Nat) a, k < 4 → Below w.heap.size w a → Calls Tryz.prog G (#[.int .i64 k] ++ caps) a (fun e b => e = .returned (.tuple #[.int .i64 (p k), .bool (x k)]) ∧ Below a.heap.size a b)) :
    Calls Tryz.prog 89 #[.func (.func G) #[] caps] w fun e b => e = .returned (.tuple #[.agg #[.int .i64 (p 0), .int .i64 (p 1), .int .i64 (p 2), .int .i64 (p 3)], .bool (anyB x 4)]) ∧ Below w.heap.size w b := by
  go_enter Tryz.func89, Tryz.ntmps89
  go_wp2
  go_loopw [5, 10] (fun m i wr => ∃ k : Nat, k ≤ 4 ∧ i = .int .i64 k ∧ m = .bool (anyB x k) ∧ TI w p k wr) (fun _ i _ => 4 - (intOf i).toNat)
  case atStart =>
    obtain ⟨h1, h2⟩ := allocs2 w (.cells (q4 p 0) 25) (.cells (q4 p 0) 25)
    exact ⟨0, Nat.zero_le _, rfl, rfl, h1, h2, ball2 _ _ _⟩
  case round =>
    obtain ⟨k, hk, rfl, rfl, hti⟩ := hrel
    by_cases hlt : k < 4
    · have hc1 := hcall k wr hlt hti.2.2
      have HM : Hid (anyB x (k + 1) = (anyB x k || x k)) := rfl
      obtain ⟨M, hM⟩ : ∃ M, anyB x k = M := ⟨_, rfl⟩
      obtain ⟨X, hX⟩ : ∃ X, x k = X := ⟨_, rfl⟩
      rw [hM, hX] at HM
      rw [hX] at hc1
      rw [hM]
      clear hM hX
      cases M
      all_goals
        go_wp2_with (refine Calls.mono hc1 ?_; rintro e wx ⟨rfl, bx⟩; have c1 := q4_cell (keep bx hti.2.1) hlt; have c2 := q4_free (k := k) (keep bx hti.2.1))
        go_roundw
        case rel => exact ⟨k + 1, by omega, by go_num, by rw [HM.out]; rfl, hti.step bx hlt⟩
        case measure => simp [intOf]; omega
    · have e : k = 4 := by omega
      subst e
      obtain ⟨a0, a1, a2, a3, f0, f1, f2, f3⟩ := four_cells (q4_0 p ▸ hti.1)
      obtain ⟨b0, b1, b2, b3, _, _, _, _⟩ := four_cells (q4_4 p ▸ hti.2.1)
      have hb := hti.2.2
      clear hti
      go_wp2
      refine bodyPost_ret (v := .tuple #[.agg #[.int .i64 (p 0), .int .i64 (p 1), .int .i64 (p 2), .int .i64 (p 3)], .bool (anyB x 4)]) (by simp [results, Tryz.results89, go_sem, a0, a1, a2, a3]) rfl ?_
      exact ⟨rfl, (((hb.setCell (Nat.le_refl _) _).setCell (Nat.le_refl _) _).setCell (Nat.le_refl _) _).setCell (Nat.le_refl _) _⟩
end Go.Proofs.YtoefekkdjcflmaaGreatDoor.Qt
namespace Go.Proofs.YtoefekkdjcflmaaGreatDoor.Qt
open Go.RowKit Go.Sort Go.Proofs.YtoefekkdjcflmaaGreatDoor.Qm Go.Proofs.YtoefekkdjcflmaaGreatDoor.Qt.Qm
namespace Qm
def sq (f : Int) (g : Nat → Int) : Nat → Int
  | 0 => f
  | k + 1 => add (sq f g k) (g k)
def sqB (f : Int) (g : Nat → Int) : Nat → Bool
  | 0 => false
  | k + 1 => sqB f g k || addB (sq f g k) (g k)
def sm4 (p : Nat → Int) : Int := sq (p 0) (fun k => p (k + 1)) 3
def sm4B (p : Nat → Int) : Bool := sqB (p 0) (fun k => p (k + 1)) 3
end Qm
open Go.Proofs.YtoefekkdjcflmaaGreatDoor.Qt.Qm
set_option maxHeartbeats 1000000 in
theorem sum_any (f : Int) (g : Nat → Int) (B : Nat) (w : World) (hc : ∀ k, k < 3 → w.cell? ⟨B, 1 + k, none⟩ = some (.int .i64 (g k))) :
    Calls Tryz.prog 151 #[.int .i64 f, .slice (some ⟨B, 1, none⟩) 3 3] w fun e w' => e = .returned (.tuple #[.int .i64 (sq f g 3), .bool (sqB f g 3)]) ∧ Below w.heap.size w w' := by
  go_enter Tryz.func151, Tryz.ntmps151
  go_wp2
  go_loopw [6, 7, 15] (fun s m i wr => ∃ k : Nat, k ≤ 3 ∧ i = .int .i64 k ∧ s = .int .i64 (sq f g k) ∧ m = .bool (sqB f g k) ∧ Below w.heap.size w wr) (fun _ _ i _ => 3 - (intOf i).toNat)
  case atStart => exact ⟨0, Nat.zero_le _, rfl, rfl, rfl, Below.refl _ _⟩
  case round =>
    obtain ⟨k, hk, rfl, rfl, rfl, hb⟩ := hrel
    by_cases hlt : k < 3
    · have hcell : wr.cell? ⟨B, 1 + k, none⟩ = some (.int .i64 (g k)) := by rw [hb.cell (p := ⟨B, 1 + k, none⟩) (block_lt_of_cell (hc k hlt))]; exact hc k hlt
      have HS : Hid (sq f g (k + 1) = add (sq f g k) (g k)) := rfl
      have HM : Hid (sqB f g (k + 1) = (sqB f g k || addB (sq f g k) (g k))) := rfl
      obtain ⟨S, hS⟩ : ∃ S, sq f g k = S := ⟨_, rfl⟩
      obtain ⟨M, hM⟩ : ∃ M, sqB f g k = M := ⟨_, rfl⟩
      obtain ⟨Q, hQ⟩ : ∃ Q, g k = Q := ⟨_, rfl⟩
      rw [hS, hM, hQ] at HM
      rw [hS, hQ] at HS
      rw [hQ] at hcell
      rw [hS, hM]
      clear hS hM hQ hc
      cases M
      all_goals
        go_wp2_with (go_at_call 118; refine (add_any _ _ _).mono ?_; rintro e wy ⟨rfl, rfl⟩)
        go_roundw
        case rel => exact ⟨k + 1, by omega, by go_num, by rw [HS.out], by rw [HM.out]; rfl, hb⟩
        case measure => simp [intOf]; omega
    · have e : k = 3 := by omega
      subst e
      go_wp2
      go_ret2
      exact ⟨rfl, hb⟩
theorem sum_calm (f : Int) (g : Nat → Int) (B : Nat) (w : World) (hc : ∀ k, k < 3 → w.cell? ⟨B, 1 + k, none⟩ = some (.int .i64 (g k))) (d : Nat) (os : Array Obj) :
    Calls Tryz.prog 151 #[.int .i64 f, .slice (some ⟨B, 1, none⟩) 3 3] (grow (redrawn w d) os) fun e w'' => e = .returned (.tuple #[.int .i64 (sq f g 3), .bool (sqB f g 3)]) ∧ ∃ p : Regrown, w'' = grow (redrawn w p.d) p.os :=
  Calls.regrown_of (sum_any f g B _ fun k hk => cell_regrown (hc k hk) d os)
set_option maxHeartbeats 1000000 in
theorem summed_any (G : Nat) (hG : ∀ (args : Array Value) (a : World), Sem.run Tryz.prog (callFunc G args) a = Result.ok (Next.enter G args) a) (caps : Array Value) (p : Nat → Int) (x : Nat → Bool) (w : World)
    (hcall : ∀ (k : Nat) a, k < 4 → Below w.heap.size w a → Calls Tryz.prog G (#[.int .i64 k] ++ caps) a (fun e b => e = .returned (.tuple #[.int .i64 (p k), .bool (x k)]) ∧ Below a.heap.size a b)) :
    Calls Tryz.prog 101 #[.func (.func G) #[] caps] w fun e b => e = .returned (.tuple #[.int .i64 (sm4 p), .bool (anyB x 4 || sm4B p)]) ∧ Below w.heap.size w b := by
  have ht := told_any G hG caps p x w hcall
  clear hcall
  unfold sm4 sm4B
  obtain ⟨X, hX⟩ : ∃ X, anyB x 4 = X := ⟨_, rfl⟩
  rw [hX] at ht ⊢
  clear hX
  obtain ⟨S, hS⟩ : ∃ S, sq (p 0) (fun k => p (k + 1)) 3 = S := ⟨_, rfl⟩
  obtain ⟨M, hM⟩ : ∃ M, sqB (p 0) (fun k => p (k + 1)) 3 = M := ⟨_, rfl⟩
  have HS : Hid (sq (p 0) (fun k => p (k + 1)) 3 = S) := hS
  have HM : Hid (sqB (p 0) (fun k => p (k + 1)) 3 = M) := hM
  rw [hS, hM]
  clear hS hM
  go_enter Tryz.func101, Tryz.ntmps101
  go_wp2_with (go_at_call 89; refine ht.mono ?_; rintro e wx ⟨rfl, bx⟩)
  obtain ⟨W, hW⟩ : ∃ W, wx.alloc (.cells #[.int .i64 (p 0), .int .i64 (p 1), .int .i64 (p 2), .int .i64 (p 3)] 25) = W := ⟨_, rfl⟩
  have bW : Below w.heap.size w W := by rw [← hW]; exact bx.alloc bx.size _
  have hB : W.heap[wx.heap.size]? = some (.cells #[.int .i64 (p 0), .int .i64 (p 1), .int .i64 (p 2), .int .i64 (p 3)] 25) := by rw [← hW]; exact heap_new _ _
  obtain ⟨c0, c1, c2, c3, _, _, _, _⟩ := four_cells hB
  have hs := sum_calm (p 0) (fun k => p (k + 1)) wx.heap.size W (by
    intro k hk
    have h3 : k = 0 ∨ k = 1 ∨ k = 2 := by omega
    rcases h3 with rfl | rfl | rfl
    · exact c1
    · exact c2
    · exact c3)
  have k0 := cell_regrown c0
  have k1 := cell_regrown c1
  have k2 := cell_regrown c2
  have k3 := cell_regrown c3
  rw [hW]
  clear hW hB c0 c1 c2 c3 ht
  simp only [HS.out, HM.out] at hs
  refine wp_region_quiet_below (by kernel_rfl) (by kernel_rfl) ?_
  repeat (quiet_step (first | exact hs _ _))
  refine wpQuiet_nil ?_
  intro _ hw'
  obtain ⟨⟨dq, osq⟩, hw''⟩ := hw'
  subst hw''
  have bz := bt bW ((below_regrown W dq osq))
  cases X
  all_goals
    go_wp2
    go_ret2
    exact ⟨rfl, bz⟩
end Go.Proofs.YtoefekkdjcflmaaGreatDoor.Qt

