/-
  One number alone, held against a measured one: in plain numbers, and by the contracts of New and Update.
-/
import Derived.Test.YtiniobcknmaigaaG35
import Derived.Test.YtiniobcknmaigaaG36
namespace Go.Proofs.Ytiniobcknmaigaa
open Go.RowKit Go.Sort Qm

namespace Qm
theorem prd_one (p q : Int) : prd 1 1 1 [p] [q] = [mul p q] := by
  show [add 0 (mul p q)] = [mul p q]
  rw [(add_none' (a := mul p q) (cl_lo _) (cl_hi _)).1]
theorem trn_one (p : Int) : trn 1 1 [p] = [p] := rfl
theorem mid_one (i p : Int) : midL 1 1 [i] [p] = [mul (mul i p) i] := by unfold midL; rw [trn_one, prd_one, prd_one]
theorem gd_one (p : Int) : gd 1 [p] = [if p < 0 then 0 else p] := by
  have e : evn 1 [p] = [p] := by
    show [half (p + p) 1] = [p]
    have h : half p 0 = half (2 * p) 1 := half_twice p 0 (by omega)
    rw [half_zero] at h
    have h2 : p + p = 2 * p := by omega
    rw [h2]
    exact congrArg (fun x => [x]) h.symm
  have hl := gd_len 1 [p]
  have hg := gd_at (n := 1) (i := 0) (k := 0) [p] (by omega) (by omega)
  rw [e] at hg
  match hq : gd 1 [p], hl with
  | [x], _ =>
    rw [hq] at hg
    have g : x = if (0 : Nat) = 0 ∧ p < 0 then 0 else p := hg
    rw [g]
    simp
theorem mulv_nn {a b : Int} (a0 : 0 ≤ a) (a1 : a ≤ 70368744177663) (b0 : 0 ≤ b) (b1 : b ≤ 70368744177663) : mulv a b = near (a * b / 16777216) (a * b % 16777216) 16777216 := by
  unfold mulv ng pr
  rw [cl_in (by omega) a1, cl_in (by omega) b1, flip_pos (n := a) (by omega), flip_pos (n := b) (by omega), ab_pos (by omega), ab_pos (by omega), sg_f]
/-- a product of two that are not below 0, but for half a step -/
theorem mulv_near {a b : Int} (a0 : 0 ≤ a) (a1 : a ≤ 70368744177663) (b0 : 0 ≤ b) (b1 : b ≤ 70368744177663) (h : a * b ≤ 1180591620717394526208) :
    0 ≤ mulv a b ∧ mulv a b ≤ 70368744177663 ∧ 33554432 * mulv a b ≤ 2 * (a * b) + 16777216 ∧ 2 * (a * b) - 16777216 ≤ 33554432 * mulv a b := by
  rw [mulv_nn a0 a1 b0 b1]
  have e := near_err (a * b) 16777216 (by omega)
  have h0 : 0 ≤ a * b := Int.mul_nonneg a0 b0
  have h1 : 0 ≤ a * b / 16777216 := Int.ediv_nonneg h0 (by omega)
  have h2 := near_bd (a * b / 16777216) (a * b % 16777216) 16777216
  omega
theorem mul_near {a b : Int} (a0 : 0 ≤ a) (a1 : a ≤ 70368744177663) (b0 : 0 ≤ b) (b1 : b ≤ 70368744177663) (h : a * b ≤ 1180591620717394526208) :
    0 ≤ mul a b ∧ mul a b ≤ 70368744177663 ∧ 33554432 * mul a b ≤ 2 * (a * b) + 16777216 ∧ 2 * (a * b) - 16777216 ≤ 33554432 * mul a b := by
  have e := mulv_near a0 a1 b0 b1 h
  unfold mul
  rw [cl_in (by omega) e.2.1]
  exact e
/-- k, the part that is taken: of what varies and all that varies -/
theorem part_near {v s : Int} (v0 : 0 ≤ v) (vs : v ≤ s) (s1 : 1 ≤ s) (s2 : s ≤ 70368744177663) : 0 ≤ div v s ∧ div v s ≤ 16777216 ∧ 2 * (div v s * s) ≤ 33554432 * v + s := by
  have hc : cl s = s := cl_in (by omega) s2
  have hv : cl v = v := cl_in (by omega) (by omega)
  have h0 : ¬ cl s = 0 := by omega
  have hd : divv v s = near (v * 16777216 / s) (v * 16777216 % s) s := by
    unfold divv dw dm ng
    rw [hc, hv, flip_pos (n := v) (by omega), flip_pos (n := s) (by omega), ab_pos (by omega), ab_pos (by omega), sg_f]
  have e := near_err (v * 16777216) s s1
  rw [← hd] at e
  have q0 : 0 ≤ v * 16777216 / s := Int.ediv_nonneg (by omega) (by omega)
  have q1 := near_bd (v * 16777216 / s) (v * 16777216 % s) s
  rw [← hd] at q1
  have k0 : 0 ≤ divv v s := by omega
  have k1 : divv v s ≤ 16777216 := by
    rcases Int.lt_or_le 16777216 (divv v s) with h | h
    · have := Int.mul_le_mul_of_nonneg_right (show 16777217 ≤ divv v s from h) (show 0 ≤ s by omega)
      omega
    · exact h
  rw [(div_nz h0).1, cl_in (by omega) (by omega)]
  exact ⟨k0, k1, by omega⟩
/-- what varies behind it varies no more, but for a rounding -/
theorem less_varies {v r k : Int} (v0 : 0 ≤ v) (v1 : v ≤ 1660944384) (hv : v = 0 ∨ 16777216 ≤ v) (r0 : 16777216 ≤ r) (r1 : r ≤ 1677721600) (hk : k = div v (v + r)) :
    0 ≤ mul (mul (16777216 - k) v) (16777216 - k) ∧ 0 ≤ mul (mul k r) k ∧ mul (mul (16777216 - k) v) (16777216 - k) + mul (mul k r) k ≤ v + 2 := by
  have e := part_near (v := v) (s := v + r) v0 (by omega) (by omega) (by omega)
  rw [← hk] at e
  obtain ⟨k0, k1, ks⟩ := e
  clear hk
  obtain ⟨i, hi⟩ : ∃ i, 16777216 - k = i := ⟨_, rfl⟩
  rw [hi]
  have i0 : 0 ≤ i := by omega
  have i1 : i ≤ 16777216 := by omega
  have p1 : i * v ≤ 16777216 * v := Int.mul_le_mul_of_nonneg_right i1 v0
  have p2 : k * r ≤ 16777216 * r := Int.mul_le_mul_of_nonneg_right k1 (by omega)
  have n1 := mul_near i0 (by omega) v0 (by omega) (by omega : i * v ≤ 1180591620717394526208)
  have n2 := mul_near k0 (by omega) (by omega : 0 ≤ r) (by omega) (by omega : k * r ≤ 1180591620717394526208)
  obtain ⟨A, hA⟩ : ∃ A, mul i v = A := ⟨_, rfl⟩
  obtain ⟨B, hB⟩ : ∃ B, mul k r = B := ⟨_, rfl⟩
  rw [hA] at n1 ⊢
  rw [hB] at n2 ⊢
  obtain ⟨a0, _, a2, _⟩ := n1
  obtain ⟨b0, _, b2, _⟩ := n2
  have a1 : A ≤ 3321888768 := by omega
  have b1 : B ≤ 3355443200 := by omega
  have p3 : A * i ≤ 3321888768 * i := Int.mul_le_mul_of_nonneg_right a1 i0
  have p4 : B * k ≤ 3355443200 * k := Int.mul_le_mul_of_nonneg_right b1 k0
  have n3 := mul_near a0 (by omega) i0 (by omega) (by omega : A * i ≤ 1180591620717394526208)
  have n4 := mul_near b0 (by omega) k0 (by omega) (by omega : B * k ≤ 1180591620717394526208)
  obtain ⟨m0, _, m2, _⟩ := n3
  obtain ⟨l0, _, l2, _⟩ := n4
  refine ⟨m0, l0, ?_⟩
  have q1 : 33554432 * (A * i) ≤ 2 * (i * v * i) + 16777216 * i := by
    have := Int.mul_le_mul_of_nonneg_right a2 i0
    rw [Int.add_mul, Int.mul_assoc, Int.mul_assoc] at this
    exact this
  have q2 : 33554432 * (B * k) ≤ 2 * (k * r * k) + 16777216 * k := by
    have := Int.mul_le_mul_of_nonneg_right b2 k0
    rw [Int.add_mul, Int.mul_assoc, Int.mul_assoc] at this
    exact this
  have ks' : k * (v + r) = k * v + k * r := Int.mul_add _ _ _
  have x1 : i * v = 16777216 * v - k * v := by rw [← hi, Int.sub_mul]
  have x2 : i * v * i = i * v * 16777216 - i * v * k := by rw [← hi, Int.mul_sub]
  have x3 : i * v * k = 16777216 * (v * k) - k * v * k := by rw [x1, Int.sub_mul, Int.mul_assoc]
  have x4 : v * k = k * v := Int.mul_comm _ _
  -- (k v + k r) k <= 2 One v k
  have y1 : (k * v + k * r) * k ≤ 33554432 * v * k := by
    refine Int.mul_le_mul_of_nonneg_right ?_ k0
    rcases hv with h | h
    · subst h
      have z1 : k * 0 = 0 := Int.mul_zero k
      have z2 : 2 * (k * (0 + r)) ≤ r := by omega
      rw [Int.zero_add] at z2
      have : k = 0 := by
        rcases Int.lt_or_le 0 k with g | g
        · have := Int.mul_le_mul_of_nonneg_right (show 1 ≤ k from g) (show 0 ≤ r by omega)
          omega
        · omega
      subst this
      simp
    · omega
  rw [Int.add_mul, Int.mul_assoc 33554432] at y1
  omega
/-- it comes to lie between the two -/
theorem comes_between {a b k : Int} (a0 : 0 ≤ a) (a1 : a ≤ 16760438784) (b0 : 0 ≤ b) (b1 : b ≤ 16760438784) (k0 : 0 ≤ k) (k1 : k ≤ 16777216) :
    (a ≤ b → a ≤ a + mul k (b - a) ∧ a + mul k (b - a) ≤ b) ∧ (b ≤ a → b ≤ a + mul k (b - a) ∧ a + mul k (b - a) ≤ a) := by
  constructor
  · intro h
    have p : k * (b - a) ≤ 16777216 * (b - a) := Int.mul_le_mul_of_nonneg_right k1 (by omega)
    have n := mul_near k0 (by omega) (by omega : 0 ≤ b - a) (by omega) (by omega)
    omega
  · intro h
    have p : (a - b) * k ≤ (a - b) * 16777216 := Int.mul_le_mul_of_nonneg_left k1 (by omega)
    have n := mulv_near (by omega : 0 ≤ a - b) (by omega) k0 (by omega) (by omega)
    have e := mulv_minus (a := a - b) (b := k) (by omega) (by omega)
    have e2 : mul k (b - a) = - mulv (a - b) k := by
      rw [mul_comm']
      unfold mul
      have : b - a = 0 - (a - b) := by omega
      rw [this, e, cl_in (by omega) (by omega)]
    omega
end Qm
theorem shr_new (vx vv : Value) (a v : Int) (a0 : 0 ≤ a) (a1 : a ≤ 16760438784) (v0 : 0 ≤ v) (v1 : v ≤ 1660944384) (w : World) (sx : Sees w vx [a]) (sv : Sees w vv [v]) :
    Calls Try.prog 11 #[vx, vv] w fun e b => ∃ va vb, e = .returned (.tuple #[.agg #[.int .i64 1, .int .i64 1, va, .int .i64 1, .int .i64 1, vb], .int .i64 0]) ∧ Sees b va [a] ∧ Sees b vb [v] ∧ Below w.heap.size w b := by
  have hv : ∀ i, i < [v].length → (0 : Int) ≤ ge [v] i := fun i hi => by
    have e : i = 0 := by have : i < 1 := hi; omega
    subst e
    exact v0
  have h := knew_ok vx vv [a] [v] (by simp) (by simp) (by simp) (in_one (by omega) (by omega)) (in_one (by omega) (by omega)) hv w sx sv
  refine h.mono ?_
  rintro e b ⟨va, vb, rfl, h1, h2, h3⟩
  have hD : dia (ge [v]) 1 = [v] := rfl
  exact ⟨va, vb, rfl, h1, hD ▸ h2, h3⟩
theorem shr_up (vx vp vh : Value) (a b v r : Int) (a0 : 0 ≤ a) (a1 : a ≤ 16760438784) (b0 : 0 ≤ b) (b1 : b ≤ 16760438784) (v0 : 0 ≤ v) (v1 : v ≤ 1660944384) (hv : v = 0 ∨ 16777216 ≤ v) (r0 : 16777216 ≤ r) (r1 : r ≤ 1677721600)
    (w : World) (sx : Sees w vx [a]) (sp : Sees w vp [v]) (sh : Sees w vh [16777216]) :
    Calls Try.prog 22 #[.agg #[.int .i64 1, .int .i64 1, vx, .int .i64 1, .int .i64 1, vp], .agg #[.int .i64 1, .int .i64 1, vh], .int .i64 b, .int .i64 r, .int .i64 67108864000] w fun e b' =>
      ∃ va vb tk od n' p', e = .returned (.tuple #[.agg #[.int .i64 1, .int .i64 1, va, .int .i64 1, .int .i64 1, vb], .bool tk, .bool od, .int .i64 0]) ∧ Sees b' va [n'] ∧ Sees b' vb [p'] ∧ p' ≤ v + 1024 ∧ (a ≤ n' ∨ b ≤ n') ∧ (n' ≤ a ∨ n' ≤ b) ∧ -70368744177664 ≤ n' ∧ n' ≤ 70368744177663 ∧ Below w.heap.size w b' := by
  cases hb : (decide (mul (inY 1 [a] [16777216] b) (inY 1 [a] [16777216] b) ≤ mul 67108864000 (inS 1 [v] [16777216] r)) && decide (0 < inS 1 [v] [16777216] r)) with
  | false =>
    have h := kupdate_no 1 (by decide) (by decide) vx vp vh [a] [v] [16777216] rfl rfl rfl b r 67108864000 (by omega) w sx sp sh hb
    refine h.mono ?_
    rintro e b' ⟨va, vb, rfl, h1, h2, _, _, h3⟩
    exact ⟨va, vb, _, _, a, v, rfl, h1, h2, by omega, .inl (by omega), .inl (by omega), by omega, by omega, h3⟩
  | true =>
    have h := kupdate_any 1 (by decide) (by decide) vx vp vh [a] [v] [16777216] rfl rfl rfl b r 67108864000 (by omega) w sx sp sh hb
    have hO : ∀ x : Int, -70368744177664 ≤ x → x ≤ 70368744177663 → mul 16777216 x = x := fun x g1 g2 => by rw [mul_comm']; exact (mul_one' g1 g2).1
    have hY : inY 1 [a] [16777216] b = b - a := by
      unfold inY
      rw [prd_one, hO a (by omega) (by omega)]
      show sub b a = b - a
      unfold sub
      rw [cl_in (a := b) (by omega) (by omega), cl_in (a := a) (by omega) (by omega), cl_in (by omega) (by omega)]
    have hS : inS 1 [v] [16777216] r = v + r := by
      unfold inS
      rw [mid_one, hO v (by omega) (by omega), (mul_one' (a := v) (by omega) (by omega)).1]
      show add v r = v + r
      unfold add
      rw [cl_in (a := v) (by omega) (by omega), cl_in (a := r) (by omega) (by omega), cl_in (by omega) (by omega)]
    obtain ⟨k, hk⟩ : ∃ k, k = div v (v + r) := ⟨_, rfl⟩
    have kn := part_near (v := v) (s := v + r) v0 (by omega) (by omega) (by omega)
    rw [← hk] at kn
    have hK : upK 1 [v] [16777216] (v + r) = [k] := by
      unfold upK upK0
      rw [trn_one, prd_one, (mul_one' (a := v) (by omega) (by omega)).1]
      show [div v (v + r)] = [k]
      rw [hk]
    have hX : upX [a] [k] (b - a) = [a + mul k (b - a)] := by
      have hb' := comes_between a0 a1 b0 b1 kn.1 kn.2.1
      show [add a (mul k (b - a))] = _
      unfold add
      rw [cl_in (a := a) (by omega) (by omega), cl_in (a := mul k (b - a)) (cl_lo _) (cl_hi _), cl_in (by omega) (by omega)]
    have lv := less_varies v0 v1 hv r0 r1 hk
    have hP : gd 1 (upPP 1 [v] [16777216] [k] r) = [mul (mul (16777216 - k) v) (16777216 - k) + mul (mul k r) k] := by
      have e1 : upIK 1 [16777216] [k] = [16777216 - k] := by
        unfold upIK upKH
        rw [prd_one, (mul_one' (a := k) (by omega) (by omega)).1]
        show [sub 16777216 k] = _
        unfold sub
        rw [cl_in (a := 16777216) (by omega) (by omega), cl_in (a := k) (by omega) (by omega), cl_in (by omega) (by omega)]
      have e2 : upP1 1 [v] [16777216] [k] = [mul (mul (16777216 - k) v) (16777216 - k)] := by
        unfold upP1
        rw [e1, mid_one]
      have e3 : upP2 1 [k] r = [mul (mul k r) k] := by
        show prd 1 1 1 [mul k r] (trn 1 1 [k]) = _
        rw [trn_one, prd_one]
      unfold upPP
      rw [e2, e3]
      have e4 : ∀ x y : Int, pai add [x] [y] = [add x y] := fun _ _ => rfl
      rw [e4, gd_one]
      have e5 : add (mul (mul (16777216 - k) v) (16777216 - k)) (mul (mul k r) k) = mul (mul (16777216 - k) v) (16777216 - k) + mul (mul k r) k := by
        unfold add
        rw [cl_in (a := mul (mul (16777216 - k) v) (16777216 - k)) (cl_lo _) (cl_hi _), cl_in (a := mul (mul k r) k) (cl_lo _) (cl_hi _), cl_in (by omega) (by omega)]
      rw [e5, if_neg (by omega)]
    rw [hY, hS, hK, hX, hP] at h
    have hb' := comes_between a0 a1 b0 b1 kn.1 kn.2.1
    have g1 : a ≤ a + mul k (b - a) ∨ b ≤ a + mul k (b - a) := by omega
    have g2 : a + mul k (b - a) ≤ a ∨ a + mul k (b - a) ≤ b := by omega
    refine h.mono ?_
    rintro e b' ⟨va, vb, rfl, h1, h2, _, _, h3⟩
    exact ⟨va, vb, _, _, _, _, rfl, h1, h2, by omega, g1, g2, by omega, by omega, h3⟩
end Go.Proofs.Ytiniobcknmaigaa
