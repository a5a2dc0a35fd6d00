/-
  Plain arithmetic of quaternions: times 1 they stay; of whole numbers products are exact.
-/
import Derived.Test.YtgekignonjfaiaaDoorQF
import Derived.Test.YtgekignonjfaiaaDoorQT
namespace Go.Proofs.YtgekignonjfaiaaDoor.Qm

/-- products hang on the first four alone -/
theorem four_cases {P : Nat → Prop} (h0 : P 0) (h1 : P 1) (h2 : P 2) (h3 : P 3) : ∀ k, k < 4 → P k := by
  intro k hk
  have h4 : k = 0 ∨ k = 1 ∨ k = 2 ∨ k = 3 := by omega
  rcases h4 with rfl | rfl | rfl | rfl
  · exact h0
  · exact h1
  · exact h2
  · exact h3
theorem tm_congr {p p' q q' : Nat → Int} (hp : ∀ k, k < 4 → p k = p' k) (hq : ∀ k, k < 4 → q k = q' k) {k i : Nat} (hk : k < 4) (hi : i < 4) : tm p q k i = tm p' q' k i ∧ tmB p q k i = tmB p' q' k i := by
  unfold tm tmB tp tpB
  rw [hp i hi, hq _ (oth_lt hk hi)]
  exact ⟨rfl, rfl⟩
theorem sm4_congr {p p' : Nat → Int} (hp : ∀ k, k < 4 → p k = p' k) : sm4 p = sm4 p' ∧ sm4B p = sm4B p' := by
  simp only [sm4, sm4B, sq, sqB, hp 0 (by omega), hp 1 (by omega), hp 2 (by omega), hp 3 (by omega)]
  exact ⟨trivial, trivial⟩
theorem any_congr {o o' : Nat → Bool} (h : ∀ k, k < 4 → o k = o' k) : anyB o 4 = anyB o' 4 := by
  simp only [anyB, h 0 (by omega), h 1 (by omega), h 2 (by omega), h 3 (by omega)]
theorem qm_congr {p p' q q' : Nat → Int} (hp : ∀ k, k < 4 → p k = p' k) (hq : ∀ k, k < 4 → q k = q' k) {k : Nat} (hk : k < 4) : qm p q k = qm p' q' k ∧ qmB p q k = qmB p' q' k := by
  unfold qm qmB
  obtain ⟨e1, e2⟩ := sm4_congr (p := tm p q k) (p' := tm p' q' k) fun i hi => (tm_congr hp hq hk hi).1
  rw [e1, e2, any_congr (o := tmB p q k) (o' := tmB p' q' k) fun i hi => (tm_congr hp hq hk hi).2]
  exact ⟨rfl, rfl⟩

theorem add_none {a : Int} (h1 : -70368744177664 ≤ a) (h2 : a ≤ 70368744177663) : add a 0 = a ∧ addB a 0 = false := by
  obtain ⟨e1, e2⟩ := add_ex (a := a) (b := 0) h1 h2 (by omega) (by omega) (by omega) (by omega)
  rw [e1, e2]; exact ⟨by omega, rfl⟩
theorem add_none' {a : Int} (h1 : -70368744177664 ≤ a) (h2 : a ≤ 70368744177663) : add 0 a = a ∧ addB 0 a = false := by rw [add_comm', addB_comm]; exact add_none h1 h2
theorem mul_zero {a : Int} : mul a 0 = 0 := by
  have : mulv a 0 = 0 := by
    unfold mulv pr
    rw [show cl 0 = 0 from rfl, show ab 0 = 0 from rfl, Int.mul_zero]
    rw [near_zero _ (by omega)]
    cases ng a 0 <;> rfl
  unfold mul; rw [this]; rfl
theorem mulB_zero (a : Int) : mulB a 0 = ob a := by
  have : mulv a 0 = 0 := by
    unfold mulv pr
    rw [show cl 0 = 0 from rfl, show ab 0 = 0 from rfl, Int.mul_zero]
    rw [near_zero _ (by omega)]
    cases ng a 0 <;> rfl
  unfold mulB ob2; rw [this, show ob 0 = false from rfl]; simp
theorem zero_mul {a : Int} : mul 0 a = 0 := by rw [mul_comm']; exact mul_zero
theorem zero_mulB (a : Int) : mulB 0 a = ob a := by rw [mulB_comm]; exact mulB_zero a
theorem sub_zero : sub 0 0 = 0 ∧ subB 0 0 = false := by decide

/-- the quaternion 1 -/
def one4 (k : Nat) : Int := if k = 0 then 16777216 else 0
def In4 (p : Nat → Int) : Prop := ∀ k, k < 4 → -70368744177664 ≤ p k ∧ p k ≤ 70368744177663
theorem qm_one {p : Nat → Int} (h : In4 p) : ∀ k, k < 4 → qm p one4 k = p k ∧ qmB p one4 k = false := by
  obtain ⟨a1, a2⟩ := h 0 (by omega)
  obtain ⟨b1, b2⟩ := h 1 (by omega)
  obtain ⟨c1, c2⟩ := h 2 (by omega)
  obtain ⟨d1, d2⟩ := h 3 (by omega)
  have ma := mul_one' a1 a2
  have mb := mul_one' b1 b2
  have mc := mul_one' c1 c2
  have md := mul_one' d1 d2
  have na := add_none a1 a2
  have nb := add_none b1 b2
  have nc := add_none c1 c2
  have nb' := add_none' b1 b2
  have nc' := add_none' c1 c2
  have nd' := add_none' d1 d2
  have oa := ob_in a1 a2
  have ob' := ob_in b1 b2
  have oc := ob_in c1 c2
  have od := ob_in d1 d2
  have z0 := add_none (a := 0) (by omega) (by omega)
  apply four_cases <;> simp [qm, qmB, sm4, sm4B, sq, sqB, anyB, tm, tmB, tp, tpB, oth, lessB, one4, mul_zero, mulB_zero, sub_zero.1, sub_zero.2, ma.1, ma.2, mb.1, mb.2, mc.1, mc.2, md.1, md.2, na.1, na.2, nb.1, nb.2, nc.1, nc.2, nb'.1, nb'.2, nc'.1, nc'.2, nd'.1, nd'.2, oa, ob', oc, od, z0.1, z0.2]
theorem one_qm {p : Nat → Int} (h : In4 p) : ∀ k, k < 4 → qm one4 p k = p k ∧ qmB one4 p k = false := by
  obtain ⟨a1, a2⟩ := h 0 (by omega)
  obtain ⟨b1, b2⟩ := h 1 (by omega)
  obtain ⟨c1, c2⟩ := h 2 (by omega)
  obtain ⟨d1, d2⟩ := h 3 (by omega)
  have ma := mul_one' a1 a2
  have mb := mul_one' b1 b2
  have mc := mul_one' c1 c2
  have md := mul_one' d1 d2
  have na := add_none a1 a2
  have nb := add_none b1 b2
  have nc := add_none c1 c2
  have nd := add_none d1 d2
  have oa := ob_in a1 a2
  have ob' := ob_in b1 b2
  have oc := ob_in c1 c2
  have od := ob_in d1 d2
  have ca := mul_comm' (p 0) 16777216
  have cb := mul_comm' (p 1) 16777216
  have cc := mul_comm' (p 2) 16777216
  have cd := mul_comm' (p 3) 16777216
  have da := mulB_comm (p 0) 16777216
  have db := mulB_comm (p 1) 16777216
  have dc := mulB_comm (p 2) 16777216
  have dd := mulB_comm (p 3) 16777216
  apply four_cases <;> simp [qm, qmB, sm4, sm4B, sq, sqB, anyB, tm, tmB, tp, tpB, oth, lessB, one4, zero_mul, zero_mulB, sub_zero.1, sub_zero.2, ca, cb, cc, cd, da, db, dc, dd, ma.1, ma.2, mb.1, mb.2, mc.1, mc.2, md.1, md.2, na.1, na.2, nb.1, nb.2, nc.1, nc.2, nd.1, nd.2, oa, ob', oc, od]
theorem cj_one : ∀ k, k < 4 → cj one4 k = one4 k ∧ cjB one4 k = false := by
  apply four_cases <;> decide
/-- by 1 three numbers stay -/
theorem tn_one {v : Nat → Int} (h : In4 (vq 0 v)) : (∀ k, k < 4 → tn one4 v k = vq 0 v k) ∧ tnB one4 v = false := by
  have h1 := one_qm h
  have e1 : ∀ k, k < 4 → qm one4 (vq 0 v) k = vq 0 v k := fun k hk => (h1 k hk).1
  have e2 : ∀ k, k < 4 → cj one4 k = one4 k := fun k hk => (cj_one k hk).1
  have h2 := qm_one h
  refine ⟨fun k hk => ?_, ?_⟩
  · unfold tn
    rw [(qm_congr e1 e2 hk).1]; exact (h2 k hk).1
  · unfold tnB
    rw [any4 (o := qmB one4 (vq 0 v)) fun k hk => (h1 k hk).2, any4 (o := cjB one4) fun k hk => (cj_one k hk).2, any4 (o := qmB (qm one4 (vq 0 v)) (cj one4)) fun k hk => by rw [(qm_congr e1 e2 hk).2]; exact (h2 k hk).2]
    rfl
/-- turned round twice -/
theorem cj_cj {p : Nat → Int} (h : In4 p) (hl : ∀ k, 1 ≤ k → k < 4 → p k ≠ -70368744177664) : ∀ k, k < 4 → cj (cj p) k = p k := by
  intro k hk
  unfold cj
  by_cases h0 : k = 0
  · subst h0; simp
  · rw [if_neg h0, if_neg h0]
    obtain ⟨a1, a2⟩ := h k hk
    have := hl k (by omega) hk
    unfold sub
    rw [show cl 0 = 0 from rfl, cl_in a1 a2, cl_in (a := 0 - p k) (by omega) (by omega), cl_in (a := 0 - p k) (by omega) (by omega), cl_in (a := 0 - (0 - p k)) (by omega) (by omega)]
    omega
end Go.Proofs.YtgekignonjfaiaaDoor.Qm
