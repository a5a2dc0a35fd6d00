/-
  Plain arithmetic of quaternions: of whole numbers products are exact.
-/
import Derived.Test.YtgekignonjfaiaaDoorQG
namespace Go.Proofs.YtgekignonjfaiaaDoor.Qm

theorem ab_scale (x : Int) : ab (x * 16777216) = ab x * 16777216 := by unfold ab; split <;> split <;> omega
theorem flip_scale (s : Bool) (x : Int) : flip s (x * 16777216) = flip s x := by unfold flip; split <;> split <;> first | rfl | omega
theorem sg_scale (s : Bool) (x : Int) : sg s (x * 16777216) = sg s x * 16777216 := by cases s <;> simp [sg, Int.neg_mul]
theorem mul_whole {x y : Int} (hx : -1000000 ≤ x ∧ x ≤ 1000000) (hy : -1000000 ≤ y ∧ y ≤ 1000000) (hz : -1000000 ≤ x * y ∧ x * y ≤ 1000000) : mul (x * 16777216) (y * 16777216) = x * y * 16777216 ∧ mulB (x * 16777216) (y * 16777216) = false := by
  have hv : mulv (x * 16777216) (y * 16777216) = x * y * 16777216 := by
    have hs := sg_pr (a := x) (b := y) (cl_in (by omega) (by omega)) (cl_in (by omega) (by omega))
    unfold pr ng at hs
    rw [cl_in (by omega) (by omega), cl_in (a := y) (by omega) (by omega)] at hs
    unfold mulv pr ng
    rw [cl_in (by omega) (by omega), cl_in (a := y * 16777216) (by omega) (by omega), ab_scale, ab_scale, flip_scale, flip_scale]
    have e : ab x * 16777216 * (ab y * 16777216) = (ab x * ab y * 16777216) * 16777216 := by
      rw [Int.mul_assoc, Int.mul_comm 16777216 (ab y * 16777216), ← Int.mul_assoc, ← Int.mul_assoc]
    rw [e, near_whole _ _ (by omega), sg_scale, hs]
  unfold mul mulB ob2
  rw [hv]
  generalize x * y = z at *
  exact ⟨cl_in (by omega) (by omega), by rw [ob_in (by omega) (by omega), ob_in (by omega) (by omega), ob_in (by omega) (by omega)]; rfl⟩

/-- a product of quaternions of whole numbers -/
def ipt (a b : Nat → Int) (k i : Nat) : Int := if lessB k i = true then -(a i * b (oth k i)) else a i * b (oth k i)
def ip (a b : Nat → Int) (k : Nat) : Int := ipt a b k 0 + ipt a b k 1 + ipt a b k 2 + ipt a b k 3
def sc (a : Nat → Int) (k : Nat) : Int := a k * 16777216
/-- turned round -/
def ic (a : Nat → Int) (k : Nat) : Int := if k = 0 then a 0 else -a k
/-- the sum of squares -/
def ism (a : Nat → Int) : Int := a 0 * a 0 + a 1 * a 1 + a 2 * a 2 + a 3 * a 3
def Upto (B : Int) (a : Nat → Int) : Prop := ∀ k, k < 4 → -B ≤ a k ∧ a k ≤ B

theorem tm_whole {a b : Nat → Int} {A B : Int} (ha : Upto A a) (hb : Upto B b) (hA : A ≤ 1000000) (hB : B ≤ 1000000) (hAB : A * B ≤ 1000000) {k i : Nat} (hk : k < 4) (hi : i < 4) :
    tm (sc a) (sc b) k i = ipt a b k i * 16777216 ∧ tmB (sc a) (sc b) k i = false ∧ -(A * B) ≤ ipt a b k i ∧ ipt a b k i ≤ A * B := by
  obtain ⟨a1, a2⟩ := ha i hi
  obtain ⟨b1, b2⟩ := hb _ (oth_lt hk hi)
  obtain ⟨z1, z2⟩ := pr_le a1 a2 b1 b2
  obtain ⟨m1, m2⟩ := mul_whole (x := a i) (y := b (oth k i)) ⟨by omega, by omega⟩ ⟨by omega, by omega⟩ ⟨by omega, by omega⟩
  unfold tm tmB tp tpB ipt
  show (if lessB k i = true then sub 0 (mul (a i * 16777216) (b (oth k i) * 16777216)) else mul (a i * 16777216) (b (oth k i) * 16777216)) = _ ∧ (if lessB k i = true then mulB (a i * 16777216) (b (oth k i) * 16777216) || subB 0 (mul (a i * 16777216) (b (oth k i) * 16777216)) else mulB (a i * 16777216) (b (oth k i) * 16777216)) = false ∧ _
  rw [m1, m2]
  generalize a i * b (oth k i) = z at *
  cases lessB k i
  · exact ⟨rfl, rfl, by simp; omega, by simp; omega⟩
  · simp only [if_true]
    unfold sub subB ob2
    rw [show cl 0 = 0 from rfl, cl_in (a := z * 16777216) (by omega) (by omega), cl_in (a := 0 - z * 16777216) (by omega) (by omega), show ob 0 = false from rfl, ob_in (a := z * 16777216) (by omega) (by omega), ob_in (a := 0 - z * 16777216) (by omega) (by omega)]
    exact ⟨by omega, rfl, by omega, by omega⟩

theorem qm_whole {a b : Nat → Int} {A B : Int} (ha : Upto A a) (hb : Upto B b) (hA : A ≤ 1000000) (hB : B ≤ 1000000) (hAB : A * B ≤ 1000000) :
    (∀ k, k < 4 → qm (sc a) (sc b) k = sc (ip a b) k ∧ qmB (sc a) (sc b) k = false) ∧ Upto (4 * (A * B)) (ip a b) := by
  have key : ∀ k, k < 4 → (qm (sc a) (sc b) k = sc (ip a b) k ∧ qmB (sc a) (sc b) k = false) ∧ -(4 * (A * B)) ≤ ip a b k ∧ ip a b k ≤ 4 * (A * B) := by
    intro k hk
    have t := fun i (hi : i < 4) => tm_whole ha hb hA hB hAB hk hi
    have t0 := t 0 (by omega)
    have t1 := t 1 (by omega)
    have t2 := t 2 (by omega)
    have t3 := t 3 (by omega)
    obtain ⟨e1, e2⟩ := sm4_ex (p := tm (sc a) (sc b) k) (fun i hi => by obtain ⟨x1, _, x3, x4⟩ := t i hi; rw [x1]; constructor <;> omega)
    refine ⟨⟨?_, ?_⟩, ?_, ?_⟩
    · unfold qm
      rw [e1, t0.1, t1.1, t2.1, t3.1]
      unfold sc ip
      omega
    · unfold qmB
      rw [e2, any4 fun i hi => (t i hi).2.1]; rfl
    · unfold ip; omega
    · unfold ip; omega
  exact ⟨fun k hk => (key k hk).1, fun k hk => (key k hk).2⟩

theorem nm_whole {a : Nat → Int} {A : Int} (ha : Upto A a) (hA : A ≤ 1000000) (hAA : A * A ≤ 1000000) : nm (sc a) = ism a * 16777216 ∧ nmB (sc a) = false ∧ 0 ≤ ism a ∧ ism a ≤ 4 * (A * A) := by
  have key : ∀ k, k < 4 → mul (sc a k) (sc a k) = a k * a k * 16777216 ∧ mulB (sc a k) (sc a k) = false ∧ 0 ≤ a k * a k ∧ a k * a k ≤ A * A := by
    intro k hk
    obtain ⟨a1, a2⟩ := ha k hk
    obtain ⟨z1, z2⟩ := pr_le a1 a2 a1 a2
    have z0 := sq_nonneg (a k)
    obtain ⟨m1, m2⟩ := mul_whole (x := a k) (y := a k) ⟨by omega, by omega⟩ ⟨by omega, by omega⟩ ⟨by omega, by omega⟩
    exact ⟨m1, m2, z0, z2⟩
  have t0 := key 0 (by omega)
  have t1 := key 1 (by omega)
  have t2 := key 2 (by omega)
  have t3 := key 3 (by omega)
  obtain ⟨e1, e2⟩ := sm4_ex (p := fun k => mul (sc a k) (sc a k)) (fun i hi => by obtain ⟨x1, _, x3, x4⟩ := key i hi; show _ ≤ mul (sc a i) (sc a i) ∧ mul (sc a i) (sc a i) ≤ _; rw [x1]; constructor <;> omega)
  have ea := any4 (o := fun k => mulB (sc a k) (sc a k)) fun i hi => (key i hi).2.1
  unfold nm nmB
  rw [e1, e2, ea, t0.1, t1.1, t2.1, t3.1]
  unfold ism
  exact ⟨by omega, rfl, by omega, by omega⟩

theorem cj_whole {a : Nat → Int} {A : Int} (ha : Upto A a) (hA : A ≤ 1000000) : (∀ k, k < 4 → cj (sc a) k = sc (ic a) k) ∧ Upto A (ic a) := by
  refine ⟨fun k hk => ?_, fun k hk => ?_⟩
  · unfold cj ic
    obtain ⟨a1, a2⟩ := ha k hk
    by_cases h0 : k = 0
    · subst h0; rfl
    · rw [if_neg h0]
      show sub 0 (a k * 16777216) = (if k = 0 then a 0 else -a k) * 16777216
      rw [if_neg h0]
      unfold sub
      rw [show cl 0 = 0 from rfl, cl_in (a := a k * 16777216) (by omega) (by omega), cl_in (a := 0 - a k * 16777216) (by omega) (by omega)]
      omega
  · unfold ic
    have a0 := ha 0 (by omega)
    have ak := ha k hk
    split <;> omega

/-! ### products of whole numbers -/
theorem ip_assoc (a b c : Nat → Int) : ∀ k, k < 4 → ip (ip a b) c k = ip a (ip b c) k := by
  apply four_cases <;> simp only [ip, ipt, oth, lessB] <;> simp <;> grind
theorem ip_norm (a b : Nat → Int) : ism (ip a b) = ism a * ism b := by
  simp only [ism, ip, ipt, oth, lessB]; simp; grind
theorem ip_self (a : Nat → Int) : ip a (ic a) 0 = ism a ∧ ip a (ic a) 1 = 0 ∧ ip a (ic a) 2 = 0 ∧ ip a (ic a) 3 = 0 := by
  simp only [ism, ip, ipt, oth, lessB, ic]
  refine ⟨?_, ?_, ?_, ?_⟩ <;> simp <;> grind
theorem ip_round (a b : Nat → Int) : ∀ k, k < 4 → ic (ip a b) k = ip (ic b) (ic a) k := by
  apply four_cases <;> simp only [ip, ipt, oth, lessB, ic] <;> simp <;> grind
end Go.Proofs.YtgekignonjfaiaaDoor.Qm
