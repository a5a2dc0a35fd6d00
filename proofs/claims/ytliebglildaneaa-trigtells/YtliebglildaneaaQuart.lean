/-
  Plain arithmetic: the angle of two numbers lies in their quarter, but for 2^8.
-/
import Derived.Test.YtliebglildaneaaQuartA
import Derived.Test.YtliebglildaneaaQuartB
import Derived.Test.YtliebglildaneaaQuartC
import Derived.Test.YtliebglildaneaaQuartD
import Derived.Test.YtliebglildaneaaQuartE
namespace Go.Proofs.Ytliebglildaneaa.Tm

/-- what the last six turns can do -/
theorem last6 {r : Nat → Int × Int × Int} (hs : ∀ n, r (n + 1) = stA n (r n)) : (r 24).2.2 - 80 ≤ (r 30).2.2 ∧ (r 30).2.2 ≤ (r 24).2.2 + 80 := by
  have t24 : T 24 = 41 := rfl
  have t25 : T 25 = 20 := rfl
  have t26 : T 26 = 10 := rfl
  have t27 : T 27 = 5 := rfl
  have t28 : T 28 = 3 := rfl
  have t29 : T 29 = 1 := rfl
  have h24 := stA_z 24 (r 24)
  have h25 := stA_z 25 (r 25)
  have h26 := stA_z 26 (r 26)
  have h27 := stA_z 27 (r 27)
  have h28 := stA_z 28 (r 28)
  have h29 := stA_z 29 (r 29)
  rw [← show r 25 = stA 24 (r 24) from hs 24] at h24
  rw [← show r 26 = stA 25 (r 25) from hs 25] at h25
  rw [← show r 27 = stA 26 (r 26) from hs 26] at h26
  rw [← show r 28 = stA 27 (r 27) from hs 27] at h27
  rw [← show r 29 = stA 28 (r 28) from hs 28] at h28
  rw [← show r 30 = stA 29 (r 29) from hs 29] at h29
  omega

/-- the angle that comes out -/
def zA (p q : Int) : Int := (runA p q 30).2.2
theorem quart_up {p q : Int} (hp : 4096 ≤ p) (hq : 4096 ≤ q) : -255 ≤ zA p q ∧ zA p q ≤ 1073742079 := by
  have l := last6 (r := runA p q) (fun _ => rfl)
  have a := A_all (r := runA p q) hp hq rfl (fun _ => rfl)
  have b := B_all (r := runA p q) hp hq rfl (fun _ => rfl)
  unfold A24 at a
  unfold B24 at b
  unfold zA
  omega
theorem quart_down {p q : Int} (hp : 4096 ≤ p) (hq : q ≤ -4096) : -1073742079 ≤ zA p q ∧ zA p q ≤ 255 := by
  obtain ⟨n, rfl⟩ : ∃ n, q = -n := ⟨-q, by omega⟩
  have l := last6 (r := runA p (-n)) (fun _ => rfl)
  have a := C_all (r := runA p (-n)) hp (by omega) rfl (fun _ => rfl)
  have b := D_all (r := runA p (-n)) hp (by omega) rfl (fun _ => rfl)
  unfold C24 at a
  unfold D24 at b
  unfold zA
  omega
theorem quart_flat {p : Int} (hp : 68719476736 ≤ p) : -255 ≤ zA p 0 ∧ zA p 0 ≤ 255 := by
  have l := last6 (r := runA p 0) (fun _ => rfl)
  have a := E_all (r := runA p 0) hp rfl (fun _ => rfl)
  unfold E24 at a
  unfold zA
  omega

end Go.Proofs.Ytliebglildaneaa.Tm
