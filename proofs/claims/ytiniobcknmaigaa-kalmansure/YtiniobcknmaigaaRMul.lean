/-
  The contracts of the document's own Mul: by halves of 24 bits.
-/
import Derived.Test.YtiniobcknmaigaaBase
import Derived.Test.YtiniobcknmaigaaMathB
namespace Go.Proofs.Ytiniobcknmaigaa
open Go.RowKit Qm

theorem rmul_eqs (a b : Int) :
    (0 ≤ (ab (cl a) / 16777216) * (ab (cl b) / 16777216) ∧ (ab (cl a) / 16777216) * (ab (cl b) / 16777216) ≤ 4194304 * 4194304) ∧
    (0 ≤ (ab (cl a) / 16777216) * (ab (cl b) % 16777216) ∧ (ab (cl a) / 16777216) * (ab (cl b) % 16777216) ≤ 4194304 * 16777215) ∧
    (0 ≤ (ab (cl a) % 16777216) * (ab (cl b) / 16777216) ∧ (ab (cl a) % 16777216) * (ab (cl b) / 16777216) ≤ 16777215 * 4194304) ∧
    (0 ≤ (ab (cl a) % 16777216) * (ab (cl b) % 16777216) ∧ (ab (cl a) % 16777216) * (ab (cl b) % 16777216) ≤ 16777215 * 16777215) := by
  obtain ⟨a1, a2⟩ := ab_bd a
  obtain ⟨b1, b2⟩ := ab_bd b
  exact ⟨mul_bd (by omega) (by omega) (by omega) (by omega), mul_bd (by omega) (by omega) (by omega) (by omega), mul_bd (by omega) (by omega) (by omega) (by omega), mul_bd (by omega) (by omega) (by omega) (by omega)⟩

end Go.Proofs.Ytiniobcknmaigaa
