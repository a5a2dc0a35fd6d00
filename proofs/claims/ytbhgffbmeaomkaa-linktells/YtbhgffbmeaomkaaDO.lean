/-
  Rows of words that came in, opened.
-/
import Derived.Test.YtbhgffbmeaomkaaGO
import Derived.Test.YtbhgffbmeaomkaaDW
namespace Go.Proofs.Ytbhgffbmeaomkaa.Gr
open Go.ChangeShapes Go.WideShapes Go.ChangeAt Go.RowKit
section
variable {H : Type} {enc : TypeId × Value → H} {w : World} {base : Nat} {spare : Nat → Bool} {held : Bool}
theorem by2 : Try.prog.bytesOf 2 = 8 := by kernel_rfl
set_option maxRecDepth 40000 in
theorem words_w {fuel : Nat} {cs : List Value} {x : DataW H × List MemPlace} (h : DataW.trod enc Try.prog w base spare held fuel 22 cs = some x) {R : Nat} (hR : ∀ m ∈ x.1.weights Try.prog 22, m ≤ R) :
    ∃ v xs, cs = [v] ∧ SeesI w v xs ∧ xs.length * 8 ≤ R ∧ ∀ x ∈ xs, -9223372036854775808 ≤ x ∧ x ≤ 9223372036854775807 := by
  rcases open_ints under22 under2 cells2 h with ⟨rfl, _⟩ | ⟨a, len, cap, zs, rfl, _, hlc, _, hz, hx, hcell, hwf⟩
  · exact ⟨_, [], rfl, Row.nil w, by simp, fun x hx => by cases hx⟩
  · have hlen : len ≤ zs.length := by rw [hz]; split <;> omega
    have hl : (zs.take len).length = len := by simp; omega
    refine ⟨_, zs.take len, rfl, ⟨some a, cap, by simp; omega, ⟨by simp; omega, fun e => by cases e⟩, fun k u hu => ?_⟩, ?_, fun x hx => ?_⟩
    · simp only [List.getElem?_map, List.getElem?_take] at hu
      split at hu
      · rename_i hk
        have h1 := hcell k (by omega)
        have hz1 : zs[k]? = some (zs.getD k 0) := by rw [List.getD_eq_getElem?_getD, List.getElem?_eq_getElem (by omega)]; rfl
        rw [hz1] at hu
        simp only [Option.map_some, Option.some.injEq] at hu
        subst hu
        refine ⟨a, rfl, ?_, h1⟩
        have := block_lt_of_cell h1
        rw [add_block] at this
        exact this
      · simp at hu
    · rw [hx] at hR
      simp only [DataW.weights, under22] at hR
      have h1 := hR _ (List.mem_cons_self ..)
      rw [by2] at h1
      have e1 : (lits .i64 (zs.take len) : List (DataW H)).length = len := by simp [lits]; omega
      rw [hl]
      rw [e1] at h1
      exact Nat.le_trans (Nat.mul_le_mul_right 8 (Nat.le_add_right _ _)) h1
    · have hw := hwf x (List.mem_of_mem_take hx)
      simpa [Lit.wf, IntKind.min, IntKind.max, IntKind.bits, IntKind.signed] using hw
theorem words_open {r : Reach} {b0 : Nat} {v : Value} {d : DataW H} {p : List MemPlace} (hv : Value.okWide Try.prog w r b0 22 v) (h : DataW.Trod enc Try.prog w base spare held 22 v d p) {R : Nat} (hR : ∀ m ∈ d.weights Try.prog 22, m ≤ R) :
    ∃ xs, SeesI w v xs ∧ xs.length * 8 ≤ R ∧ ∀ x ∈ xs, -9223372036854775808 ≤ x ∧ x ≤ 9223372036854775807 := by
  obtain ⟨fuel, hf⟩ := h
  obtain ⟨v', xs, e, sv, hn, hr⟩ := words_w (x := (d, p)) hf hR
  obtain ⟨a0, l0, c0, rfl⟩ := okWide_slice under22 hv
  have : Value.slice a0 l0 c0 = v' := List.head_eq_of_cons_eq e
  rw [this]
  exact ⟨xs, sv, hn, hr⟩
end
end Go.Proofs.Ytbhgffbmeaomkaa.Gr
