/-
  Arguments, opened: numbers, rows of bytes (with their reach), arrays of bytes.
-/
import Derived.Test.YtbhgffbmeaomkaaGR
import Derived.Test.YtbhgffbmeaomkaaArrA
import Derived.Laws.BitsAllLaws
namespace Go.Proofs.Ytbhgffbmeaomkaa.Gr
open Go.ChangeShapes Go.WideShapes Go.ChangeAt Go.RowKit

theorem mem_each {H : Type} {P : Program} : ∀ (ts : List TypeId) (ds : List (DataW H)) (i : Nat) (ty : TypeId) (d : DataW H) (m : Nat), ts[i]? = some ty → ds[i]? = some d → m ∈ d.weights P ty → m ∈ DataW.weightsEach P ts ds
  | [], _, _, _, _, _, h, _, _ => by simp at h
  | _ :: _, [], _, _, _, _, _, h, _ => by simp at h
  | t :: ts, e :: ds, 0, ty, d, m, h1, h2, h3 => by
    simp at h1 h2
    subst h1 h2
    unfold DataW.weightsEach
    exact List.mem_append_left _ h3
  | t :: ts, e :: ds, i + 1, ty, d, m, h1, h2, h3 => by
    simp at h1 h2
    unfold DataW.weightsEach
    exact List.mem_append_right _ (mem_each ts ds i ty d m h1 h2 h3)
section
variable {H : Type} {enc : TypeId × Value → H} {base : Nat} {spare : Nat → Bool} {held : Bool} {w : World} {v : Value} {d : DataW H} {p : List MemPlace} {r : Reach} {b0 : Nat}
theorem int_open {P : Program} {t : TypeId} {k : IntKind} (hu : P.underlying t = some (.int k)) (hv : Value.okWide P w r b0 t v) (h : DataW.Trod enc P w base spare held t v d p) : ∃ n, v = .int k n ∧ k.min ≤ n ∧ n ≤ k.max := by
  obtain ⟨n, hv, _, _, hw⟩ := open_int hu hv h
  refine ⟨n, hv, ?_⟩
  simpa [Lit.wf] using hw
theorem u32_open (hv : Value.okWide Try.prog w r b0 68 v) (h : DataW.Trod enc Try.prog w base spare held 68 v d p) : ∃ c : BitVec 32, v = .int .u32 (iv c) := by
  obtain ⟨n, rfl, h0, h1⟩ := int_open (k := .u32) (by kernel_rfl) hv h
  have h0' : 0 ≤ n := h0
  have h1' : n ≤ 4294967295 := h1
  refine ⟨BitVec.ofInt 32 n, ?_⟩
  congr 1
  unfold iv
  rw [BitVec.toNat_ofInt]
  omega
theorem by5 : Try.prog.bytesOf 5 = 1 := by kernel_rfl
end
end Go.Proofs.Ytbhgffbmeaomkaa.Gr
