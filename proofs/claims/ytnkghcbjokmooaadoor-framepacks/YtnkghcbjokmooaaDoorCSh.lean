/-
  The contract of the head of each statement on sum.
-/
import Derived.Test.YtnkghcbjokmooaaDoorCW
import Derived.Lib.SlBytesConst
namespace Go.Proofs.YtnkghcbjokmooaaDoor.Gr
open Go.RowKit Qm

theorem open_seal (bs : List (BitVec 8)) : openS (sealS bs) = bs ∧ openE (sealS bs) = 0 := by
  unfold openS openE
  rw [seal_ok, seal_open]
  have : ¬ (sealS bs).length < 4 := by rw [sealS_len]; omega
  rw [if_neg this]
  exact ⟨rfl, rfl⟩
def nine : List (BitVec 8) := [49#8, 50#8, 51#8, 52#8, 53#8, 54#8, 55#8, 56#8, 57#8]
theorem nine_of : iv (ofS nine) = 3421780262 := by kernel_rfl
theorem const_sees (w : World) (bs : List (BitVec 8)) (C : Array Value) (h : (bs.map vb).toArray = C) (n : Nat) (hn : bs.length = n) : SeesB (w.alloc (.cells C 5 (n, n + 1))) (.slice (some ⟨w.heap.size, 0, none⟩) n n) bs := by
  subst hn
  refine ⟨some ⟨w.heap.size, 0, none⟩, bs.length, by rw [List.length_map], ⟨by rw [List.length_map]; exact Nat.le_refl _, fun e => by cases e⟩, fun k u hu => ⟨_, rfl, by simp, ?_⟩⟩
  have ha : (⟨w.heap.size, 0, none⟩ : Addr).add k = ⟨w.heap.size, k, none⟩ := by unfold Addr.add; split <;> simp_all
  rw [ha, cell_of_row _ _ k C 5 _ (heap_new w _), ← h]
  simpa using hu
def nineV : Array Value := #[.int .u8 49, .int .u8 50, .int .u8 51, .int .u8 52, .int .u8 53, .int .u8 54, .int .u8 55, .int .u8 56, .int .u8 57]

end Go.Proofs.YtnkghcbjokmooaaDoor.Gr
