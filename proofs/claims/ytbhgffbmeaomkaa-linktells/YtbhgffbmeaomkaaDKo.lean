/-
  Own rows, kept over a call; what a slice shows, kept over a write elsewhere.
-/
import Derived.Test.YtbhgffbmeaomkaaDW
namespace Go.Proofs.Ytbhgffbmeaomkaa.Gr
open Go.RowKit Go.Sort
set_option linter.unusedVariables false

theorem own_keep {w w' : World} {base : Nat} {e : TypeId} {size n : Nat} {v : Value} {xs : List Value} (h : w.ownsRow base e size v n xs) (hb : Below w.heap.size w w') : w'.ownsRow base e size v n xs := by
  obtain ⟨hl, h0 | ⟨g, cap', cur, hv, hb', hg', r⟩⟩ := h
  · exact ⟨hl, .inl h0⟩
  · exact ⟨hl, .inr ⟨g, cap', cur, hv, hb', keep hb hg', r⟩⟩
theorem SeesI.grown {w w' : World} {v : Value} {xs : List Int} {B : Nat} {row : Option Nat} (h : SeesI w v xs) (hn : New B v) (hg : w.grownBy w' row) (hr : ∀ k, row = some k → k < B) : SeesI w' v xs := by
  obtain ⟨ao, cap, rfl, hc, hk⟩ := h
  refine ⟨ao, cap, rfl, hc, fun k u hu => ?_⟩
  obtain ⟨ad, ha, hl, hcell⟩ := hk k u hu
  refine ⟨ad, ha, Nat.lt_of_lt_of_le hl hg.size, ?_⟩
  rw [← hcell]
  have hB : B ≤ ad.block := hn _ (by rw [ha]; rfl)
  have hblk := hg.block ad.block hl (fun e => by have := hr _ e.symm; omega)
  unfold World.cell?
  rw [add_block, hblk]
theorem _root_.Go.World.ownsRow.below' {w w' : World} {base : Nat} {e : TypeId} {size n n' g cap : Nat} {xs : List Value} (h : w.ownsRow base e size (.slice (some ⟨g, 0, none⟩) n cap) n' xs) (hb : Below w.heap.size w w') (hg : g < w.heap.size) : w'.ownsRow base e size (.slice (some ⟨g, 0, none⟩) n cap) n' xs := by
  obtain ⟨hl, ⟨e1, _⟩ | ⟨g', cap', cur, e1, r1, r2, r3⟩⟩ := h
  · cases e1
  · cases e1
    exact ⟨hl, .inr ⟨g, cap, cur, rfl, r1, keep hb r2, r3⟩⟩
end Go.Proofs.Ytbhgffbmeaomkaa.Gr
