/-
  Ends: the document's Out.
-/
import Derived.Test.YtbhgffbmeaomkaaLW
import Derived.Test.YtbhgffbmeaomkaaSV
import Derived.Deep.Cut
import Derived.Deep.RegionHeld3
import Derived.Laws.Tables
namespace Go.Proofs.Ytbhgffbmeaomkaa.Gr
open Go.RowKit Go.Sort Lm
set_option linter.unusedVariables false

set_option maxRecDepth 20000 in
set_option maxHeartbeats 400000 in
theorem rout_any (v : Value) (l : Lk) (w : World) (hn : l.sent.length ≤ 1000) (sv : SeesL w v l) :
    Calls Try.prog 24 #[v] w fun e w' => ∃ v', e = .returned v' ∧ SeesP w' v' (outL l) ∧ Below w.heap.size w w' := by
  obtain ⟨vs, rfl, sl⟩ := sv
  obtain ⟨so, sc, rfl⟩ := sl.slice
  obtain ⟨V, hV⟩ : ∃ V, (w.alloc (.cells #[.int .i64 l.own, .int .i64 l.other, .int .i64 l.first, .slice so l.sent.length sc, .int .i64 l.next] 24)).alloc (.cells #[.int .i64 0, .int .i64 0, .int .i64 0, .slice none 0 0, .int .i64 0] 26) = V := ⟨_, rfl⟩
  obtain ⟨hB, hC⟩ := heaps2' w (.cells #[.int .i64 l.own, .int .i64 l.other, .int .i64 l.first, .slice so l.sent.length sc, .int .i64 l.next] 24) (.cells #[.int .i64 0, .int .i64 0, .int .i64 0, .slice none 0 0, .int .i64 0] 26)
  have bV : Below w.heap.size w V := by rw [← hV]; exact bt (box_below _ _) (box_below _ _)
  rw [hV] at hB hC
  obtain ⟨B, hBe⟩ : ∃ B, w.heap.size = B := ⟨_, rfl⟩
  have sV := fun (u : World) (h : Below V.heap.size V u) => (sl.below bV).below h
  rw [hBe] at hB hC bV ⊢
  have HBe : Hid (w.heap.size = B) := hBe
  have zC : B + 1 < V.heap.size := lt_of_block hC
  obtain ⟨p1, p2, p3, p4, p5⟩ := five_cells hB
  have hnil := own_nil64 V V.heap.size rfl
  have b0 := box_below V (.cells #[] 2)
  have sV' := sV _ b0
  have q1 := (b0.cell (block_lt_of_cell p1)).trans p1
  have q2 := (b0.cell (block_lt_of_cell p2)).trans p2
  have q3 := (b0.cell (block_lt_of_cell p3)).trans p3
  have q4 := (b0.cell (block_lt_of_cell p4)).trans p4
  have q5 := (b0.cell (block_lt_of_cell p5)).trans p5
  have HB : Hid (V.heap[B]? = _) := hB
  have HC : Hid (V.heap[B + 1]? = _) := hC
  clear hB hC sl
  obtain ⟨n, hn'⟩ : ∃ n, l.sent.length = n := ⟨_, rfl⟩
  have HN : Hid (l.sent.length = n) := hn'
  rw [hn'] at hn hV sV sV' p4 q4 ⊢
  have HB' : Hid (V.heap[B]? = some (.cells #[.int .i64 l.own, .int .i64 l.other, .int .i64 l.first, .slice so n sc, .int .i64 l.next] 24 (0, 0))) := by have := HB.out; rw [hn'] at this; exact this
  clear hn' HB
  have HNE : Hid (B ≠ B + 1) := (by omega : B ≠ B + 1)
  --[a
  go_enter Try.func24, Try.ntmps24
  go_wp2
  have bd : Below V.heap.size V (V.alloc (.cells #[] 2)).drew := b0.drew
  go_region_held3 (fun u => u.cell? ⟨B, 0, none⟩ = some (.int .i64 l.own) ∧ u.cell? ⟨B, 1, none⟩ = some (.int .i64 l.other) ∧ u.cell? ⟨B, 2, none⟩ = some (.int .i64 l.first) ∧ u.cell? ⟨B, 3, none⟩ = some (.slice so n sc) ∧ u.cell? ⟨B, 4, none⟩ = some (.int .i64 l.next)) (first | with_reducible exact ⟨k1, k2, k3, k4, k5⟩ | with_reducible exact five_keep HNE ⟨k1, k2, k3, k4, k5⟩ _ _ _ _ _ | exact ⟨q1, q2, q3, q4, q5⟩ | exact ⟨p1, p2, p3, p4, p5⟩) (first
    | (refine step64v rfl _ _ rfl V.heap.size (.slice (some ⟨V.heap.size, 0, none⟩) 0 0) 0 [] rfl hnil.drew (Nat.le_of_lt (by simp)) _ l.sent rfl (sV _ bd) (by rw [HN.out]; omega) ?_; intro v2 w3 ho2 hg2; have b3 : Below V.heap.size V w3 := bd.grown hg2 bd.size (fun k e => by cases e; exact Nat.le_refl _); obtain ⟨g2, c2, rfl⟩ := own_any ho2; obtain ⟨k1, k2, k3, k4, k5⟩ := five_cells (keep b3 HB'.out); have HC3 := keep b3 HC.out; obtain ⟨r1, r2, r3, r4, r5⟩ := five_cells HC3; have f0 := not_frozen5 HC3 0; have f1 := not_frozen5 HC3 1; have f2 := not_frozen5 HC3 2; have f3 := not_frozen5 HC3 3; have f4 := not_frozen5 HC3 4; have HC3' : Hid (w3.heap[B + 1]? = _) := HC3; clear HC3 p1 p2 p3 p4 p5 q1 q2 q3 q4 q5))
  go_wp2
  have ho3 : w3.ownsRow V.heap.size 2 1 (.slice g2 l.sent.length c2) l.sent.length (l.sent.map vw) := by simpa using ho2
  have n3 : New V.heap.size (.slice g2 l.sent.length c2) := fun k e => (ho3.lt k e).1
  have s3 := SeesI.own ho3
  refine bodyPost_ret (results_pk Try.results24 _ _ (B + 1) _ _ _ _ _ _ rfl (set_all5 HC3'.out _ _ _ _ _)) rfl ?_
  exact ⟨_, rfl, ⟨_, rfl, s3.grown n3 (gb_all5 w3 (B + 1) _ _ _ _ _) (fun k e => by cases e; omega)⟩, (bV.trans (b3.mono (by omega))).grown (gb_all5 w3 (B + 1) _ _ _ _ _) (by have := b3.size; omega) (fun k e => by cases e; omega)⟩
  --]a
end Go.Proofs.Ytbhgffbmeaomkaa.Gr
