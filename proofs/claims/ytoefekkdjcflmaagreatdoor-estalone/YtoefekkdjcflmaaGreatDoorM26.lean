/- Parts of the proof. -/
import Derived.Test.YtoefekkdjcflmaaGreatDoorM25
namespace Go.Proofs.YtoefekkdjcflmaaGreatDoor.Et
open Go.RowKit Go.Sort Go.Proofs.YtoefekkdjcflmaaGreatDoor.Qm
theorem sees_four {w : World} {b o : Nat} {x0 x1 x2 x3 : Int} (hb : b < w.heap.size) (c0 : w.cell? ⟨b, o, none⟩ = some (.int .i64 x0)) (c1 : w.cell? ⟨b, o + 1, none⟩ = some (.int .i64 x1)) (c2 : w.cell? ⟨b, o + 2, none⟩ = some (.int .i64 x2)) (c3 : w.cell? ⟨b, o + 3, none⟩ = some (.int .i64 x3)) : Sees w (.slice (some ⟨b, o, none⟩) 4 4) [x0, x1, x2, x3] := by
  refine ⟨_, ⟨4, Nat.le_refl 4⟩, rfl, fun k hk => ⟨_, rfl, hb, ?_⟩⟩
  have hk' : k < 4 := hk
  rcases (by omega : k = 0 ∨ k = 1 ∨ k = 2 ∨ k = 3) with rfl | rfl | rfl | rfl
  · exact c0
  · exact c1
  · exact c2
  · exact c3
theorem one_cnt (m x : Int) : (!anyB (fun k => cnB m (ge [x] k)) ([x] : List Int).length) = !cnB m x := by
  show (!(false || cnB m x)) = _
  rw [Bool.false_or]
theorem four_cnt (m : Int) (f : Nat → Int) : (!anyB (fun k => cnB m (ge [f 0, f 1, f 2, f 3] k)) ([f 0, f 1, f 2, f 3] : List Int).length) = !anyB (fun k => cnB m (f k)) 4 := rfl
set_option maxRecDepth 20000 in
set_option maxHeartbeats 4000000 in
theorem right_any (e : Es) (vx vp : Nat → Value) (w : World) (h : e.See w vx vp) :
    Calls Tryz.prog 20 #[.agg (e.cells vx vp)] w fun z b => z = .returned (.bool (rgtB e)) ∧ Below w.heap.size w b := by
  unfold Es.cells
  have g1 := heap_new w (.cells #[.int .i64 (e.tu 0), .int .i64 (e.tu 1), .int .i64 (e.tu 2), .int .i64 (e.tu 3), .int .i64 (e.r 0), .int .i64 (e.c 0), vx 0, .int .i64 (e.r' 0), .int .i64 (e.c' 0), vp 0, .int .i64 (e.r 1), .int .i64 (e.c 1), vx 1, .int .i64 (e.r' 1), .int .i64 (e.c' 1), vp 1, .int .i64 (e.r 2), .int .i64 (e.c 2), vx 2, .int .i64 (e.r' 2), .int .i64 (e.c' 2), vp 2, .int .i64 e.st, .int .i64 e.co, .int .i64 (e.off 0), .int .i64 (e.off 1), .int .i64 (e.off 2), .int .i64 (e.off 3), .bool e.sat] 35)
  have bW := box_below w (.cells #[.int .i64 (e.tu 0), .int .i64 (e.tu 1), .int .i64 (e.tu 2), .int .i64 (e.tu 3), .int .i64 (e.r 0), .int .i64 (e.c 0), vx 0, .int .i64 (e.r' 0), .int .i64 (e.c' 0), vp 0, .int .i64 (e.r 1), .int .i64 (e.c 1), vx 1, .int .i64 (e.r' 1), .int .i64 (e.c' 1), vp 1, .int .i64 (e.r 2), .int .i64 (e.c 2), vx 2, .int .i64 (e.r' 2), .int .i64 (e.c' 2), vp 2, .int .i64 e.st, .int .i64 e.co, .int .i64 (e.off 0), .int .i64 (e.off 1), .int .i64 (e.off 2), .int .i64 (e.off 3), .bool e.sat] 35)
  have hq := Qt.right_any e.tu (w.alloc (.cells #[.int .i64 (e.tu 0), .int .i64 (e.tu 1), .int .i64 (e.tu 2), .int .i64 (e.tu 3), .int .i64 (e.r 0), .int .i64 (e.c 0), vx 0, .int .i64 (e.r' 0), .int .i64 (e.c' 0), vp 0, .int .i64 (e.r 1), .int .i64 (e.c 1), vx 1, .int .i64 (e.r' 1), .int .i64 (e.c' 1), vp 1, .int .i64 (e.r 2), .int .i64 (e.c 2), vx 2, .int .i64 (e.r' 2), .int .i64 (e.c' 2), vp 2, .int .i64 e.st, .int .i64 e.co, .int .i64 (e.off 0), .int .i64 (e.off 1), .int .i64 (e.off 2), .int .i64 (e.off 3), .bool e.sat] 35))
  have hS := h.below bW
  have cl : ∀ v, Below (w.alloc (.cells #[.int .i64 (e.tu 0), .int .i64 (e.tu 1), .int .i64 (e.tu 2), .int .i64 (e.tu 3), .int .i64 (e.r 0), .int .i64 (e.c 0), vx 0, .int .i64 (e.r' 0), .int .i64 (e.c' 0), vp 0, .int .i64 (e.r 1), .int .i64 (e.c 1), vx 1, .int .i64 (e.r' 1), .int .i64 (e.c' 1), vp 1, .int .i64 (e.r 2), .int .i64 (e.c 2), vx 2, .int .i64 (e.r' 2), .int .i64 (e.c' 2), vp 2, .int .i64 e.st, .int .i64 e.co, .int .i64 (e.off 0), .int .i64 (e.off 1), .int .i64 (e.off 2), .int .i64 (e.off 3), .bool e.sat] 35)).heap.size (w.alloc (.cells #[.int .i64 (e.tu 0), .int .i64 (e.tu 1), .int .i64 (e.tu 2), .int .i64 (e.tu 3), .int .i64 (e.r 0), .int .i64 (e.c 0), vx 0, .int .i64 (e.r' 0), .int .i64 (e.c' 0), vp 0, .int .i64 (e.r 1), .int .i64 (e.c 1), vx 1, .int .i64 (e.r' 1), .int .i64 (e.c' 1), vp 1, .int .i64 (e.r 2), .int .i64 (e.c 2), vx 2, .int .i64 (e.r' 2), .int .i64 (e.c' 2), vp 2, .int .i64 e.st, .int .i64 e.co, .int .i64 (e.off 0), .int .i64 (e.off 1), .int .i64 (e.off 2), .int .i64 (e.off 3), .bool e.sat] 35)) v → Wk 29 v w.heap.size (fun k => (#[.int .i64 (e.tu 0), .int .i64 (e.tu 1), .int .i64 (e.tu 2), .int .i64 (e.tu 3), .int .i64 (e.r 0), .int .i64 (e.c 0), vx 0, .int .i64 (e.r' 0), .int .i64 (e.c' 0), vp 0, .int .i64 (e.r 1), .int .i64 (e.c 1), vx 1, .int .i64 (e.r' 1), .int .i64 (e.c' 1), vp 1, .int .i64 (e.r 2), .int .i64 (e.c 2), vx 2, .int .i64 (e.r' 2), .int .i64 (e.c' 2), vp 2, .int .i64 e.st, .int .i64 e.co, .int .i64 (e.off 0), .int .i64 (e.off 1), .int .i64 (e.off 2), .int .i64 (e.off 3), .bool e.sat] : Array Value).getD k undef) := fun v hv => by
    refine ⟨_, _, (hv.block _ (lt_of_block g1)).trans g1, by simp, fun k hk => ?_⟩
    simp [Array.getD, hk]
  unfold rgtB
  obtain ⟨A0, h0⟩ : ∃ A, Qt.Qm.anyB (fun k => ob (e.tu k)) 4 = A := ⟨_, rfl⟩
  rw [h0] at hq ⊢
  have hax := fun v (hv : Below (w.alloc (.cells #[.int .i64 (e.tu 0), .int .i64 (e.tu 1), .int .i64 (e.tu 2), .int .i64 (e.tu 3), .int .i64 (e.r 0), .int .i64 (e.c 0), vx 0, .int .i64 (e.r' 0), .int .i64 (e.c' 0), vp 0, .int .i64 (e.r 1), .int .i64 (e.c 1), vx 1, .int .i64 (e.r' 1), .int .i64 (e.c' 1), vp 1, .int .i64 (e.r 2), .int .i64 (e.c 2), vx 2, .int .i64 (e.r' 2), .int .i64 (e.c' 2), vp 2, .int .i64 e.st, .int .i64 e.co, .int .i64 (e.off 0), .int .i64 (e.off 1), .int .i64 (e.off 2), .int .i64 (e.off 3), .bool e.sat] 35)).heap.size (w.alloc (.cells #[.int .i64 (e.tu 0), .int .i64 (e.tu 1), .int .i64 (e.tu 2), .int .i64 (e.tu 3), .int .i64 (e.r 0), .int .i64 (e.c 0), vx 0, .int .i64 (e.r' 0), .int .i64 (e.c' 0), vp 0, .int .i64 (e.r 1), .int .i64 (e.c 1), vx 1, .int .i64 (e.r' 1), .int .i64 (e.c' 1), vp 1, .int .i64 (e.r 2), .int .i64 (e.c 2), vx 2, .int .i64 (e.r' 2), .int .i64 (e.c' 2), vp 2, .int .i64 e.st, .int .i64 e.co, .int .i64 (e.off 0), .int .i64 (e.off 1), .int .i64 (e.off 2), .int .i64 (e.off 3), .bool e.sat] 35)) v) => axContains_any e vx vp w.heap.size v (hS.below hv) (fun i hi => by
    have q := cl v hv
    rcases (by omega : i = 0 ∨ i = 1 ∨ i = 2) with rfl | rfl | rfl
    · exact ⟨q.cell (k := 4) (by decide) rfl, q.cell (k := 5) (by decide) rfl, q.cell (k := 6) (by decide) rfl, q.cell (k := 7) (by decide) rfl, q.cell (k := 8) (by decide) rfl, q.cell (k := 9) (by decide) rfl⟩
    · exact ⟨q.cell (k := 10) (by decide) rfl, q.cell (k := 11) (by decide) rfl, q.cell (k := 12) (by decide) rfl, q.cell (k := 13) (by decide) rfl, q.cell (k := 14) (by decide) rfl, q.cell (k := 15) (by decide) rfl⟩
    · exact ⟨q.cell (k := 16) (by decide) rfl, q.cell (k := 17) (by decide) rfl, q.cell (k := 18) (by decide) rfl, q.cell (k := 19) (by decide) rfl, q.cell (k := 20) (by decide) rfl, q.cell (k := 21) (by decide) rfl⟩) (cl v hv).lt
  obtain ⟨A1, h1⟩ : ∃ A, anyB (axB e) 3 = A := ⟨_, rfl⟩
  simp only [h1] at hax
  rw [h1]
  have hu1 := fun v (hv : Below (w.alloc (.cells #[.int .i64 (e.tu 0), .int .i64 (e.tu 1), .int .i64 (e.tu 2), .int .i64 (e.tu 3), .int .i64 (e.r 0), .int .i64 (e.c 0), vx 0, .int .i64 (e.r' 0), .int .i64 (e.c' 0), vp 0, .int .i64 (e.r 1), .int .i64 (e.c 1), vx 1, .int .i64 (e.r' 1), .int .i64 (e.c' 1), vp 1, .int .i64 (e.r 2), .int .i64 (e.c 2), vx 2, .int .i64 (e.r' 2), .int .i64 (e.c' 2), vp 2, .int .i64 e.st, .int .i64 e.co, .int .i64 (e.off 0), .int .i64 (e.off 1), .int .i64 (e.off 2), .int .i64 (e.off 3), .bool e.sat] 35)).heap.size (w.alloc (.cells #[.int .i64 (e.tu 0), .int .i64 (e.tu 1), .int .i64 (e.tu 2), .int .i64 (e.tu 3), .int .i64 (e.r 0), .int .i64 (e.c 0), vx 0, .int .i64 (e.r' 0), .int .i64 (e.c' 0), vp 0, .int .i64 (e.r 1), .int .i64 (e.c 1), vx 1, .int .i64 (e.r' 1), .int .i64 (e.c' 1), vp 1, .int .i64 (e.r 2), .int .i64 (e.c 2), vx 2, .int .i64 (e.r' 2), .int .i64 (e.c' 2), vp 2, .int .i64 e.st, .int .i64 e.co, .int .i64 (e.off 0), .int .i64 (e.off 1), .int .i64 (e.off 2), .int .i64 (e.off 3), .bool e.sat] 35)) v) => upTo_any 1099511627776 (.slice (some ⟨v.heap.size, 0, none⟩) 1 1) [e.st] (v.alloc (.cells #[.int .i64 e.st] 3)) (by simp) (sees_row (xs := [e.st]) (heap_new v (.cells #[.int .i64 e.st] 3)) rfl)
  have hu2 := fun v (hv : Below (w.alloc (.cells #[.int .i64 (e.tu 0), .int .i64 (e.tu 1), .int .i64 (e.tu 2), .int .i64 (e.tu 3), .int .i64 (e.r 0), .int .i64 (e.c 0), vx 0, .int .i64 (e.r' 0), .int .i64 (e.c' 0), vp 0, .int .i64 (e.r 1), .int .i64 (e.c 1), vx 1, .int .i64 (e.r' 1), .int .i64 (e.c' 1), vp 1, .int .i64 (e.r 2), .int .i64 (e.c 2), vx 2, .int .i64 (e.r' 2), .int .i64 (e.c' 2), vp 2, .int .i64 e.st, .int .i64 e.co, .int .i64 (e.off 0), .int .i64 (e.off 1), .int .i64 (e.off 2), .int .i64 (e.off 3), .bool e.sat] 35)).heap.size (w.alloc (.cells #[.int .i64 (e.tu 0), .int .i64 (e.tu 1), .int .i64 (e.tu 2), .int .i64 (e.tu 3), .int .i64 (e.r 0), .int .i64 (e.c 0), vx 0, .int .i64 (e.r' 0), .int .i64 (e.c' 0), vp 0, .int .i64 (e.r 1), .int .i64 (e.c 1), vx 1, .int .i64 (e.r' 1), .int .i64 (e.c' 1), vp 1, .int .i64 (e.r 2), .int .i64 (e.c 2), vx 2, .int .i64 (e.r' 2), .int .i64 (e.c' 2), vp 2, .int .i64 e.st, .int .i64 e.co, .int .i64 (e.off 0), .int .i64 (e.off 1), .int .i64 (e.off 2), .int .i64 (e.off 3), .bool e.sat] 35)) v) => upTo_any 1000 (.slice (some ⟨v.heap.size, 0, none⟩) 1 1) [e.co] (v.alloc (.cells #[.int .i64 e.co] 3)) (by simp) (sees_row (xs := [e.co]) (heap_new v (.cells #[.int .i64 e.co] 3)) rfl)
  have hu3 := fun v (hv : Below (w.alloc (.cells #[.int .i64 (e.tu 0), .int .i64 (e.tu 1), .int .i64 (e.tu 2), .int .i64 (e.tu 3), .int .i64 (e.r 0), .int .i64 (e.c 0), vx 0, .int .i64 (e.r' 0), .int .i64 (e.c' 0), vp 0, .int .i64 (e.r 1), .int .i64 (e.c 1), vx 1, .int .i64 (e.r' 1), .int .i64 (e.c' 1), vp 1, .int .i64 (e.r 2), .int .i64 (e.c 2), vx 2, .int .i64 (e.r' 2), .int .i64 (e.c' 2), vp 2, .int .i64 e.st, .int .i64 e.co, .int .i64 (e.off 0), .int .i64 (e.off 1), .int .i64 (e.off 2), .int .i64 (e.off 3), .bool e.sat] 35)).heap.size (w.alloc (.cells #[.int .i64 (e.tu 0), .int .i64 (e.tu 1), .int .i64 (e.tu 2), .int .i64 (e.tu 3), .int .i64 (e.r 0), .int .i64 (e.c 0), vx 0, .int .i64 (e.r' 0), .int .i64 (e.c' 0), vp 0, .int .i64 (e.r 1), .int .i64 (e.c 1), vx 1, .int .i64 (e.r' 1), .int .i64 (e.c' 1), vp 1, .int .i64 (e.r 2), .int .i64 (e.c 2), vx 2, .int .i64 (e.r' 2), .int .i64 (e.c' 2), vp 2, .int .i64 e.st, .int .i64 e.co, .int .i64 (e.off 0), .int .i64 (e.off 1), .int .i64 (e.off 2), .int .i64 (e.off 3), .bool e.sat] 35)) v) => upTo_any 1000 (.slice (some ⟨w.heap.size, 24, none⟩) 4 4) [e.off 0, e.off 1, e.off 2, e.off 3] v (by simp) (sees_four (cl v hv).lt ((cl v hv).cell (k := 24) (by decide) rfl) ((cl v hv).cell (k := 25) (by decide) rfl) ((cl v hv).cell (k := 26) (by decide) rfl) ((cl v hv).cell (k := 27) (by decide) rfl))
  simp only [one_cnt] at hu1 hu2
  simp only [four_cnt] at hu3
  obtain ⟨A2, h2⟩ : ∃ A, cnB 1099511627776 e.st = A := ⟨_, rfl⟩
  obtain ⟨A3, h3⟩ : ∃ A, cnB 1000 e.co = A := ⟨_, rfl⟩
  obtain ⟨A4, h4⟩ : ∃ A, anyB (fun k => cnB 1000 (e.off k)) 4 = A := ⟨_, rfl⟩
  simp only [h2] at hu1
  simp only [h3] at hu2
  simp only [h4] at hu3
  rw [h2, h3, h4]
  clear h0 h1 h2 h3 h4 hS h
  have B0 := Below.refl (w.alloc (.cells #[.int .i64 (e.tu 0), .int .i64 (e.tu 1), .int .i64 (e.tu 2), .int .i64 (e.tu 3), .int .i64 (e.r 0), .int .i64 (e.c 0), vx 0, .int .i64 (e.r' 0), .int .i64 (e.c' 0), vp 0, .int .i64 (e.r 1), .int .i64 (e.c 1), vx 1, .int .i64 (e.r' 1), .int .i64 (e.c' 1), vp 1, .int .i64 (e.r 2), .int .i64 (e.c 2), vx 2, .int .i64 (e.r' 2), .int .i64 (e.c' 2), vp 2, .int .i64 e.st, .int .i64 e.co, .int .i64 (e.off 0), .int .i64 (e.off 1), .int .i64 (e.off 2), .int .i64 (e.off 3), .bool e.sat] 35)).heap.size (w.alloc (.cells #[.int .i64 (e.tu 0), .int .i64 (e.tu 1), .int .i64 (e.tu 2), .int .i64 (e.tu 3), .int .i64 (e.r 0), .int .i64 (e.c 0), vx 0, .int .i64 (e.r' 0), .int .i64 (e.c' 0), vp 0, .int .i64 (e.r 1), .int .i64 (e.c 1), vx 1, .int .i64 (e.r' 1), .int .i64 (e.c' 1), vp 1, .int .i64 (e.r 2), .int .i64 (e.c 2), vx 2, .int .i64 (e.r' 2), .int .i64 (e.c' 2), vp 2, .int .i64 e.st, .int .i64 e.co, .int .i64 (e.off 0), .int .i64 (e.off 1), .int .i64 (e.off 2), .int .i64 (e.off 3), .bool e.sat] 35))
  have HW : Hid (∀ v, Below (w.alloc (.cells #[.int .i64 (e.tu 0), .int .i64 (e.tu 1), .int .i64 (e.tu 2), .int .i64 (e.tu 3), .int .i64 (e.r 0), .int .i64 (e.c 0), vx 0, .int .i64 (e.r' 0), .int .i64 (e.c' 0), vp 0, .int .i64 (e.r 1), .int .i64 (e.c 1), vx 1, .int .i64 (e.r' 1), .int .i64 (e.c' 1), vp 1, .int .i64 (e.r 2), .int .i64 (e.c 2), vx 2, .int .i64 (e.r' 2), .int .i64 (e.c' 2), vp 2, .int .i64 e.st, .int .i64 e.co, .int .i64 (e.off 0), .int .i64 (e.off 1), .int .i64 (e.off 2), .int .i64 (e.off 3), .bool e.sat] 35)).heap.size (w.alloc (.cells #[.int .i64 (e.tu 0), .int .i64 (e.tu 1), .int .i64 (e.tu 2), .int .i64 (e.tu 3), .int .i64 (e.r 0), .int .i64 (e.c 0), vx 0, .int .i64 (e.r' 0), .int .i64 (e.c' 0), vp 0, .int .i64 (e.r 1), .int .i64 (e.c 1), vx 1, .int .i64 (e.r' 1), .int .i64 (e.c' 1), vp 1, .int .i64 (e.r 2), .int .i64 (e.c 2), vx 2, .int .i64 (e.r' 2), .int .i64 (e.c' 2), vp 2, .int .i64 e.st, .int .i64 e.co, .int .i64 (e.off 0), .int .i64 (e.off 1), .int .i64 (e.off 2), .int .i64 (e.off 3), .bool e.sat] 35)) v → Below w.heap.size w v) := fun v hv => bt bW hv
  cases A0
  case true =>
    go_enter Tryz.func20, Tryz.ntmps20
    go_wp2_with (go_at_call 46; go_must (refine hq.mono ?_); rintro z w1 ⟨rfl, b1⟩; have m22 := (cl w1 b1).cell (k := 22) (by decide) rfl; have m23 := (cl w1 b1).cell (k := 23) (by decide) rfl)
    go_ret
    exact ⟨rfl, HW.out _ b1⟩
  case false =>
  cases A1
  case true =>
    go_enter Tryz.func20, Tryz.ntmps20
    go_wp2_with (first
      | (have _ := b1; go_at_call 47; go_must (refine (hax w1 b1).mono ?_); rintro z w2 ⟨rfl, b2'⟩; have b2 := bt b1 b2'; have m22 := (cl w2 b2).cell (k := 22) (by decide) rfl)
      | (go_at_call 46; go_must (refine hq.mono ?_); rintro z w1 ⟨rfl, b1⟩; have m22 := (cl w1 b1).cell (k := 22) (by decide) rfl; have m23 := (cl w1 b1).cell (k := 23) (by decide) rfl))
    go_ret
    exact ⟨rfl, HW.out _ b2⟩
  case false =>
  cases A2
  case true =>
    go_enter Tryz.func20, Tryz.ntmps20
    go_wp2_with (first
      | (have _ := b2; go_at_call 43; go_must (refine (hu1 w2 b2).mono ?_); rintro z w3 ⟨rfl, b3'⟩; have b3 := bt b2 (bt (box_below w2 _) b3'); have m23 := (cl w3 b3).cell (k := 23) (by decide) rfl)
      | (have _ := b1; go_at_call 47; go_must (refine (hax w1 b1).mono ?_); rintro z w2 ⟨rfl, b2'⟩; have b2 := bt b1 b2'; have m22 := (cl w2 b2).cell (k := 22) (by decide) rfl)
      | (go_at_call 46; go_must (refine hq.mono ?_); rintro z w1 ⟨rfl, b1⟩; have m22 := (cl w1 b1).cell (k := 22) (by decide) rfl; have m23 := (cl w1 b1).cell (k := 23) (by decide) rfl))
    go_ret
    exact ⟨rfl, HW.out _ b3⟩
  case false =>
  cases A3
  case true =>
    go_enter Tryz.func20, Tryz.ntmps20
    go_wp2_with (first
      | (have _ := b3; go_at_call 43; go_must (refine (hu2 w3 b3).mono ?_); rintro z w4 ⟨rfl, b4'⟩; have b4 := bt b3 (bt (box_below w3 _) b4'))
      | (have _ := b2; go_at_call 43; go_must (refine (hu1 w2 b2).mono ?_); rintro z w3 ⟨rfl, b3'⟩; have b3 := bt b2 (bt (box_below w2 _) b3'); have m23 := (cl w3 b3).cell (k := 23) (by decide) rfl)
      | (have _ := b1; go_at_call 47; go_must (refine (hax w1 b1).mono ?_); rintro z w2 ⟨rfl, b2'⟩; have b2 := bt b1 b2'; have m22 := (cl w2 b2).cell (k := 22) (by decide) rfl)
      | (go_at_call 46; go_must (refine hq.mono ?_); rintro z w1 ⟨rfl, b1⟩; have m22 := (cl w1 b1).cell (k := 22) (by decide) rfl; have m23 := (cl w1 b1).cell (k := 23) (by decide) rfl))
    go_ret
    exact ⟨rfl, HW.out _ b4⟩
  case false =>
  cases A4
  case true =>
    go_enter Tryz.func20, Tryz.ntmps20
    go_wp2_with (first
      | (have _ := b4; go_at_call 43; go_must (refine (hu3 w4 b4).mono ?_); rintro z w5 ⟨rfl, b5'⟩; have b5 := bt b4 b5')
      | (have _ := b3; go_at_call 43; go_must (refine (hu2 w3 b3).mono ?_); rintro z w4 ⟨rfl, b4'⟩; have b4 := bt b3 (bt (box_below w3 _) b4'))
      | (have _ := b2; go_at_call 43; go_must (refine (hu1 w2 b2).mono ?_); rintro z w3 ⟨rfl, b3'⟩; have b3 := bt b2 (bt (box_below w2 _) b3'); have m23 := (cl w3 b3).cell (k := 23) (by decide) rfl)
      | (have _ := b1; go_at_call 47; go_must (refine (hax w1 b1).mono ?_); rintro z w2 ⟨rfl, b2'⟩; have b2 := bt b1 b2'; have m22 := (cl w2 b2).cell (k := 22) (by decide) rfl)
      | (go_at_call 46; go_must (refine hq.mono ?_); rintro z w1 ⟨rfl, b1⟩; have m22 := (cl w1 b1).cell (k := 22) (by decide) rfl; have m23 := (cl w1 b1).cell (k := 23) (by decide) rfl))
    go_ret
    exact ⟨rfl, HW.out _ b5⟩
  case false =>
    go_enter Tryz.func20, Tryz.ntmps20
    go_wp2_with (first
      | (have _ := b4; go_at_call 43; go_must (refine (hu3 w4 b4).mono ?_); rintro z w5 ⟨rfl, b5'⟩; have b5 := bt b4 b5')
      | (have _ := b3; go_at_call 43; go_must (refine (hu2 w3 b3).mono ?_); rintro z w4 ⟨rfl, b4'⟩; have b4 := bt b3 (bt (box_below w3 _) b4'))
      | (have _ := b2; go_at_call 43; go_must (refine (hu1 w2 b2).mono ?_); rintro z w3 ⟨rfl, b3'⟩; have b3 := bt b2 (bt (box_below w2 _) b3'); have m23 := (cl w3 b3).cell (k := 23) (by decide) rfl)
      | (have _ := b1; go_at_call 47; go_must (refine (hax w1 b1).mono ?_); rintro z w2 ⟨rfl, b2'⟩; have b2 := bt b1 b2'; have m22 := (cl w2 b2).cell (k := 22) (by decide) rfl)
      | (go_at_call 46; go_must (refine hq.mono ?_); rintro z w1 ⟨rfl, b1⟩; have m22 := (cl w1 b1).cell (k := 22) (by decide) rfl; have m23 := (cl w1 b1).cell (k := 23) (by decide) rfl))
    go_ret
    exact ⟨rfl, HW.out _ b5⟩
end Go.Proofs.YtoefekkdjcflmaaGreatDoor.Et

