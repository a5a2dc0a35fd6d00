/- Parts of the proof. -/
import Derived.Test.YtoefekkdjcflmaaGreatDoorM39
import Derived.Test.YtoefekkdjcflmaaGreatDoorM40
namespace Go.Proofs.YtoefekkdjcflmaaGreatDoor.Et
open Go.RowKit Go.Sort Go.Proofs.YtoefekkdjcflmaaGreatDoor.Qm
open Go.Proofs.YtoefekkdjcflmaaGreatDoor.Qt (Less)
def outE (s : Sg) : Es := ⟨s.tu, fun _ => 3, fun _ => 1, fun _ => 3, fun _ => 3, s.X, s.P, s.st, s.co, s.off, s.sat⟩
theorem row_cells {w : World} {D : Nat} {cs : List Value} {t : TypeId} (h : w.heap[D]? = some (.cells cs.toArray t (0, 0))) : ∀ j v, cs[j]? = some v → w.cell? ⟨D, 0 + j, none⟩ = some v := fun j v hv => by
  simp [World.cell?, h, hv]
theorem St.out {w : World} {W : Nat} {s : Sg} (h : St w W s) : ∃ (xo po : Nat → Option Addr) (xc pc : Nat → Nat), (outE s).See w (fun i => .slice (xo i) (s.X i).length (xc i)) (fun i => .slice (po i) (s.P i).length (pc i)) ∧ (∀ i, i < 3 → (s.X i).length = 3 ∧ (s.P i).length = 9) ∧
    (∀ i, i < 3 → (∀ k, (Value.slice (xo i) (s.X i).length (xc i)).ownBlock = some k → k < s.lo ∨ W < k) ∧ (∀ k, (Value.slice (po i) (s.P i).length (pc i)).ownBlock = some k → k < s.lo ∨ W < k)) ∧
    ∃ f, Stf w W s f ∧ ∀ i, i < 3 → f (23 + 6 * i + 2) = .slice (xo i) (s.X i).length (xc i) ∧ f (23 + 6 * i + 5) = .slice (po i) (s.P i).length (pc i) := by
  obtain ⟨f, hf⟩ := h
  obtain ⟨a0, b0, x0⟩ := (hf.ax 0 (by decide)).x.slice
  obtain ⟨a1, b1, x1⟩ := (hf.ax 1 (by decide)).x.slice
  obtain ⟨a2, b2, x2⟩ := (hf.ax 2 (by decide)).x.slice
  obtain ⟨c0, d0, y0⟩ := (hf.ax 0 (by decide)).p.slice
  obtain ⟨c1, d1, y1⟩ := (hf.ax 1 (by decide)).p.slice
  obtain ⟨c2, d2, y2⟩ := (hf.ax 2 (by decide)).p.slice
  have key : ∀ i, i < 3 → f (23 + 6 * i + 2) = .slice ([a0, a1, a2].getD i none) (s.X i).length ([b0, b1, b2].getD i 0) ∧ f (23 + 6 * i + 5) = .slice ([c0, c1, c2].getD i none) (s.P i).length ([d0, d1, d2].getD i 0) := fun i hi => by
    rcases (by omega : i = 0 ∨ i = 1 ∨ i = 2) with rfl | rfl | rfl
    · exact ⟨x0, y0⟩
    · exact ⟨x1, y1⟩
    · exact ⟨x2, y2⟩
  refine ⟨fun i => [a0, a1, a2].getD i none, fun i => [c0, c1, c2].getD i none, fun i => [b0, b1, b2].getD i 0, fun i => [d0, d1, d2].getD i 0, fun i hi => ?_, fun i hi => ⟨(hf.ax i hi).xl, (hf.ax i hi).pl⟩, fun i hi => ?_, f, hf, key⟩
  · have q := hf.ax i hi
    obtain ⟨k1, k2⟩ := key i hi
    have q1 := q.x
    have q2 := q.p
    rw [k1] at q1
    rw [k2] at q2
    exact ⟨q1, q2⟩
  · have q := hf.ax i hi
    obtain ⟨k1, k2⟩ := key i hi
    have q1 := q.xn
    have q2 := q.pn
    rw [k1] at q1
    rw [k2] at q2
    exact ⟨q1, q2⟩
theorem gn_lo (s : Sg) (j : Nat) : (gnS s j).lo = s.lo := by
  induction j with
  | zero => rfl
  | succ j ih => exact ih
theorem stg_lo (s : Sg) : (stgS s 4).lo = s.lo := by
  have h1 : (turS s).lo = s.lo := by unfold turS; split <;> rfl
  have h2 : ∀ t : Sg, (baS t).lo = t.lo := fun t => by unfold baS; split <;> rfl
  have h3 : ∀ t : Sg, (holS t).lo = t.lo := fun t => by
    unfold holS
    split
    · rfl
    · split
      · exact (gn_lo _ _).trans (h2 t)
      · exact h2 t
  show (holS (preS (turS s))).lo = s.lo
  rw [h3]
  exact h1
set_option maxRecDepth 20000 in
set_option maxHeartbeats 8000000 in
theorem step_from (c : Nat → Int) (e : Es) (q : Sm) (xo po : Nat → Option Addr) (xc pc : Nat → Nat) (w : World) (w0 : World) (hm : mayB c = true) (hr : rgtB e = true) (hE0 : e.See w0 (fun i => .slice (xo i) (e.X i).length (xc i)) (fun i => .slice (po i) (e.P i).length (pc i))) (hZ0 : w0.heap.size ≤ w.heap.size) (h : e.See w (fun i => .slice (xo i) (e.X i).length (xc i)) (fun i => .slice (po i) (e.P i).length (pc i))) (hG : Less w) :
    Calls Tryz.prog 14 #[.agg #[.int .i64 (c 0), .int .i64 (c 1), .int .i64 (c 2), .int .i64 (c 3), .int .i64 (c 4), .int .i64 (c 5)], .agg #[.int .i64 (e.tu 0), .int .i64 (e.tu 1), .int .i64 (e.tu 2), .int .i64 (e.tu 3), .int .i64 (e.r 0), .int .i64 (e.c 0), .slice (xo 0) (e.X 0).length (xc 0), .int .i64 (e.r' 0), .int .i64 (e.c' 0), .slice (po 0) (e.P 0).length (pc 0), .int .i64 (e.r 1), .int .i64 (e.c 1), .slice (xo 1) (e.X 1).length (xc 1), .int .i64 (e.r' 1), .int .i64 (e.c' 1), .slice (po 1) (e.P 1).length (pc 1), .int .i64 (e.r 2), .int .i64 (e.c 2), .slice (xo 2) (e.X 2).length (xc 2), .int .i64 (e.r' 2), .int .i64 (e.c' 2), .slice (po 2) (e.P 2).length (pc 2), .int .i64 e.st, .int .i64 e.co, .int .i64 (e.off 0), .int .i64 (e.off 1), .int .i64 (e.off 2), .int .i64 (e.off 3), .bool e.sat], .agg #[.bool q.ms, .int .i64 (q.gy 0), .int .i64 (q.gy 1), .int .i64 (q.gy 2), .int .i64 (q.ac 0), .int .i64 (q.ac 1), .int .i64 (q.ac 2), .bool q.hb, .int .i64 q.br, .bool q.hg, .int .i64 (q.gn 0), .int .i64 (q.gn 1), .int .i64 (q.gn 2)]] w fun z b =>
      ∃ vx' vp', z = .returned (.tuple #[.agg ((outE (stgS (begS w0.heap.size c e q) 4)).cells vx' vp'), .agg #[.int .i64 (ge ((stgS (begS w0.heap.size c e q) 4).X 0) 0), .int .i64 (ge ((stgS (begS w0.heap.size c e q) 4).X 1) 0), .int .i64 (ge ((stgS (begS w0.heap.size c e q) 4).X 2) 0)]]) ∧ (outE (stgS (begS w0.heap.size c e q) 4)).See b vx' vp' ∧ (∀ i, i < 3 → (∀ k, (vx' i).ownBlock = some k → k < w0.heap.size ∨ w.heap.size ≤ k) ∧ (∀ k, (vp' i).ownBlock = some k → k < w0.heap.size ∨ w.heap.size ≤ k)) ∧ Below w.heap.size w b := by
  have hM := fun v => may_any c v
  rw [hm] at hM
  have hl0 : 0 < w.heap.size := block_lt_of_cell (hG 0 0 (by decide) (by decide))
  obtain ⟨p1, p2, p3, p4, p5, bW, hz⟩ := allocs5 w (.cells #[.int .i64 (c 0), .int .i64 (c 1), .int .i64 (c 2), .int .i64 (c 3), .int .i64 (c 4), .int .i64 (c 5)] 24) (.cells #[.int .i64 (e.tu 0), .int .i64 (e.tu 1), .int .i64 (e.tu 2), .int .i64 (e.tu 3), .int .i64 (e.r 0), .int .i64 (e.c 0), .slice (xo 0) (e.X 0).length (xc 0), .int .i64 (e.r' 0), .int .i64 (e.c' 0), .slice (po 0) (e.P 0).length (pc 0), .int .i64 (e.r 1), .int .i64 (e.c 1), .slice (xo 1) (e.X 1).length (xc 1), .int .i64 (e.r' 1), .int .i64 (e.c' 1), .slice (po 1) (e.P 1).length (pc 1), .int .i64 (e.r 2), .int .i64 (e.c 2), .slice (xo 2) (e.X 2).length (xc 2), .int .i64 (e.r' 2), .int .i64 (e.c' 2), .slice (po 2) (e.P 2).length (pc 2), .int .i64 e.st, .int .i64 e.co, .int .i64 (e.off 0), .int .i64 (e.off 1), .int .i64 (e.off 2), .int .i64 (e.off 3), .bool e.sat] 35) (.cells #[.bool q.ms, .int .i64 (q.gy 0), .int .i64 (q.gy 1), .int .i64 (q.gy 2), .int .i64 (q.ac 0), .int .i64 (q.ac 1), .int .i64 (q.ac 2), .bool q.hb, .int .i64 q.br, .bool q.hg, .int .i64 (q.gn 0), .int .i64 (q.gn 1), .int .i64 (q.gn 2)] 39) (.cells #[.int .i64 0, .int .i64 0, .int .i64 0, .int .i64 0, .int .i64 0, .int .i64 0, .slice none 0 0, .int .i64 0, .int .i64 0, .slice none 0 0, .int .i64 0, .int .i64 0, .slice none 0 0, .int .i64 0, .int .i64 0, .slice none 0 0, .int .i64 0, .int .i64 0, .slice none 0 0, .int .i64 0, .int .i64 0, .slice none 0 0, .int .i64 0, .int .i64 0, .int .i64 0, .int .i64 0, .int .i64 0, .int .i64 0, .bool false] 35) (.cells #[.int .i64 0, .int .i64 0, .int .i64 0] 37)
  have h0 := h.below bW
  have hG0 := hG.below bW
  have HR : Hid (rgtB e = true) := hr
  clear hr
  go_enter Tryz.func14, Tryz.ntmps14
  go_upto_region 1 with fail
  generalize (((((w.alloc (.cells #[.int .i64 (c 0), .int .i64 (c 1), .int .i64 (c 2), .int .i64 (c 3), .int .i64 (c 4), .int .i64 (c 5)] 24)).alloc (.cells #[.int .i64 (e.tu 0), .int .i64 (e.tu 1), .int .i64 (e.tu 2), .int .i64 (e.tu 3), .int .i64 (e.r 0), .int .i64 (e.c 0), .slice (xo 0) (e.X 0).length (xc 0), .int .i64 (e.r' 0), .int .i64 (e.c' 0), .slice (po 0) (e.P 0).length (pc 0), .int .i64 (e.r 1), .int .i64 (e.c 1), .slice (xo 1) (e.X 1).length (xc 1), .int .i64 (e.r' 1), .int .i64 (e.c' 1), .slice (po 1) (e.P 1).length (pc 1), .int .i64 (e.r 2), .int .i64 (e.c 2), .slice (xo 2) (e.X 2).length (xc 2), .int .i64 (e.r' 2), .int .i64 (e.c' 2), .slice (po 2) (e.P 2).length (pc 2), .int .i64 e.st, .int .i64 e.co, .int .i64 (e.off 0), .int .i64 (e.off 1), .int .i64 (e.off 2), .int .i64 (e.off 3), .bool e.sat] 35)).alloc (.cells #[.bool q.ms, .int .i64 (q.gy 0), .int .i64 (q.gy 1), .int .i64 (q.gy 2), .int .i64 (q.ac 0), .int .i64 (q.ac 1), .int .i64 (q.ac 2), .bool q.hb, .int .i64 q.br, .bool q.hg, .int .i64 (q.gn 0), .int .i64 (q.gn 1), .int .i64 (q.gn 2)] 39)).alloc (.cells #[.int .i64 0, .int .i64 0, .int .i64 0, .int .i64 0, .int .i64 0, .int .i64 0, .slice none 0 0, .int .i64 0, .int .i64 0, .slice none 0 0, .int .i64 0, .int .i64 0, .slice none 0 0, .int .i64 0, .int .i64 0, .slice none 0 0, .int .i64 0, .int .i64 0, .slice none 0 0, .int .i64 0, .int .i64 0, .slice none 0 0, .int .i64 0, .int .i64 0, .int .i64 0, .int .i64 0, .int .i64 0, .int .i64 0, .bool false] 35)).alloc (.cells #[.int .i64 0, .int .i64 0, .int .i64 0] 37)) = V at p1 p2 p3 p4 p5 bW hz h0 hG0 ⊢
  refine st1_seq (D3 := w.heap.size) (D4 := w.heap.size + 1) (cf := c) (tu := e.tu) (r := e.r) (c := e.c) (r' := e.r') (c' := e.c') (xo := xo) (xn := fun i => (e.X i).length) (xc := xc) (po := po) (pn := fun i => (e.P i).length) (pc := pc) (st := e.st) (co := e.co) (off := e.off) (sat := e.sat) (row_cells p1) (hM V) (fun b hb => row_cells (keep hb p2)) (fun b hb => by have h9 := right_any e _ _ b (h0.below hb); rw [HR.out] at h9; exact h9) ?_
  intro w2 b2
  go_upto_region 3 with fail
  refine st3_seq (D3 := w.heap.size) (D4 := w.heap.size + 1) (D5 := w.heap.size + 1 + 1) (cf := c) (tu := e.tu) (r := e.r) (c := e.c) (r' := e.r') (c' := e.c') (xo := xo) (xn := fun i => (e.X i).length) (xc := xc) (po := po) (pn := fun i => (e.P i).length) (pc := pc) (st := e.st) (co := e.co) (off := e.off) (sat := e.sat) (ms := q.ms) (hb := q.hb) (hg := q.hg) (gy := q.gy) (ac := q.ac) (gn := q.gn) (br := q.br) (row_cells (keep b2 p1)) (row_cells (keep b2 p3)) (row_cells (keep b2 p2)) ?_
  have hS := beg_St c e q xo po xc pc w0 w2 HR.out hE0 (by have := b2.size; omega) (h0.below b2)
  have p4' := keep b2 p4
  have p5' := keep b2 p5
  have hz2 := b2.size
  have b3 := bt bW b2
  have hG2 := hG0.below b2
  have b23 := box_below w2 (.cells #[.int .i64 (c 0), .int .i64 (c 1), .int .i64 (c 2), .int .i64 (c 3), .int .i64 (c 4), .int .i64 (c 5), .bool q.ms, .int .i64 (q.gy 0), .int .i64 (q.gy 1), .int .i64 (q.gy 2), .int .i64 (q.ac 0), .int .i64 (q.ac 1), .int .i64 (q.ac 2), .bool q.hb, .int .i64 q.br, .bool q.hg, .int .i64 (q.gn 0), .int .i64 (q.gn 1), .int .i64 (q.gn 2), .int .i64 (e.tu 0), .int .i64 (e.tu 1), .int .i64 (e.tu 2), .int .i64 (e.tu 3), .int .i64 (e.r 0), .int .i64 (e.c 0), .slice (xo 0) (e.X 0).length (xc 0), .int .i64 (e.r' 0), .int .i64 (e.c' 0), .slice (po 0) (e.P 0).length (pc 0), .int .i64 (e.r 1), .int .i64 (e.c 1), .slice (xo 1) (e.X 1).length (xc 1), .int .i64 (e.r' 1), .int .i64 (e.c' 1), .slice (po 1) (e.P 1).length (pc 1), .int .i64 (e.r 2), .int .i64 (e.c 2), .slice (xo 2) (e.X 2).length (xc 2), .int .i64 (e.r' 2), .int .i64 (e.c' 2), .slice (po 2) (e.P 2).length (pc 2), .int .i64 e.st, .int .i64 e.co, .int .i64 (e.off 0), .int .i64 (e.off 1), .int .i64 (e.off 2), .int .i64 (e.off 3), .bool e.sat, .int .i64 0, .int .i64 0, .int .i64 0] 66)
  have hz3 : (w2.alloc (.cells #[.int .i64 (c 0), .int .i64 (c 1), .int .i64 (c 2), .int .i64 (c 3), .int .i64 (c 4), .int .i64 (c 5), .bool q.ms, .int .i64 (q.gy 0), .int .i64 (q.gy 1), .int .i64 (q.gy 2), .int .i64 (q.ac 0), .int .i64 (q.ac 1), .int .i64 (q.ac 2), .bool q.hb, .int .i64 q.br, .bool q.hg, .int .i64 (q.gn 0), .int .i64 (q.gn 1), .int .i64 (q.gn 2), .int .i64 (e.tu 0), .int .i64 (e.tu 1), .int .i64 (e.tu 2), .int .i64 (e.tu 3), .int .i64 (e.r 0), .int .i64 (e.c 0), .slice (xo 0) (e.X 0).length (xc 0), .int .i64 (e.r' 0), .int .i64 (e.c' 0), .slice (po 0) (e.P 0).length (pc 0), .int .i64 (e.r 1), .int .i64 (e.c 1), .slice (xo 1) (e.X 1).length (xc 1), .int .i64 (e.r' 1), .int .i64 (e.c' 1), .slice (po 1) (e.P 1).length (pc 1), .int .i64 (e.r 2), .int .i64 (e.c 2), .slice (xo 2) (e.X 2).length (xc 2), .int .i64 (e.r' 2), .int .i64 (e.c' 2), .slice (po 2) (e.P 2).length (pc 2), .int .i64 e.st, .int .i64 e.co, .int .i64 (e.off 0), .int .i64 (e.off 1), .int .i64 (e.off 2), .int .i64 (e.off 3), .bool e.sat, .int .i64 0, .int .i64 0, .int .i64 0] 66)).heap.size = w2.heap.size + 1 := by simp
  have p4'' := keep b23 p4'
  have p5'' := keep b23 p5'
  have hG3 := hG2.below b23
  have b03 := bt b3 b23
  clear p1 p2 p3 p4 p5 hM h0 h hG0 p4' p5' hG2 hG
  generalize w2.alloc (.cells #[.int .i64 (c 0), .int .i64 (c 1), .int .i64 (c 2), .int .i64 (c 3), .int .i64 (c 4), .int .i64 (c 5), .bool q.ms, .int .i64 (q.gy 0), .int .i64 (q.gy 1), .int .i64 (q.gy 2), .int .i64 (q.ac 0), .int .i64 (q.ac 1), .int .i64 (q.ac 2), .bool q.hb, .int .i64 q.br, .bool q.hg, .int .i64 (q.gn 0), .int .i64 (q.gn 1), .int .i64 (q.gn 2), .int .i64 (e.tu 0), .int .i64 (e.tu 1), .int .i64 (e.tu 2), .int .i64 (e.tu 3), .int .i64 (e.r 0), .int .i64 (e.c 0), .slice (xo 0) (e.X 0).length (xc 0), .int .i64 (e.r' 0), .int .i64 (e.c' 0), .slice (po 0) (e.P 0).length (pc 0), .int .i64 (e.r 1), .int .i64 (e.c 1), .slice (xo 1) (e.X 1).length (xc 1), .int .i64 (e.r' 1), .int .i64 (e.c' 1), .slice (po 1) (e.P 1).length (pc 1), .int .i64 (e.r 2), .int .i64 (e.c 2), .slice (xo 2) (e.X 2).length (xc 2), .int .i64 (e.r' 2), .int .i64 (e.c' 2), .slice (po 2) (e.P 2).length (pc 2), .int .i64 e.st, .int .i64 e.co, .int .i64 (e.off 0), .int .i64 (e.off 1), .int .i64 (e.off 2), .int .i64 (e.off 3), .bool e.sat, .int .i64 0, .int .i64 0, .int .i64 0] 66) = w3 at hS b23 hz3 p4'' p5'' hG3 b03 ⊢
  have bF := box_below w3 (.cells #[.func (.func 30) #[.pointer (some ⟨w2.heap.size, 0, none⟩)] #[], .func (.func 31) #[.pointer (some ⟨w2.heap.size, 0, none⟩)] #[], .func (.func 32) #[.pointer (some ⟨w2.heap.size, 0, none⟩)] #[], .func (.func 33) #[.pointer (some ⟨w2.heap.size, 0, none⟩)] #[]] 1)
  have gF := heap_new w3 (.cells #[.func (.func 30) #[.pointer (some ⟨w2.heap.size, 0, none⟩)] #[], .func (.func 31) #[.pointer (some ⟨w2.heap.size, 0, none⟩)] #[], .func (.func 32) #[.pointer (some ⟨w2.heap.size, 0, none⟩)] #[], .func (.func 33) #[.pointer (some ⟨w2.heap.size, 0, none⟩)] #[]] 1)
  have hSF := hS.below bF
  have hGF := hG3.below bF
  have p6 := keep bF p4''
  have p7 := keep bF p5''
  have hz4 : (w3.alloc (.cells #[.func (.func 30) #[.pointer (some ⟨w2.heap.size, 0, none⟩)] #[], .func (.func 31) #[.pointer (some ⟨w2.heap.size, 0, none⟩)] #[], .func (.func 32) #[.pointer (some ⟨w2.heap.size, 0, none⟩)] #[], .func (.func 33) #[.pointer (some ⟨w2.heap.size, 0, none⟩)] #[]] 1)).heap.size = w3.heap.size + 1 := by simp
  have b04 := bt b03 bF
  clear p4'' p5'' hG3 b23 hS
  go_wp2
  generalize w3.alloc (.cells #[.func (.func 30) #[.pointer (some ⟨w2.heap.size, 0, none⟩)] #[], .func (.func 31) #[.pointer (some ⟨w2.heap.size, 0, none⟩)] #[], .func (.func 32) #[.pointer (some ⟨w2.heap.size, 0, none⟩)] #[], .func (.func 33) #[.pointer (some ⟨w2.heap.size, 0, none⟩)] #[]] 1) = w4 at bF gF hSF hGF p6 p7 hz4 b04 ⊢
  have HC : Hid (1 ≤ c 0 ∧ c 0 ≤ 17179869184 ∧ 0 < c 3 ∧ 0 < c 4) := ⟨(mayB_bd hm 0 (by decide)).1, (mayB_bd hm 0 (by decide)).2, (mayB_bd hm 3 (by decide)).1, (mayB_bd hm 4 (by decide)).1⟩
  have HE := rgt_cnts HR.out
  have HE : Hid (0 ≤ e.st ∧ e.st ≤ 1099511627776 ∧ 0 ≤ e.co ∧ e.co ≤ 1000 ∧ ∀ k, k < 4 → 0 ≤ e.off k ∧ e.off k ≤ 1000) := HE
  go_loopw [31] (fun i wr => ∃ k : Nat, k ≤ 4 ∧ i = .int .i64 k ∧ St wr w2.heap.size (stgS (begS w0.heap.size c e q) k) ∧ Mod (fun b => b = w2.heap.size) w4 wr) (fun i _ => 4 - (intOf i).toNat)
  case atStart => exact ⟨0, Nat.zero_le _, rfl, hSF, Mod.refl _ _⟩
  case round =>
    obtain ⟨k, hk, rfl, hSt, hmd⟩ := hrel
    have hF := (hmd.block w3.heap.size (lt_of_block gF) (by omega)).trans gF
    rw [hz3] at hF
    obtain ⟨y0, y1, y2, y3, _⟩ := Qt.four_cells hF
    have hGr := Less.mod hGF hmd (by omega)
    have hW0 : w2.heap.size ≠ 0 := by omega
    have t1 := tur_same (begS w0.heap.size c e q)
    by_cases h4k : k = 4
    · subst h4k
      clear y0 y1 y2 y3 hF
      have hlo := stg_lo (begS w0.heap.size c e q)
      obtain ⟨s4, hs4⟩ : ∃ s4, stgS (begS w0.heap.size c e q) 4 = s4 := ⟨_, rfl⟩
      rw [hs4] at hSt hlo
      have hlo : s4.lo = w0.heap.size := hlo
      have HS4 : Hid (stgS (begS w0.heap.size c e q) 4 = s4) := hs4
      clear hs4
      obtain ⟨xo', po', xc', pc', hSee, hlen, hne, f, hf, hfx⟩ := hSt.out
      have HNE : Hid (∀ i, i < 3 → (∀ k, (Value.slice (xo' i) (s4.X i).length (xc' i)).ownBlock = some k → k < w0.heap.size ∨ w.heap.size ≤ k) ∧ (∀ k, (Value.slice (po' i) (s4.P i).length (pc' i)).ownBlock = some k → k < w0.heap.size ∨ w.heap.size ≤ k)) := fun i hi => ⟨fun k hk => by have := (hne i hi).1 k hk; omega, fun k hk => by have := (hne i hi).2 k hk; omega⟩
      have hev : (List.range 29).map (fun j => f (19 + j)) = [.int .i64 (s4.tu 0), .int .i64 (s4.tu 1), .int .i64 (s4.tu 2), .int .i64 (s4.tu 3), .int .i64 3, .int .i64 1, .slice (xo' 0) (s4.X 0).length (xc' 0), .int .i64 3, .int .i64 3, .slice (po' 0) (s4.P 0).length (pc' 0), .int .i64 3, .int .i64 1, .slice (xo' 1) (s4.X 1).length (xc' 1), .int .i64 3, .int .i64 3, .slice (po' 1) (s4.P 1).length (pc' 1), .int .i64 3, .int .i64 1, .slice (xo' 2) (s4.X 2).length (xc' 2), .int .i64 3, .int .i64 3, .slice (po' 2) (s4.P 2).length (pc' 2), .int .i64 s4.st, .int .i64 s4.co, .int .i64 (s4.off 0), .int .i64 (s4.off 1), .int .i64 (s4.off 2), .int .i64 (s4.off 3), .bool s4.sat] := by
        have e19 : f 19 = .int .i64 (s4.tu 0) := hf.tu 0 (by decide)
        have e20 : f 20 = .int .i64 (s4.tu 1) := hf.tu 1 (by decide)
        have e21 : f 21 = .int .i64 (s4.tu 2) := hf.tu 2 (by decide)
        have e22 : f 22 = .int .i64 (s4.tu 3) := hf.tu 3 (by decide)
        have e23 : f 23 = .int .i64 3 := (hf.ax 0 (by decide)).r
        have e24 : f 24 = .int .i64 1 := (hf.ax 0 (by decide)).c
        have e25 : f 25 = .slice (xo' 0) (s4.X 0).length (xc' 0) := (hfx 0 (by decide)).1
        have e26 : f 26 = .int .i64 3 := (hf.ax 0 (by decide)).r'
        have e27 : f 27 = .int .i64 3 := (hf.ax 0 (by decide)).c'
        have e28 : f 28 = .slice (po' 0) (s4.P 0).length (pc' 0) := (hfx 0 (by decide)).2
        have e29 : f 29 = .int .i64 3 := (hf.ax 1 (by decide)).r
        have e30 : f 30 = .int .i64 1 := (hf.ax 1 (by decide)).c
        have e31 : f 31 = .slice (xo' 1) (s4.X 1).length (xc' 1) := (hfx 1 (by decide)).1
        have e32 : f 32 = .int .i64 3 := (hf.ax 1 (by decide)).r'
        have e33 : f 33 = .int .i64 3 := (hf.ax 1 (by decide)).c'
        have e34 : f 34 = .slice (po' 1) (s4.P 1).length (pc' 1) := (hfx 1 (by decide)).2
        have e35 : f 35 = .int .i64 3 := (hf.ax 2 (by decide)).r
        have e36 : f 36 = .int .i64 1 := (hf.ax 2 (by decide)).c
        have e37 : f 37 = .slice (xo' 2) (s4.X 2).length (xc' 2) := (hfx 2 (by decide)).1
        have e38 : f 38 = .int .i64 3 := (hf.ax 2 (by decide)).r'
        have e39 : f 39 = .int .i64 3 := (hf.ax 2 (by decide)).c'
        have e40 : f 40 = .slice (po' 2) (s4.P 2).length (pc' 2) := (hfx 2 (by decide)).2
        have e41 : f 41 = .int .i64 s4.st := hf.st
        have e42 : f 42 = .int .i64 s4.co := hf.co
        have e43 : f 43 = .int .i64 (s4.off 0) := hf.off 0 (by decide)
        have e44 : f 44 = .int .i64 (s4.off 1) := hf.off 1 (by decide)
        have e45 : f 45 = .int .i64 (s4.off 2) := hf.off 2 (by decide)
        have e46 : f 46 = .int .i64 (s4.off 3) := hf.off 3 (by decide)
        have e47 : f 47 = .bool s4.sat := hf.sat
        show [f 19, f 20, f 21, f 22, f 23, f 24, f 25, f 26, f 27, f 28, f 29, f 30, f 31, f 32, f 33, f 34, f 35, f 36, f 37, f 38, f 39, f 40, f 41, f 42, f 43, f 44, f 45, f 46, f 47] = _
        rw [e19, e20, e21, e22, e23, e24, e25, e26, e27, e28, e29, e30, e31, e32, e33, e34, e35, e36, e37, e38, e39, e40, e41, e42, e43, e44, e45, e46, e47]
      have hrg := hf.wk.range 19 29 (by decide)
      rw [hev] at hrg
      have p6r := (hmd.block _ (lt_of_block p6) (by omega)).trans p6
      have p7r := (hmd.block _ (lt_of_block p7) (by omega)).trans p7
      have a6 : Wk 29 wr (w.heap.size + 1 + 1 + 1) (fun k => (#[.int .i64 0, .int .i64 0, .int .i64 0, .int .i64 0, .int .i64 0, .int .i64 0, .slice none 0 0, .int .i64 0, .int .i64 0, .slice none 0 0, .int .i64 0, .int .i64 0, .slice none 0 0, .int .i64 0, .int .i64 0, .slice none 0 0, .int .i64 0, .int .i64 0, .slice none 0 0, .int .i64 0, .int .i64 0, .slice none 0 0, .int .i64 0, .int .i64 0, .int .i64 0, .int .i64 0, .int .i64 0, .int .i64 0, .bool false] : Array Value).getD k undef) := ⟨_, _, p6r, by simp, fun k hk => by simp [Array.getD, hk]⟩
      have a7 : Wk 3 wr (w.heap.size + 1 + 1 + 1 + 1) (fun k => (#[.int .i64 0, .int .i64 0, .int .i64 0] : Array Value).getD k undef) := ⟨_, _, p7r, by simp, fun k hk => by simp [Array.getD, hk]⟩
      have hl6 := a6.lt
      have hl7 := a7.lt
      have hWr := hf.wk.lt
      have hsee : ∀ v, Mod (fun k => k = w.heap.size + 1 + 1 + 1 ∨ k = w.heap.size + 1 + 1 + 1 + 1) wr v → (outE s4).See v (fun i => .slice (xo' i) (s4.X i).length (xc' i)) (fun i => .slice (po' i) (s4.P i).length (pc' i)) := fun v hv i hi => by
        have q1 := (hSee i hi).1
        have q2 := (hSee i hi).2
        have n1 := (hne i hi).1
        have n2 := (hne i hi).2
        have k1 := q1.lt (by show 0 < (s4.X i).length; rw [(hlen i hi).1]; decide)
        have k2 := q2.lt (by show 0 < (s4.P i).length; rw [(hlen i hi).2]; decide)
        exact ⟨q1.agree hv.size fun k hk => hv.block k (k1 k hk) (by have := n1 k hk; omega), q2.agree hv.size fun k hk => hv.block k (k2 k hk) (by have := n2 k hk; omega)⟩
      have hwk := hf.wk
      clear hf hfx hev hSee hne p6r p7r
      have HL : Hid (∀ i, i < 3 → (s4.X i).length = 3 ∧ (s4.P i).length = 9) := hlen
      have HO : Hid (s4.lo = w0.heap.size) := hlo
      clear hlen hlo hSt
      go_wp2
      refine st9_region (W := w2.heap.size) (D6 := w.heap.size + 1 + 1 + 1) (D7 := w.heap.size + 1 + 1 + 1 + 1) (tu := s4.tu) (r := fun _ => 3) (c := fun _ => 1) (r' := fun _ => 3) (c' := fun _ => 3) (xo := xo') (xn := fun i => (s4.X i).length) (xc := xc') (po := po') (pn := fun i => (s4.P i).length) (pc := pc') (st := s4.st) (co := s4.co) (off := s4.off) (sat := s4.sat) (x0 := ge (s4.X 0) 0) (x1 := ge (s4.X 1) 0) (x2 := ge (s4.X 2) 0)
        (J := J9 (w.heap.size + 1 + 1 + 1) (w.heap.size + 1 + 1 + 1 + 1) [.int .i64 (s4.tu 0), .int .i64 (s4.tu 1), .int .i64 (s4.tu 2), .int .i64 (s4.tu 3), .int .i64 3, .int .i64 1, .slice (xo' 0) (s4.X 0).length (xc' 0), .int .i64 3, .int .i64 3, .slice (po' 0) (s4.P 0).length (pc' 0), .int .i64 3, .int .i64 1, .slice (xo' 1) (s4.X 1).length (xc' 1), .int .i64 3, .int .i64 3, .slice (po' 1) (s4.P 1).length (pc' 1), .int .i64 3, .int .i64 1, .slice (xo' 2) (s4.X 2).length (xc' 2), .int .i64 3, .int .i64 3, .slice (po' 2) (s4.P 2).length (pc' 2), .int .i64 s4.st, .int .i64 s4.co, .int .i64 (s4.off 0), .int .i64 (s4.off 1), .int .i64 (s4.off 2), .int .i64 (s4.off 3), .bool s4.sat] (fun i => ge (s4.X i) 0))
        (fun k hk => by rcases hk with hk | hk <;> (rw [hk]; assumption)) ⟨⟨_, a6.below (Below.refl _ _).drew, fun h => by cases h⟩, _, a7.below (Below.refl _ _).drew, fun h => by cases h⟩ (fun b b' v v' hv hm' => hv.more hl6 hl7 b b' v v' hm')
        (fun v hv j u hu => by
          have hc := hrg j u hu
          rw [World.cell?_of_block (w := wr) (w' := v) (hv.block w2.heap.size hWr (by omega))]; exact hc)
        (fun v hv hmv => places_any (outE s4) xo' po' xc' pc' v (fun i hi => (HL.out i hi).1) (hsee v hmv)) (fun v hv => hv.s5 rfl (by omega) v) (fun v hv => hv.s6 (by omega) v) ?_
      intro vs w5 m5 hJ5
      have hc := hJ5.cells rfl w5
      unfold st9Fr
      go_wp2
      refine bodyPost_ret (results_two rfl rfl rfl rfl hc.1 hc.2) rfl ?_
      rw [HS4.out]
      refine ⟨_, _, rfl, hsee w5 m5, HNE.out, ?_⟩
      exact (b04.trans (hmd.below (by have := b04.size; omega) (fun q hq => by have hq' : q = w2.heap.size := hq; omega))).trans (m5.below (by have := b04.size; have := hmd.size; omega) (fun q hq => by have hq' : q = w.heap.size + 1 + 1 + 1 ∨ q = w.heap.size + 1 + 1 + 1 + 1 := hq; omega))
    rcases (by omega : k = 0 ∨ k = 1 ∨ k = 2 ∨ k = 3) with rfl | rfl | rfl | rfl
    · have t2 := hol_same (preS (turS (begS w0.heap.size c e q)))
      have hu := turn_any w2.heap.size (begS w0.heap.size c e q) wr hSt HC.out.1 HC.out.2.1 hGr hW0
      have HT : Hid True := trivial
      clear t1 t2
      go_wp2_with fail
      refine hu.mono ?_
      rintro z wn ⟨rfl, hn, mn⟩
      clear hu
      go_wp2
      go_roundw
      case rel => exact ⟨0 + 1, by decide, by go_num, hn, hmd.trans mn⟩
      case measure => simp [intOf]
    · have t2 := hol_same (preS (turS (begS w0.heap.size c e q)))
      have hu := predict_any w2.heap.size (turS (begS w0.heap.size c e q)) wr hSt (by rw [t1.1]; exact HC.out.1) (by rw [t1.1]; exact HC.out.2.1)
      have HT : Hid True := trivial
      clear t1 t2
      go_wp2_with fail
      refine hu.mono ?_
      rintro z wn ⟨rfl, hn, mn⟩
      clear hu
      go_wp2
      go_roundw
      case rel => exact ⟨1 + 1, by decide, by go_num, hn, hmd.trans mn⟩
      case measure => simp [intOf]
    · have t2 := hol_same (preS (turS (begS w0.heap.size c e q)))
      have hu := hold_any w2.heap.size (preS (turS (begS w0.heap.size c e q))) wr hSt (by intro k hk; show 0 ≤ (turS (begS w0.heap.size c e q)).off k ∧ (turS (begS w0.heap.size c e q)).off k ≤ 1000; rw [t1.2.1]; exact HE.out.2.2.2.2 k hk) (by show 0 < (turS (begS w0.heap.size c e q)).c 3; rw [t1.1]; exact HC.out.2.2.1) (by show 0 < (turS (begS w0.heap.size c e q)).c 4; rw [t1.1]; exact HC.out.2.2.2)
      have HT : Hid True := trivial
      clear t1 t2
      go_wp2_with fail
      refine hu.mono ?_
      rintro z wn ⟨rfl, hn, mn⟩
      clear hu
      go_wp2
      go_roundw
      case rel => exact ⟨2 + 1, by decide, by go_num, hn, hmd.trans mn⟩
      case measure => simp [intOf]
    · have t2 := hol_same (preS (turS (begS w0.heap.size c e q)))
      have hu := count_any w2.heap.size (holS (preS (turS (begS w0.heap.size c e q)))) wr hSt (by rw [t2.1]; show 0 ≤ (turS (begS w0.heap.size c e q)).co; rw [t1.2.2.1]; exact HE.out.2.2.1) (by rw [t2.1]; show (turS (begS w0.heap.size c e q)).co ≤ 1000; rw [t1.2.2.1]; exact HE.out.2.2.2.1) (by rw [t2.2.1]; show 0 ≤ (turS (begS w0.heap.size c e q)).st; rw [t1.2.2.2.1]; exact HE.out.1) (by rw [t2.2.1]; show (turS (begS w0.heap.size c e q)).st ≤ 1099511627776; rw [t1.2.2.2.1]; exact HE.out.2.1)
      have HT : Hid True := trivial
      clear t1 t2
      go_wp2_with fail
      refine hu.mono ?_
      rintro z wn ⟨rfl, hn, mn⟩
      clear hu
      go_wp2
      go_roundw
      case rel => exact ⟨3 + 1, by decide, by go_num, hn, hmd.trans mn⟩
      case measure => simp [intOf]
end Go.Proofs.YtoefekkdjcflmaaGreatDoor.Et
namespace Go.Proofs.YtoefekkdjcflmaaGreatDoor.Et
open Go.RowKit Go.Sort Go.Proofs.YtoefekkdjcflmaaGreatDoor.Qm
def wlo (s : Sg) (l : Nat) : Sg := { s with lo := l }
theorem tu1_wlo (s : Sg) (l : Nat) : tu1 (wlo s l) = tu1 s := by unfold tu1; rfl
theorem fu1_wlo (s : Sg) (l : Nat) : fu1 (wlo s l) = fu1 s := by unfold fu1; rfl
theorem tu2_wlo (s : Sg) (l : Nat) : tu2 (wlo s l) = tu2 s := by unfold tu2; rw [tu1_wlo]; rfl
theorem fu2_wlo (s : Sg) (l : Nat) : fu2 (wlo s l) = fu2 s := by unfold fu2; rw [tu1_wlo]; rfl
theorem tu3_wlo (s : Sg) (l : Nat) : tu3 (wlo s l) = tu3 s := by unfold tu3; rw [tu2_wlo]
theorem fu3_wlo (s : Sg) (l : Nat) : fu3 (wlo s l) = fu3 s := by unfold fu3; rw [tu2_wlo]
theorem tu4_wlo (s : Sg) (l : Nat) : tu4 (wlo s l) = tu4 s := by funext k; unfold tu4; rw [tu3_wlo]; rfl
theorem fu4_wlo (s : Sg) (l : Nat) : fu4 (wlo s l) = fu4 s := by unfold fu4; rw [tu3_wlo]; rfl
theorem tur_wlo (s : Sg) (l : Nat) : turS (wlo s l) = wlo (turS s) l := by
  unfold turS
  show (if s.ms = true then _ else _) = wlo (if s.ms = true then _ else _) l
  by_cases h : s.ms = true
  · rw [if_pos h, if_pos h]
  · rw [if_neg h, if_neg h, tu3_wlo, tu4_wlo, fu1_wlo, fu2_wlo, fu3_wlo, fu4_wlo]
    generalize tu3 s = a1
    generalize tu4 s = a2
    generalize fu1 s = b1
    generalize fu2 s = b2
    generalize fu3 s = b3
    generalize fu4 s = b4
    rfl
theorem pre_wlo (s : Sg) (l : Nat) : preS (wlo s l) = wlo (preS s) l := rfl
theorem upd_wlo (s : Sg) (l i k : Nat) (z r : Int) : updS (wlo s l) i k z r = wlo (updS s i k z r) l := rfl
theorem gn_wlo (s : Sg) (l j : Nat) : gnS (wlo s l) j = wlo (gnS s j) l := by
  induction j with
  | zero => rfl
  | succ j ih => rw [gnS_succ, gnS_succ, ih, upd_wlo]; rfl
theorem ba_wlo (s : Sg) (l : Nat) : baS (wlo s l) = wlo (baS s) l := by
  unfold baS
  show (if s.hb = true then _ else _) = wlo (if s.hb = true then _ else _) l
  by_cases h : s.hb = true
  · rw [if_pos h, if_pos h]; rfl
  · rw [if_neg h, if_neg h]
theorem hol_wlo (s : Sg) (l : Nat) : holS (wlo s l) = wlo (holS s) l := by
  unfold holS
  rw [ba_wlo]
  show (if s.ms = true then _ else if (baS s).hg = true then _ else _) = wlo (if s.ms = true then _ else if (baS s).hg = true then _ else _) l
  by_cases h : s.ms = true
  · rw [if_pos h, if_pos h]
  · rw [if_neg h, if_neg h]
    by_cases h2 : (baS s).hg = true
    · rw [if_pos h2, if_pos h2]; exact gn_wlo (baS s) l 3
    · rw [if_neg h2, if_neg h2]
theorem cou_wlo (s : Sg) (l : Nat) : couS (wlo s l) = wlo (couS s) l := rfl
theorem stg_wlo (s : Sg) (l : Nat) : stgS (wlo s l) 4 = wlo (stgS s 4) l := by
  show couS (holS (preS (turS (wlo s l)))) = wlo (couS (holS (preS (turS s)))) l
  rw [tur_wlo, pre_wlo, hol_wlo, cou_wlo]
theorem out_lo (c : Nat → Int) (e : Es) (q : Sm) (l l' : Nat) : outE (stgS (begS l c e q) 4) = outE (stgS (begS l' c e q) 4) := by
  have h : begS l' c e q = wlo (begS l c e q) l' := rfl
  rw [h, stg_wlo]
  rfl
set_option maxRecDepth 20000 in
set_option maxHeartbeats 4000000 in
theorem rmay_any (c : Nat → Int) (w : World) : Calls Tryz.prog 12 #[.agg #[.int .i64 (c 0), .int .i64 (c 1), .int .i64 (c 2), .int .i64 (c 3), .int .i64 (c 4), .int .i64 (c 5)]] w fun e w' => e = .returned (.bool (mayB c)) ∧ Below w.heap.size w w' := by
  have g2 := (allocs2 w (.cells #[.int .i64 (c 0), .int .i64 (c 1), .int .i64 (c 2), .int .i64 (c 3), .int .i64 (c 4), .int .i64 (c 5)] 24) (.cells #[.int .i64 (c 0), .int .i64 (c 1), .int .i64 (c 2), .int .i64 (c 3), .int .i64 (c 4), .int .i64 (c 5)] 22)).2
  have bW := ball2 w (.cells #[.int .i64 (c 0), .int .i64 (c 1), .int .i64 (c 2), .int .i64 (c 3), .int .i64 (c 4), .int .i64 (c 5)] 24) (.cells #[.int .i64 (c 0), .int .i64 (c 1), .int .i64 (c 2), .int .i64 (c 3), .int .i64 (c 4), .int .i64 (c 5)] 22)
  have hwk : Wk 6 ((w.alloc (.cells #[.int .i64 (c 0), .int .i64 (c 1), .int .i64 (c 2), .int .i64 (c 3), .int .i64 (c 4), .int .i64 (c 5)] 24)).alloc (.cells #[.int .i64 (c 0), .int .i64 (c 1), .int .i64 (c 2), .int .i64 (c 3), .int .i64 (c 4), .int .i64 (c 5)] 22)) (w.heap.size + 1) (fun k => .int .i64 (c k)) := ⟨_, _, g2, by simp, fun k hk => by
    rcases (by omega : k = 0 ∨ k = 1 ∨ k = 2 ∨ k = 3 ∨ k = 4 ∨ k = 5) with rfl | rfl | rfl | rfl | rfl | rfl <;> rfl⟩
  go_enter Tryz.func12, Tryz.ntmps12
  go_wp2
  generalize (w.alloc (.cells #[.int .i64 (c 0), .int .i64 (c 1), .int .i64 (c 2), .int .i64 (c 3), .int .i64 (c 4), .int .i64 (c 5)] 24)).alloc (.cells #[.int .i64 (c 0), .int .i64 (c 1), .int .i64 (c 2), .int .i64 (c 3), .int .i64 (c 4), .int .i64 (c 5)] 22) = V at g2 bW hwk ⊢
  go_loop [4] (fun i => ∃ k : Nat, k ≤ 6 ∧ i = .int .i64 k ∧ Hid (Qm.anyB (fun j => cfB (c j)) k = false)) (fun i => 6 - (intOf i).toNat)
  case atStart => exact ⟨0, Nat.zero_le _, rfl, rfl⟩
  case round =>
    obtain ⟨k, hk, rfl, hno⟩ := hrel
    by_cases h6 : k < 6
    · have hc := hwk.cell h6 rfl
      have HC : Hid (cfB (c k) = true → mayB c = false) := fun h => by unfold mayB; rw [show Qm.anyB (fun j => cfB (c j)) 6 = true from anyB_hit h6 h]; rfl
      have HN : Hid (cfB (c k) = false → Qm.anyB (fun j => cfB (c j)) (k + 1) = false) := fun h => by rw [Qm.anyB, hno.out, h]; rfl
      obtain ⟨x, hx⟩ : ∃ x, c k = x := ⟨_, rfl⟩
      rw [hx] at hc HC HN
      clear hwk g2 hx
      by_cases hx1 : x < 1
      · have hb := HC.out (by unfold cfB; simp; omega)
        go_wp2
        go_ret
        exact ⟨rfl, bW⟩
      · by_cases hx2 : 17179869184 < x
        · have hb := HC.out (by unfold cfB; simp; omega)
          go_wp2
          go_ret
          exact ⟨rfl, bW⟩
        · have hb : Hid (Qm.anyB (fun j => cfB (c j)) (k + 1) = false) := HN.out (by unfold cfB; simp; omega)
          go_wp2
          go_round
          case rel => exact ⟨k + 1, by omega, by go_num, hb⟩
          case measure => simp [intOf]; omega
    · have e : k = 6 := by omega
      subst e
      have hb : mayB c = true := by unfold mayB; rw [hno.out]; rfl
      clear hwk g2
      go_wp2
      go_ret
      exact ⟨rfl, bW⟩
end Go.Proofs.YtoefekkdjcflmaaGreatDoor.Et

