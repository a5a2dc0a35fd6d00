/-
  Ends and packets in memory.
-/
import Derived.Test.YtbhgffbmeaomkaaLM
import Derived.Test.YtbhgffbmeaomkaaDW
import Derived.Test.YtbhgffbmeaomkaaDKo
import Derived.Laws.ResultCell
import Derived.Laws.Rows
import Derived.OwnWalk
import Derived.Deep.RegionHeld3
namespace Go.Proofs.Ytbhgffbmeaomkaa.Gr
open Go.RowKit Go.Sort Lm
set_option linter.unusedVariables false

/-- what an end shows -/
def SeesL (w : World) (v : Value) (l : Lk) : Prop := ∃ vs, v = .agg #[.int .i64 l.own, .int .i64 l.other, .int .i64 l.first, vs, .int .i64 l.next] ∧ SeesI w vs l.sent
/-- what a packet shows -/
def SeesP (w : World) (v : Value) (p : Pk) : Prop := ∃ vs, v = .agg #[.int .i64 p.frm, .int .i64 p.to, .int .i64 p.place, vs, .int .i64 p.wait] ∧ SeesI w vs p.words
theorem SeesL.below {w w' : World} {v : Value} {l : Lk} (h : SeesL w v l) (hb : Below w.heap.size w w') : SeesL w' v l := by
  obtain ⟨vs, e, h1⟩ := h
  exact ⟨vs, e, h1.below hb⟩
theorem SeesP.below {w w' : World} {v : Value} {l : Pk} (h : SeesP w v l) (hb : Below w.heap.size w w') : SeesP w' v l := by
  obtain ⟨vs, e, h1⟩ := h
  exact ⟨vs, e, h1.below hb⟩
theorem five_cells {w : World} {b : Nat} {x y z u v : Value} {t : TypeId} (h : w.heap[b]? = some (.cells #[x, y, z, u, v] t (0, 0))) : w.cell? ⟨b, 0, none⟩ = some x ∧ w.cell? ⟨b, 1, none⟩ = some y ∧ w.cell? ⟨b, 2, none⟩ = some z ∧ w.cell? ⟨b, 3, none⟩ = some u ∧ w.cell? ⟨b, 4, none⟩ = some v :=
  ⟨cell_of_tab h 0, cell_of_tab h 1, cell_of_tab h 2, cell_of_tab h 3, cell_of_tab h 4⟩
theorem gb_setC5 (w : World) (b k : Nat) (v : Value) : w.grownBy (w.setCell ⟨b, k, none⟩ v) (some b) :=
  ⟨rfl, rfl, rfl, by simp [World.setCell], fun j _ hn => heap_setCell_other w ⟨b, k, none⟩ j v (fun e => hn (by rw [e]))⟩
theorem not_frozen5 {w : World} {b : Nat} {cs : Array Value} {t : TypeId} (h : w.heap[b]? = some (.cells cs t (0, 0))) (k : Nat) : w.frozen? ⟨b, k, none⟩ = false := by simp [World.frozen?, h]
theorem set_five0 {w : World} {b : Nat} {x0 x1 x2 x3 x4 : Value} {t : TypeId} (h : w.heap[b]? = some (.cells #[x0, x1, x2, x3, x4] t (0, 0))) (v : Value) : (w.setCell ⟨b, 0, none⟩ v).heap[b]? = some (.cells #[v, x1, x2, x3, x4] t (0, 0)) := heap_setCell_same w b 0 _ t v h
theorem set_five1 {w : World} {b : Nat} {x0 x1 x2 x3 x4 : Value} {t : TypeId} (h : w.heap[b]? = some (.cells #[x0, x1, x2, x3, x4] t (0, 0))) (v : Value) : (w.setCell ⟨b, 1, none⟩ v).heap[b]? = some (.cells #[x0, v, x2, x3, x4] t (0, 0)) := heap_setCell_same w b 1 _ t v h
theorem set_five2 {w : World} {b : Nat} {x0 x1 x2 x3 x4 : Value} {t : TypeId} (h : w.heap[b]? = some (.cells #[x0, x1, x2, x3, x4] t (0, 0))) (v : Value) : (w.setCell ⟨b, 2, none⟩ v).heap[b]? = some (.cells #[x0, x1, v, x3, x4] t (0, 0)) := heap_setCell_same w b 2 _ t v h
theorem set_five3 {w : World} {b : Nat} {x0 x1 x2 x3 x4 : Value} {t : TypeId} (h : w.heap[b]? = some (.cells #[x0, x1, x2, x3, x4] t (0, 0))) (v : Value) : (w.setCell ⟨b, 3, none⟩ v).heap[b]? = some (.cells #[x0, x1, x2, v, x4] t (0, 0)) := heap_setCell_same w b 3 _ t v h
theorem set_five4 {w : World} {b : Nat} {x0 x1 x2 x3 x4 : Value} {t : TypeId} (h : w.heap[b]? = some (.cells #[x0, x1, x2, x3, x4] t (0, 0))) (v : Value) : (w.setCell ⟨b, 4, none⟩ v).heap[b]? = some (.cells #[x0, x1, x2, x3, v] t (0, 0)) := heap_setCell_same w b 4 _ t v h
theorem set_all5 {w : World} {b : Nat} {x0 x1 x2 x3 x4 : Value} {t : TypeId} (h : w.heap[b]? = some (.cells #[x0, x1, x2, x3, x4] t (0, 0))) (y0 y1 y2 y3 y4 : Value) : (World.heap (((((w.setCell ⟨b, 0, none⟩ y0).setCell ⟨b, 1, none⟩ y1).setCell ⟨b, 2, none⟩ y2).setCell ⟨b, 3, none⟩ y3).setCell ⟨b, 4, none⟩ y4))[b]? = some (.cells #[y0, y1, y2, y3, y4] t (0, 0)) :=
  set_five4 (set_five3 (set_five2 (set_five1 (set_five0 h y0) y1) y2) y3) y4
theorem gb_all5 (w : World) (b : Nat) (y0 y1 y2 y3 y4 : Value) : w.grownBy (((((w.setCell ⟨b, 0, none⟩ y0).setCell ⟨b, 1, none⟩ y1).setCell ⟨b, 2, none⟩ y2).setCell ⟨b, 3, none⟩ y3).setCell ⟨b, 4, none⟩ y4) (some b) :=
  gb_trans (gb_trans (gb_trans (gb_trans (gb_setC5 w b 0 y0) (gb_setC5 _ b 1 y1)) (gb_setC5 _ b 2 y2)) (gb_setC5 _ b 3 y3)) (gb_setC5 _ b 4 y4)
theorem cell_all5 (u : World) {B C : Nat} (h : B ≠ C) (k : Nat) (y0 y1 y2 y3 y4 : Value) : World.cell? (((((u.setCell ⟨C, 0, none⟩ y0).setCell ⟨C, 1, none⟩ y1).setCell ⟨C, 2, none⟩ y2).setCell ⟨C, 3, none⟩ y3).setCell ⟨C, 4, none⟩ y4) ⟨B, k, none⟩ = u.cell? ⟨B, k, none⟩ := by
  have h' : C ≠ B := fun e => h e.symm
  rw [World.cell?_setCell_far _ ⟨C, 4, none⟩ ⟨B, k, none⟩ y4 h', World.cell?_setCell_far _ ⟨C, 3, none⟩ ⟨B, k, none⟩ y3 h', World.cell?_setCell_far _ ⟨C, 2, none⟩ ⟨B, k, none⟩ y2 h', World.cell?_setCell_far _ ⟨C, 1, none⟩ ⟨B, k, none⟩ y1 h', World.cell?_setCell_far _ ⟨C, 0, none⟩ ⟨B, k, none⟩ y0 h']
/-- five cells are kept by a store of five others -/
theorem five_keep {u : World} {B C : Nat} (hn : Hid (B ≠ C)) {x0 x1 x2 x3 x4 : Value} (h : u.cell? ⟨B, 0, none⟩ = some x0 ∧ u.cell? ⟨B, 1, none⟩ = some x1 ∧ u.cell? ⟨B, 2, none⟩ = some x2 ∧ u.cell? ⟨B, 3, none⟩ = some x3 ∧ u.cell? ⟨B, 4, none⟩ = some x4) (y0 y1 y2 y3 y4 : Value) :
    World.cell? (((((u.setCell ⟨C, 0, none⟩ y0).setCell ⟨C, 1, none⟩ y1).setCell ⟨C, 2, none⟩ y2).setCell ⟨C, 3, none⟩ y3).setCell ⟨C, 4, none⟩ y4) ⟨B, 0, none⟩ = some x0 ∧ World.cell? (((((u.setCell ⟨C, 0, none⟩ y0).setCell ⟨C, 1, none⟩ y1).setCell ⟨C, 2, none⟩ y2).setCell ⟨C, 3, none⟩ y3).setCell ⟨C, 4, none⟩ y4) ⟨B, 1, none⟩ = some x1 ∧ World.cell? (((((u.setCell ⟨C, 0, none⟩ y0).setCell ⟨C, 1, none⟩ y1).setCell ⟨C, 2, none⟩ y2).setCell ⟨C, 3, none⟩ y3).setCell ⟨C, 4, none⟩ y4) ⟨B, 2, none⟩ = some x2 ∧ World.cell? (((((u.setCell ⟨C, 0, none⟩ y0).setCell ⟨C, 1, none⟩ y1).setCell ⟨C, 2, none⟩ y2).setCell ⟨C, 3, none⟩ y3).setCell ⟨C, 4, none⟩ y4) ⟨B, 3, none⟩ = some x3 ∧ World.cell? (((((u.setCell ⟨C, 0, none⟩ y0).setCell ⟨C, 1, none⟩ y1).setCell ⟨C, 2, none⟩ y2).setCell ⟨C, 3, none⟩ y3).setCell ⟨C, 4, none⟩ y4) ⟨B, 4, none⟩ = some x4 := by
  rw [cell_all5 u hn.out 0, cell_all5 u hn.out 1, cell_all5 u hn.out 2, cell_all5 u hn.out 3, cell_all5 u hn.out 4]
  exact h
theorem undLk : ∃ fs, Try.prog.underlying 24 = some (.struct fs) := by
  refine ⟨((Try.prog.underlying 24).getD .bool |> fun d => match d with | .struct fs => fs | _ => #[]), ?_⟩
  kernel_rfl
theorem sizeLk : (Try.prog.info? 24).map (·.size) = some 5 := by kernel_rfl
theorem undPk : ∃ fs, Try.prog.underlying 26 = some (.struct fs) := by
  refine ⟨((Try.prog.underlying 26).getD .bool |> fun d => match d with | .struct fs => fs | _ => #[]), ?_⟩
  kernel_rfl
theorem sizePk : (Try.prog.info? 26).map (·.size) = some 5 := by kernel_rfl
theorem results_lk2 {fn : Func} {p q : Tmp} (h : fn.results = #[.cell p 24, .tmp q]) (tmps : Array Value) (w : World) (g : Nat) (t : TypeId) (x y z u v r : Value) (hp : tmps.getD p undef = .pointer (some ⟨g, 0, none⟩)) (hq : tmps.getD q undef = r) (hg : w.heap[g]? = some (.cells #[x, y, z, u, v] t (0, 0))) :
    (results fn tmps).run Try.prog w = .ok (.tuple #[.agg #[x, y, z, u, v], r]) w := by
  obtain ⟨fs, hu⟩ := undLk
  rw [results_cell_tmp h, hp, hq]
  simp [asAddr, run_loadVar_row w g t 24 _ _ _ hg hu rfl sizeLk, Result.andThen]
theorem results_lk {fn : Func} {p : Tmp} (h : fn.results = #[.cell p 24]) (tmps : Array Value) (w : World) (g : Nat) (t : TypeId) (x y z u v : Value) (hp : tmps.getD p undef = .pointer (some ⟨g, 0, none⟩)) (hg : w.heap[g]? = some (.cells #[x, y, z, u, v] t (0, 0))) :
    (results fn tmps).run Try.prog w = .ok (.agg #[x, y, z, u, v]) w := by
  obtain ⟨fs, hu⟩ := undLk
  exact results_cell_row h tmps w g t _ _ _ hp hg hu rfl sizeLk
theorem results_pk {fn : Func} {p : Tmp} (h : fn.results = #[.cell p 26]) (tmps : Array Value) (w : World) (g : Nat) (t : TypeId) (x y z u v : Value) (hp : tmps.getD p undef = .pointer (some ⟨g, 0, none⟩)) (hg : w.heap[g]? = some (.cells #[x, y, z, u, v] t (0, 0))) :
    (results fn tmps).run Try.prog w = .ok (.agg #[x, y, z, u, v]) w := by
  obtain ⟨fs, hu⟩ := undPk
  exact results_cell_row h tmps w g t _ _ _ hp hg hu rfl sizePk
theorem heaps2' (w : World) (o1 o2 : Obj) : ((w.alloc o1).alloc o2).heap[w.heap.size]? = some o1 ∧ ((w.alloc o1).alloc o2).heap[w.heap.size + 1]? = some o2 := by
  have h1 := heap_old (heap_new w o1) o2
  have h2 := heap_new (w.alloc o1) o2
  have z1 : (w.alloc o1).heap.size = w.heap.size + 1 := by simp
  rw [z1] at h2
  exact ⟨h1, h2⟩
theorem heaps3' (w : World) (o1 o2 o3 : Obj) : (((w.alloc o1).alloc o2).alloc o3).heap[w.heap.size]? = some o1 ∧ (((w.alloc o1).alloc o2).alloc o3).heap[w.heap.size + 1]? = some o2 ∧ (((w.alloc o1).alloc o2).alloc o3).heap[w.heap.size + 1 + 1]? = some o3 := by
  have h1 := heap_old (heap_old (heap_new w o1) o2) o3
  have h2 := heap_old (heap_new (w.alloc o1) o2) o3
  have h3 := heap_new ((w.alloc o1).alloc o2) o3
  have z1 : (w.alloc o1).heap.size = w.heap.size + 1 := by simp
  have z2 : ((w.alloc o1).alloc o2).heap.size = w.heap.size + 1 + 1 := by simp
  rw [z1] at h2
  rw [z2] at h3
  exact ⟨h1, h2, h3⟩
end Go.Proofs.Ytbhgffbmeaomkaa.Gr
