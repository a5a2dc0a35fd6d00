/-
  Worlds: four numbers in a block; what a call leaves of the world. The contract of quat.told, over whatever function tells the numbers.
-/
import Derived.Test.YtgekignonjfaiaaDoorMul
import Derived.Laws.EntriesVeiled
import Derived.Deep.QuietTactic
import Derived.BigQuiet
import Derived.Lib.QuietBelow
import Derived.Deep.RegionWith
import Derived.OneCell
namespace Go.Proofs.YtgekignonjfaiaaDoor
open Go.RowKit Go.Sort Qm

namespace Qm
/-- was one of the first n so? -/
def anyB (o : Nat → Bool) : Nat → Bool
  | 0 => false
  | n + 1 => anyB o n || o n
/-- four numbers, of which the first k are told -/
def q4 (p : Nat → Int) (k : Nat) : Array Value := #[.int .i64 (if 0 < k then p 0 else 0), .int .i64 (if 1 < k then p 1 else 0), .int .i64 (if 2 < k then p 2 else 0), .int .i64 (if 3 < k then p 3 else 0)]
theorem q4_0 (p : Nat → Int) : q4 p 0 = #[.int .i64 0, .int .i64 0, .int .i64 0, .int .i64 0] := rfl
theorem q4_4 (p : Nat → Int) : q4 p 4 = #[.int .i64 (p 0), .int .i64 (p 1), .int .i64 (p 2), .int .i64 (p 3)] := rfl
end Qm

theorem keep {w w' : World} {b : Nat} {o : Obj} (hb : Below w.heap.size w w') (h : w.heap[b]? = some o) : w'.heap[b]? = some o := (hb.block b (lt_of_block h)).trans h
theorem heap_old {w : World} {b : Nat} {x : Obj} (h : w.heap[b]? = some x) (o : Obj) : (w.alloc o).heap[b]? = some x := (Below.heap_alloc _ _ _ (lt_of_block h)).trans h
theorem heap_new (w : World) (o : Obj) : (w.alloc o).heap[w.heap.size]? = some o := heap_alloc_new w o
theorem allocs2 (w : World) (o1 o2 : Obj) : ((w.alloc o1).alloc o2).heap[w.heap.size]? = some o1 ∧ ((w.alloc o1).alloc o2).heap[w.heap.size + 1]? = some o2 :=
  ⟨heap_old (heap_new w o1) o2, by have h := heap_new (w.alloc o1) o2; simpa using h⟩
theorem allocs3 (w : World) (o1 o2 o3 : Obj) : (((w.alloc o1).alloc o2).alloc o3).heap[w.heap.size]? = some o1 ∧ (((w.alloc o1).alloc o2).alloc o3).heap[w.heap.size + 1]? = some o2 ∧ (((w.alloc o1).alloc o2).alloc o3).heap[w.heap.size + 1 + 1]? = some o3 :=
  ⟨heap_old (allocs2 w o1 o2).1 o3, heap_old (allocs2 w o1 o2).2 o3, by have h := heap_new ((w.alloc o1).alloc o2) o3; simpa using h⟩
theorem ball1 (w : World) (o1 : Obj) : Below w.heap.size w (w.alloc o1) := (Below.refl _ _).alloc (Nat.le_refl _) _
theorem ball2 (w : World) (o1 o2 : Obj) : Below w.heap.size w ((w.alloc o1).alloc o2) := (ball1 w o1).alloc (by simp) _
theorem ball3 (w : World) (o1 o2 o3 : Obj) : Below w.heap.size w (((w.alloc o1).alloc o2).alloc o3) := (ball2 w o1 o2).alloc (by simp; omega) _

/-- the cells of four -/
theorem four_cells {w : World} {b : Nat} {x y z u : Value} {t : TypeId} (h : w.heap[b]? = some (.cells #[x, y, z, u] t (0, 0))) :
    w.cell? ⟨b, 0, none⟩ = some x ∧ w.cell? ⟨b, 1, none⟩ = some y ∧ w.cell? ⟨b, 2, none⟩ = some z ∧ w.cell? ⟨b, 3, none⟩ = some u ∧ w.frozen? ⟨b, 0, none⟩ = false ∧ w.frozen? ⟨b, 1, none⟩ = false ∧ w.frozen? ⟨b, 2, none⟩ = false ∧ w.frozen? ⟨b, 3, none⟩ = false := by
  simp [World.cell?, World.frozen?, h]
theorem q4_cell {w : World} {b k : Nat} {p : Nat → Int} {t : TypeId} (h : w.heap[b]? = some (.cells (q4 p k) t (0, 0))) (hk : k < 4) : w.cell? ⟨b, k, none⟩ = some (.int .i64 0) := by
  have hk4 : k = 0 ∨ k = 1 ∨ k = 2 ∨ k = 3 := by omega
  rcases hk4 with rfl | rfl | rfl | rfl <;> simp [World.cell?, h, q4]
theorem q4_free {w : World} {b k : Nat} {cs : Array Value} {t : TypeId} (h : w.heap[b]? = some (.cells cs t (0, 0))) : w.frozen? ⟨b, k, none⟩ = false := by simp [World.frozen?, h]
theorem q4_set {w : World} {b k : Nat} {p : Nat → Int} {t : TypeId} (h : w.heap[b]? = some (.cells (q4 p k) t (0, 0))) (hk : k < 4) :
    (w.setCell ⟨b, k, none⟩ (.int .i64 (p k))).heap[b]? = some (.cells (q4 p (k + 1)) t (0, 0)) := by
  rw [heap_setCell_same w b k _ t _ h]
  have hk4 : k = 0 ∨ k = 1 ∨ k = 2 ∨ k = 3 := by omega
  rcases hk4 with rfl | rfl | rfl | rfl <;> simp [q4]
theorem set_other {w : World} {b c k : Nat} {v : Value} {o : Obj} (h : w.heap[b]? = some o) (hn : b ≠ c) : (w.setCell ⟨c, k, none⟩ v).heap[b]? = some o := by
  rw [Below.heap_setCell _ _ _ _ hn]; exact h

/-- what the loop of told keeps -/
def TI (w : World) (p : Nat → Int) (k : Nat) (wr : World) : Prop :=
  wr.heap[w.heap.size]? = some (.cells (q4 p 0) 23 (0, 0)) ∧ wr.heap[w.heap.size + 1]? = some (.cells (q4 p k) 23 (0, 0)) ∧ Below w.heap.size w wr
theorem TI.step {w wr wx : World} {p : Nat → Int} {k : Nat} (h : TI w p k wr) (hb : Below wr.heap.size wr wx) (hk : k < 4) : TI w p (k + 1) (wx.setCell ⟨w.heap.size + 1, k, none⟩ (.int .i64 (p k))) :=
  ⟨set_other (keep hb h.1) (by omega), q4_set (keep hb h.2.1) hk, ((h.2.2.trans (hb.mono h.2.2.size))).setCell (Nat.le_succ _) _⟩

set_option maxHeartbeats 1000000 in
theorem told_any (G : Nat) (hG : ∀ (args : Array Value) (a : World), Sem.run Tryd.prog (callFunc G args) a = Result.ok (Next.enter G args) a) (caps : Array Value) (p : Nat → Int) (x : Nat → Bool) (w : World)
    (hcall : ∀ (k : Nat) a, k < 4 → Below w.heap.size w a → Calls Tryd.prog G (#[.int .i64 k] ++ caps) a (fun e b => e = .returned (.tuple #[.int .i64 (p k), .bool (x k)]) ∧ Below a.heap.size a b)) :
    Calls Tryd.prog 25 #[.func (.func G) #[] caps] w fun e b => e = .returned (.tuple #[.agg #[.int .i64 (p 0), .int .i64 (p 1), .int .i64 (p 2), .int .i64 (p 3)], .bool (anyB x 4)]) ∧ Below w.heap.size w b := by
  go_enter Tryd.func25, Tryd.ntmps25
  go_wp2
  go_loopw [5, 10] (fun m i wr => ∃ k : Nat, k ≤ 4 ∧ i = .int .i64 k ∧ m = .bool (anyB x k) ∧ TI w p k wr) (fun _ i _ => 4 - (intOf i).toNat)
  case atStart =>
    obtain ⟨h1, h2⟩ := allocs2 w (.cells (q4 p 0) 23) (.cells (q4 p 0) 23)
    exact ⟨0, Nat.zero_le _, rfl, rfl, h1, h2, ball2 _ _ _⟩
  case round =>
    obtain ⟨k, hk, rfl, rfl, hti⟩ := hrel
    by_cases hlt : k < 4
    · have hc1 := hcall k wr hlt hti.2.2
      have HM : Hid (anyB x (k + 1) = (anyB x k || x k)) := rfl
      obtain ⟨M, hM⟩ : ∃ M, anyB x k = M := ⟨_, rfl⟩
      obtain ⟨X, hX⟩ : ∃ X, x k = X := ⟨_, rfl⟩
      rw [hM, hX] at HM
      rw [hX] at hc1
      rw [hM]
      clear hM hX
      cases M
      all_goals
        go_wp2_with (refine Calls.mono hc1 ?_; rintro e wx ⟨rfl, bx⟩; have c1 := q4_cell (keep bx hti.2.1) hlt; have c2 := q4_free (k := k) (keep bx hti.2.1))
        go_roundw
        case rel => exact ⟨k + 1, by omega, by go_num, by rw [HM.out]; rfl, hti.step bx hlt⟩
        case measure => simp [intOf]; omega
    · have e : k = 4 := by omega
      subst e
      obtain ⟨a0, a1, a2, a3, f0, f1, f2, f3⟩ := four_cells (q4_0 p ▸ hti.1)
      obtain ⟨b0, b1, b2, b3, _, _, _, _⟩ := four_cells (q4_4 p ▸ hti.2.1)
      have hb := hti.2.2
      clear hti
      go_wp2
      refine bodyPost_ret (v := .tuple #[.agg #[.int .i64 (p 0), .int .i64 (p 1), .int .i64 (p 2), .int .i64 (p 3)], .bool (anyB x 4)]) (by simp [results, Tryd.results25, go_sem, a0, a1, a2, a3]) rfl ?_
      exact ⟨rfl, (((hb.setCell (Nat.le_refl _) _).setCell (Nat.le_refl _) _).setCell (Nat.le_refl _) _).setCell (Nat.le_refl _) _⟩
end Go.Proofs.YtgekignonjfaiaaDoor
