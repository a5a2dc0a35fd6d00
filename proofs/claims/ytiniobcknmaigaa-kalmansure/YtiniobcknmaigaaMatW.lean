/-
  Worlds: what a slice of numbers shows, and a matrix; what a call leaves of the world.
-/
import Derived.Test.YtiniobcknmaigaaBase
import Derived.Test.YtiniobcknmaigaaMatM
namespace Go.Proofs.Ytiniobcknmaigaa
open Go.RowKit Qm

/-- what stands at place k -/
def Qm.ge (xs : List Int) (k : Nat) : Int := xs.getD k 0
theorem Qm.ge_tab {u : Nat → Int} {n k : Nat} (h : k < n) : ge (tab u n) k = u k := tab_get h
theorem Qm.tab_ge {u : Nat → Int} {xs : List Int} {n : Nat} (h : xs.length = n) (g : ∀ k, k < n → u k = ge xs k) : tab u n = xs := tab_eq h g

theorem Try.under22 : Try.prog.underlying 22 = some (.slice 41) := by kernel_rfl
theorem Try.info33 : (Try.prog.info? 41).map (fun i => (i.zero, i.size, i.bytes)) = some (some (.int .i64 0), 1, 8) := by kernel_rfl

/-- what a slice of numbers shows -/
def Sees (w : World) (v : Value) (xs : List Int) : Prop :=
  ∃ ao cap, v = .slice ao xs.length cap ∧ ∀ k, k < xs.length → ∃ ad, ao = some ad ∧ ad.block < w.heap.size ∧ w.cell? (ad.add k) = some (.int .i64 (ge xs k))

theorem add_block (a : Addr) (k : Nat) : (a.add k).block = a.block := by unfold Addr.add; split <;> rfl

theorem Sees.below {w w' : World} {v : Value} {xs : List Int} (h : Sees w v xs) (hb : Below w.heap.size w w') : Sees w' v xs := by
  obtain ⟨ao, cap, hv, hc⟩ := h
  refine ⟨ao, cap, hv, fun k hk => ?_⟩
  obtain ⟨ad, ha, hl, hcell⟩ := hc k hk
  exact ⟨ad, ha, Nat.lt_of_lt_of_le hl hb.size, by rw [hb.cell (by rw [add_block]; exact hl)]; exact hcell⟩

theorem Sees.own {w : World} {base n : Nat} {v : Value} {xs : List Int} (h : w.ownsRow base 41 1 v n (xs.map (Value.int .i64))) : Sees w v xs := by
  have hn : n = xs.length := by have := h.1; simp at this; omega
  subst hn
  rcases h.2 with ⟨rfl, h0⟩ | ⟨g, cap, cur, rfl, hb, hg, _⟩
  · exact ⟨none, 0, by rw [h0], fun k hk => by omega⟩
  · refine ⟨_, cap, rfl, fun k hk => ⟨_, rfl, (Array.getElem?_eq_some_iff.1 hg).1, ?_⟩⟩
    exact h.cells (g := g) rfl k _ (by rw [List.getElem?_map]; unfold ge; rw [List.getD_eq_getElem?_getD, List.getElem?_eq_getElem hk]; rfl)

theorem gb_refl (w : World) (row : Option Nat) : w.grownBy w row := ⟨rfl, rfl, rfl, Nat.le_refl _, fun _ _ _ => rfl⟩
theorem gb_trans {a b c : World} {row : Option Nat} (h : a.grownBy b row) (k : b.grownBy c row) : a.grownBy c row :=
  ⟨k.os.trans h.os, k.tape.trans h.tape, k.output.trans h.output, Nat.le_trans h.size k.size, fun i hi hn => (k.block i (Nat.lt_of_lt_of_le hi h.size) hn).trans (h.block i hi hn)⟩
theorem gb_below {w w' : World} (row : Option Nat) (h : Below w.heap.size w w') : w.grownBy w' row := ⟨h.os, h.tape, h.output, h.size, fun k hk _ => h.block k hk⟩
theorem below_gb {B : Nat} {w w' : World} {row : Option Nat} (h : w.grownBy w' row) (hB : B ≤ w.heap.size) (hr : ∀ k, row = some k → B ≤ k) : Below B w w' := (Below.refl B w).grown h hB hr
theorem gb_none {w w' : World} (h : w.grownBy w' none) : Below w.heap.size w w' := below_gb h (Nat.le_refl _) (fun k e => by cases e)
/-- two steps: old memory as it was -/
theorem bt {a b c : World} (h : Below a.heap.size a b) (k : Below b.heap.size b c) : Below a.heap.size a c := h.trans (k.mono h.size)

/-- old cells behind a new block -/
theorem old_cell {w : World} {b k : Nat} {v : Value} (h : w.cell? ⟨b, k, none⟩ = some v) (hb : b < w.heap.size) (x : Obj) : (w.alloc x).cell? ⟨b, k, none⟩ = some v :=
  (((Below.refl _ _).alloc (Nat.le_refl _) x).cell (p := ⟨b, k, none⟩) hb).trans h
theorem old_free {w : World} {b k : Nat} (h : w.frozen? ⟨b, k, none⟩ = false) (hb : b < w.heap.size) (x : Obj) : (w.alloc x).frozen? ⟨b, k, none⟩ = false :=
  (((Below.refl _ _).alloc (Nat.le_refl _) x).frozen (p := ⟨b, k, none⟩) hb).trans h
theorem old_mat {w : World} {b : Nat} {x y z : Value} {t : TypeId} (h : w.heap[b]? = some (.cells #[x, y, z] t (0, 0))) (o : Obj) : (w.alloc o).heap[b]? = some (.cells #[x, y, z] t (0, 0)) := by
  rw [Below.heap_alloc _ _ _ (lt_of_block h)]; exact h
theorem mat_cells {w : World} {b : Nat} {x y z : Value} {t : TypeId} (h : w.heap[b]? = some (.cells #[x, y, z] t (0, 0))) :
    w.cell? ⟨b, 0, none⟩ = some x ∧ w.cell? ⟨b, 1, none⟩ = some y ∧ w.cell? ⟨b, 2, none⟩ = some z ∧ w.frozen? ⟨b, 0, none⟩ = false ∧ w.frozen? ⟨b, 1, none⟩ = false ∧ w.frozen? ⟨b, 2, none⟩ = false := by
  simp [World.cell?, World.frozen?, h]

/-- a slice that lies in memory from B on -/
def New (B : Nat) (v : Value) : Prop := ∀ k, v.ownBlock = some k → B ≤ k
theorem New.mono {B B' : Nat} {v : Value} (h : New B v) (hb : B' ≤ B) : New B' v := fun k e => Nat.le_trans hb (h k e)
theorem New.own {w : World} {base e size n : Nat} {v : Value} {xs : List Value} (h : w.ownsRow base e size v n xs) : New base v := fun k e => (h.lt k e).1
theorem Sees.set {w : World} {v : Value} {xs : List Int} {B : Nat} (h : Sees w v xs) (hn : New B v) {a : Addr} (ha : a.block < B) (u : Value) : Sees (w.setCell a u) v xs := by
  obtain ⟨ao, cap, hv, hc⟩ := h
  refine ⟨ao, cap, hv, fun k hk => ?_⟩
  obtain ⟨ad, rfl, hl, hcell⟩ := hc k hk
  subst hv
  have h1 : B ≤ ad.block := hn ad.block rfl
  refine ⟨ad, rfl, by simpa [World.setCell] using hl, ?_⟩
  rw [World.cell?_of_block (w := w) (Below.heap_setCell _ _ _ _ (by rw [add_block]; omega))]; exact hcell
theorem Sees.put {w : World} {v : Value} {xs : List Int} {B D : Nat} (h : Sees w v xs) (hn : New B v) (hD : D < B) (x y z : Value) :
    Sees (((w.setCell ⟨D, 0, none⟩ x).setCell ⟨D, 1, none⟩ y).setCell ⟨D, 2, none⟩ z) v xs := ((h.set hn hD x).set hn hD y).set hn hD z
theorem Sees.drew {w : World} {v : Value} {xs : List Int} (h : Sees w v xs) : Sees w.drew v xs := h.below (Below.refl _ _).drew
theorem Sees.alloc {w : World} {v : Value} {xs : List Int} (h : Sees w v xs) (o : Obj) : Sees (w.alloc o) v xs := h.below ((Below.refl _ _).alloc (Nat.le_refl _) o)
theorem Sees.slice {w : World} {v : Value} {xs : List Int} (h : Sees w v xs) : ∃ ao cap, v = .slice ao xs.length cap := let ⟨ao, cap, hv, _⟩ := h; ⟨ao, cap, hv⟩
theorem below_put {B D : Nat} {w a : World} (h : Below B w a) (hD : B ≤ D) (x y z : Value) : Below B w (((a.setCell ⟨D, 0, none⟩ x).setCell ⟨D, 1, none⟩ y).setCell ⟨D, 2, none⟩ z) :=
  ((h.setCell hD x).setCell hD y).setCell hD z

theorem keep {w w' : World} {b : Nat} {o : Obj} (hb : Below w.heap.size w w') (h : w.heap[b]? = some o) : w'.heap[b]? = some o := (hb.block b (lt_of_block h)).trans h
theorem heap_old {w : World} {b : Nat} {x : Obj} (h : w.heap[b]? = some x) (o : Obj) : (w.alloc o).heap[b]? = some x := (Below.heap_alloc _ _ _ (lt_of_block h)).trans h
theorem heap_new (w : World) (o : Obj) : (w.alloc o).heap[w.heap.size]? = some o := heap_alloc_new w o
theorem allocs2 (w : World) (o1 o2 : Obj) : ((w.alloc o1).alloc o2).heap[w.heap.size]? = some o1 ∧ ((w.alloc o1).alloc o2).heap[w.heap.size + 1]? = some o2 :=
  ⟨heap_old (heap_new w o1) o2, by have h := heap_new (w.alloc o1) o2; simpa using h⟩
theorem allocs3 (w : World) (o1 o2 o3 : Obj) : (((w.alloc o1).alloc o2).alloc o3).heap[w.heap.size]? = some o1 ∧ (((w.alloc o1).alloc o2).alloc o3).heap[w.heap.size + 1]? = some o2 ∧ (((w.alloc o1).alloc o2).alloc o3).heap[w.heap.size + 1 + 1]? = some o3 :=
  ⟨heap_old (allocs2 w o1 o2).1 o3, heap_old (allocs2 w o1 o2).2 o3, by have h := heap_new ((w.alloc o1).alloc o2) o3; simpa using h⟩
theorem allocs4 (w : World) (o1 o2 o3 o4 : Obj) : ((((w.alloc o1).alloc o2).alloc o3).alloc o4).heap[w.heap.size]? = some o1 ∧ ((((w.alloc o1).alloc o2).alloc o3).alloc o4).heap[w.heap.size + 1]? = some o2 ∧ ((((w.alloc o1).alloc o2).alloc o3).alloc o4).heap[w.heap.size + 1 + 1]? = some o3 ∧ ((((w.alloc o1).alloc o2).alloc o3).alloc o4).heap[w.heap.size + 1 + 1 + 1]? = some o4 :=
  ⟨heap_old (allocs3 w o1 o2 o3).1 o4, heap_old (allocs3 w o1 o2 o3).2.1 o4, heap_old (allocs3 w o1 o2 o3).2.2 o4, by have h := heap_new (((w.alloc o1).alloc o2).alloc o3) o4; simpa using h⟩
theorem ball2 (w : World) (o1 o2 : Obj) : Below w.heap.size w ((w.alloc o1).alloc o2) := ((Below.refl _ _).alloc (Nat.le_refl _) _).alloc (by simp) _
theorem ball3 (w : World) (o1 o2 o3 : Obj) : Below w.heap.size w (((w.alloc o1).alloc o2).alloc o3) := (ball2 w o1 o2).alloc (by simp; omega) _
theorem ball4 (w : World) (o1 o2 o3 o4 : Obj) : Below w.heap.size w ((((w.alloc o1).alloc o2).alloc o3).alloc o4) := (ball3 w o1 o2 o3).alloc (by simp; omega) _

end Go.Proofs.Ytiniobcknmaigaa
