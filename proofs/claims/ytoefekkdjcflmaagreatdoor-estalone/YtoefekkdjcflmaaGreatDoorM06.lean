/- Parts of the proof. -/
import Derived.ChangeOld
import Derived.ChangeSlices
import Derived.DataShut
import Derived.OpenShut
import Derived.Test.YtoefekkdjcflmaaGreatDoorM01
namespace Go.Proofs.YtoefekkdjcflmaaGreatDoor.Qm
def tab {α : Type} (u : Nat → α) (n : Nat) : List α := (List.range n).map u
theorem tab_len {α : Type} (u : Nat → α) (n : Nat) : (tab u n).length = n := by simp [tab]
theorem tab_zero {α : Type} (u : Nat → α) : tab u 0 = [] := rfl
theorem tab_succ {α : Type} (u : Nat → α) (n : Nat) : tab u (n + 1) = tab u n ++ [u n] := by simp [tab, List.range_succ]
theorem tab_getElem {α : Type} (u : Nat → α) (n k : Nat) (h : k < (tab u n).length) : (tab u n)[k] = u k := by simp [tab]
theorem tab_get {u : Nat → Int} {n k : Nat} (h : k < n) : (tab u n).getD k 0 = u k := by
  rw [List.getD_eq_getElem?_getD, List.getElem?_eq_getElem (by rw [tab_len]; exact h), tab_getElem]; rfl
theorem tab_congr {α : Type} {u v : Nat → α} {n : Nat} (h : ∀ k, k < n → u k = v k) : tab u n = tab v n := by
  unfold tab; apply List.map_congr_left; intro k hk; exact h k (List.mem_range.1 hk)
theorem tab_set {α : Type} (u : Nat → α) (n p : Nat) (x : α) : (tab u n).set p x = tab (fun k => if k = p then x else u k) n := by
  apply List.ext_getElem
  · rw [List.length_set, tab_len, tab_len]
  · intro k h1 h2
    rw [List.getElem_set, tab_getElem, tab_getElem]
    by_cases h : p = k
    · rw [if_pos h, if_pos h.symm]
    · rw [if_neg h, if_neg (fun e => h e.symm)]
theorem tab_self (xs : List Int) : tab (fun k => xs.getD k 0) xs.length = xs := by
  apply List.ext_getElem
  · rw [tab_len]
  · intro k h1 h2
    rw [tab_getElem, List.getD_eq_getElem?_getD, List.getElem?_eq_getElem h2]; rfl
theorem tab_eq {u : Nat → Int} {xs : List Int} {n : Nat} (h : xs.length = n) (g : ∀ k, k < n → u k = xs.getD k 0) : tab u n = xs := by
  rw [tab_congr g, ← h]; exact tab_self xs
def anyB (o : Nat → Bool) : Nat → Bool
  | 0 => false
  | n + 1 => anyB o n || o n
theorem anyB_congr {o p : Nat → Bool} {n : Nat} (h : ∀ k, k < n → o k = p k) : anyB o n = anyB p n := by
  induction n with
  | zero => rfl
  | succ n ih => rw [anyB, anyB, ih fun k hk => h k (by omega), h n (by omega)]
theorem anyB_none {o : Nat → Bool} {n : Nat} (h : ∀ k, k < n → o k = false) : anyB o n = false := by
  induction n with
  | zero => rfl
  | succ n ih => rw [anyB, ih fun k hk => h k (by omega), h n (by omega)]; rfl
theorem div_of {i j c : Nat} (h : j < c) : (i * c + j) / c = i := by
  rw [Nat.mul_comm, Nat.mul_add_div (by omega), Nat.div_eq_of_lt h, Nat.add_zero]
theorem mod_of {i j c : Nat} (h : j < c) : (i * c + j) % c = j := by
  rw [Nat.mul_comm, Nat.mul_add_mod, Nat.mod_eq_of_lt h]
theorem at_lt {i j r c : Nat} (hi : i < r) (hj : j < c) : i * c + j < r * c := by
  have h : (i + 1) * c ≤ r * c := Nat.mul_le_mul_right c hi
  rw [Nat.succ_mul] at h; omega
theorem mul_le_64 {r c : Nat} (hr : r ≤ 8) (hc : c ≤ 8) : r * c ≤ 64 := Nat.mul_le_mul hr hc
end Go.Proofs.YtoefekkdjcflmaaGreatDoor.Qm
namespace Go.Proofs.YtoefekkdjcflmaaGreatDoor
open Go.RowKit Qm
def Qm.ge (xs : List Int) (k : Nat) : Int := xs.getD k 0
theorem Qm.ge_tab {u : Nat → Int} {n k : Nat} (h : k < n) : ge (tab u n) k = u k := tab_get h
theorem Qm.tab_ge {u : Nat → Int} {xs : List Int} {n : Nat} (h : xs.length = n) (g : ∀ k, k < n → u k = ge xs k) : tab u n = xs := tab_eq h g
theorem Tryz.under22 : Tryz.prog.underlying 27 = some (.slice 22) := by kernel_rfl
theorem Tryz.info33 : (Tryz.prog.info? 22).map (fun i => (i.zero, i.size, i.bytes)) = some (some (.int .i64 0), 1, 8) := by kernel_rfl
structure Cp (xs : List Int) where
  n : Nat
  h : xs.length ≤ n
instance {xs : List Int} : CoeOut (Cp xs) Nat := ⟨Cp.n⟩
def Sees (w : World) (v : Value) (xs : List Int) : Prop :=
  ∃ ao, ∃ cap : Cp xs, v = .slice ao xs.length cap.n ∧ ∀ k, k < xs.length → ∃ ad, ao = some ad ∧ ad.block < w.heap.size ∧ w.cell? (ad.add k) = some (.int .i64 (ge xs k))
theorem add_block (a : Addr) (k : Nat) : (a.add k).block = a.block := by unfold Addr.add; split <;> rfl
theorem Sees.below {w w' : World} {v : Value} {xs : List Int} (h : Sees w v xs) (hb : Below w.heap.size w w') : Sees w' v xs := by
  obtain ⟨ao, cap, hv, hc⟩ := h
  refine ⟨ao, cap, hv, fun k hk => ?_⟩
  obtain ⟨ad, ha, hl, hcell⟩ := hc k hk
  exact ⟨ad, ha, Nat.lt_of_lt_of_le hl hb.size, by rw [hb.cell (by rw [add_block]; exact hl)]; exact hcell⟩
theorem Sees.own {w : World} {base n : Nat} {v : Value} {xs : List Int} (h : w.ownsRow base 22 1 v n (xs.map (Value.int .i64))) : Sees w v xs := by
  have hn : n = xs.length := by have := h.1; simp at this; omega
  subst hn
  rcases h.2 with ⟨rfl, h0⟩ | ⟨g, cap, cur, rfl, hb, hg, hcp, _⟩
  · exact ⟨none, ⟨0, by omega⟩, by show Value.slice none 0 0 = Value.slice none xs.length 0; rw [h0], fun k hk => by omega⟩
  · refine ⟨_, ⟨cap, hcp⟩, rfl, fun k hk => ⟨_, rfl, (Array.getElem?_eq_some_iff.1 hg).1, ?_⟩⟩
    exact h.cells (g := g) rfl k _ (by rw [List.getElem?_map]; unfold ge; rw [List.getD_eq_getElem?_getD, List.getElem?_eq_getElem hk]; rfl)
theorem gb_refl (w : World) (row : Option Nat) : w.grownBy w row := ⟨rfl, rfl, rfl, Nat.le_refl _, fun _ _ _ => rfl⟩
theorem gb_trans {a b c : World} {row : Option Nat} (h : a.grownBy b row) (k : b.grownBy c row) : a.grownBy c row :=
  ⟨k.os.trans h.os, k.tape.trans h.tape, k.output.trans h.output, Nat.le_trans h.size k.size, fun i hi hn => (k.block i (Nat.lt_of_lt_of_le hi h.size) hn).trans (h.block i hi hn)⟩
theorem gb_below {w w' : World} (row : Option Nat) (h : Below w.heap.size w w') : w.grownBy w' row := ⟨h.os, h.tape, h.output, h.size, fun k hk _ => h.block k hk⟩
theorem below_gb {B : Nat} {w w' : World} {row : Option Nat} (h : w.grownBy w' row) (hB : B ≤ w.heap.size) (hr : ∀ k, row = some k → B ≤ k) : Below B w w' := (Below.refl B w).grown h hB hr
theorem gb_none {w w' : World} (h : w.grownBy w' none) : Below w.heap.size w w' := below_gb h (Nat.le_refl _) (fun k e => by cases e)
theorem old_cell {w : World} {b k : Nat} {v : Value} (h : w.cell? ⟨b, k, none⟩ = some v) (hb : b < w.heap.size) (x : Obj) : (w.alloc x).cell? ⟨b, k, none⟩ = some v :=
  (((Below.refl _ _).alloc (Nat.le_refl _) x).cell (p := ⟨b, k, none⟩) hb).trans h
theorem old_mat {w : World} {b : Nat} {x y z : Value} {t : TypeId} (h : w.heap[b]? = some (.cells #[x, y, z] t (0, 0))) (o : Obj) : (w.alloc o).heap[b]? = some (.cells #[x, y, z] t (0, 0)) := by
  rw [Below.heap_alloc _ _ _ (lt_of_block h)]; exact h
theorem mat_cells {w : World} {b : Nat} {x y z : Value} {t : TypeId} (h : w.heap[b]? = some (.cells #[x, y, z] t (0, 0))) :
    w.cell? ⟨b, 0, none⟩ = some x ∧ w.cell? ⟨b, 1, none⟩ = some y ∧ w.cell? ⟨b, 2, none⟩ = some z ∧ w.frozen? ⟨b, 0, none⟩ = false ∧ w.frozen? ⟨b, 1, none⟩ = false ∧ w.frozen? ⟨b, 2, none⟩ = false := by
  simp [World.cell?, World.frozen?, h]
def New (B : Nat) (v : Value) : Prop := ∀ k, v.ownBlock = some k → B ≤ k
theorem New.mono {B B' : Nat} {v : Value} (h : New B v) (hb : B' ≤ B) : New B' v := fun k e => Nat.le_trans hb (h k e)
theorem New.own {w : World} {base e size n : Nat} {v : Value} {xs : List Value} (h : w.ownsRow base e size v n xs) : New base v := fun k e => (h.lt k e).1
theorem Sees.set {w : World} {v : Value} {xs : List Int} {B : Nat} (h : Sees w v xs) (hn : New B v) {a : Addr} (ha : a.block < B) (u : Value) : Sees (w.setCell a u) v xs := by
  obtain ⟨ao, cap, hv, hc⟩ := h
  refine ⟨ao, cap, hv, fun k hk => ?_⟩
  obtain ⟨ad, rfl, hl, hcell⟩ := hc k hk
  subst hv
  have h1 : B ≤ ad.block := hn ad.block rfl
  refine ⟨ad, rfl, by simpa [World.setCell] using hl, ?_⟩
  rw [World.cell?_of_block (w := w) (Below.heap_setCell _ _ _ _ (by rw [add_block]; omega))]; exact hcell
theorem Sees.put {w : World} {v : Value} {xs : List Int} {B D : Nat} (h : Sees w v xs) (hn : New B v) (hD : D < B) (x y z : Value) :
    Sees (((w.setCell ⟨D, 0, none⟩ x).setCell ⟨D, 1, none⟩ y).setCell ⟨D, 2, none⟩ z) v xs := ((h.set hn hD x).set hn hD y).set hn hD z
theorem Sees.drew {w : World} {v : Value} {xs : List Int} (h : Sees w v xs) : Sees w.drew v xs := h.below (Below.refl _ _).drew
theorem Sees.alloc {w : World} {v : Value} {xs : List Int} (h : Sees w v xs) (o : Obj) : Sees (w.alloc o) v xs := h.below ((Below.refl _ _).alloc (Nat.le_refl _) o)
theorem Sees.slice {w : World} {v : Value} {xs : List Int} (h : Sees w v xs) : ∃ ao cap, v = .slice ao xs.length cap := let ⟨ao, cap, hv, _⟩ := h; ⟨ao, cap.n, hv⟩
theorem Sees.cap {w : World} {ao : Option Addr} {n cap : Nat} {xs : List Int} (h : Sees w (.slice ao n cap) xs) : xs.length ≤ cap := by
  obtain ⟨a, c, e, _⟩ := h
  injection e with _ _ e3
  rw [e3]; exact c.h
theorem below_put {B D : Nat} {w a : World} (h : Below B w a) (hD : B ≤ D) (x y z : Value) : Below B w (((a.setCell ⟨D, 0, none⟩ x).setCell ⟨D, 1, none⟩ y).setCell ⟨D, 2, none⟩ z) :=
  ((h.setCell hD x).setCell hD y).setCell hD z
theorem keep {w w' : World} {b : Nat} {o : Obj} (hb : Below w.heap.size w w') (h : w.heap[b]? = some o) : w'.heap[b]? = some o := (hb.block b (lt_of_block h)).trans h
theorem heap_old {w : World} {b : Nat} {x : Obj} (h : w.heap[b]? = some x) (o : Obj) : (w.alloc o).heap[b]? = some x := (Below.heap_alloc _ _ _ (lt_of_block h)).trans h
theorem heap_new (w : World) (o : Obj) : (w.alloc o).heap[w.heap.size]? = some o := heap_alloc_new w o
theorem allocs2 (w : World) (o1 o2 : Obj) : ((w.alloc o1).alloc o2).heap[w.heap.size]? = some o1 ∧ ((w.alloc o1).alloc o2).heap[w.heap.size + 1]? = some o2 :=
  ⟨heap_old (heap_new w o1) o2, by have h := heap_new (w.alloc o1) o2; simpa using h⟩
theorem allocs3 (w : World) (o1 o2 o3 : Obj) : (((w.alloc o1).alloc o2).alloc o3).heap[w.heap.size]? = some o1 ∧ (((w.alloc o1).alloc o2).alloc o3).heap[w.heap.size + 1]? = some o2 ∧ (((w.alloc o1).alloc o2).alloc o3).heap[w.heap.size + 1 + 1]? = some o3 :=
  ⟨heap_old (allocs2 w o1 o2).1 o3, heap_old (allocs2 w o1 o2).2 o3, by have h := heap_new ((w.alloc o1).alloc o2) o3; simpa using h⟩
theorem allocs4 (w : World) (o1 o2 o3 o4 : Obj) : ((((w.alloc o1).alloc o2).alloc o3).alloc o4).heap[w.heap.size]? = some o1 ∧ ((((w.alloc o1).alloc o2).alloc o3).alloc o4).heap[w.heap.size + 1]? = some o2 ∧ ((((w.alloc o1).alloc o2).alloc o3).alloc o4).heap[w.heap.size + 1 + 1]? = some o3 ∧ ((((w.alloc o1).alloc o2).alloc o3).alloc o4).heap[w.heap.size + 1 + 1 + 1]? = some o4 :=
  ⟨heap_old (allocs3 w o1 o2 o3).1 o4, heap_old (allocs3 w o1 o2 o3).2.1 o4, heap_old (allocs3 w o1 o2 o3).2.2 o4, by have h := heap_new (((w.alloc o1).alloc o2).alloc o3) o4; simpa using h⟩
theorem ball2 (w : World) (o1 o2 : Obj) : Below w.heap.size w ((w.alloc o1).alloc o2) := ((Below.refl _ _).alloc (Nat.le_refl _) _).alloc (by simp) _
theorem ball3 (w : World) (o1 o2 o3 : Obj) : Below w.heap.size w (((w.alloc o1).alloc o2).alloc o3) := (ball2 w o1 o2).alloc (by simp; omega) _
theorem ball4 (w : World) (o1 o2 o3 o4 : Obj) : Below w.heap.size w ((((w.alloc o1).alloc o2).alloc o3).alloc o4) := (ball3 w o1 o2 o3).alloc (by simp; omega) _
end Go.Proofs.YtoefekkdjcflmaaGreatDoor
namespace Go.Proofs.YtoefekkdjcflmaaGreatDoor
open Go.ChangeShapes Go.WideShapes Go.ChangeAt Go.RowKit Qm
theorem Tryz.u33 : Tryz.prog.underlying 22 = some (.int .i64) := by kernel_rfl
theorem Tryz.u3 : Tryz.prog.underlying 3 = some (.int .i64) := by kernel_rfl
theorem Tryz.c33 : Tryz.prog.cellsOf 22 = 1 := by kernel_rfl
theorem Tryz.c22 : Tryz.prog.cellsOf 27 = 1 := by kernel_rfl
theorem Tryz.c3 : Tryz.prog.cellsOf 3 = 1 := by kernel_rfl
theorem Tryz.c24 : Tryz.prog.cellsOf 29 = 3 := by kernel_rfl
def shapeOf (P : Program) (t : TypeId) : List (TypeId × Nat) := match P.underlying t with | some (.struct fs) => fs.toList.map fun f => (f.type, f.offset) | _ => []
theorem Tryz.shape24 : shapeOf Tryz.prog 29 = [(3, 0), (3, 1), (27, 2)] := by kernel_rfl
theorem slice_sees {H : Type} {enc : TypeId × Value → H} {w : World} {base : Nat} {spare : Nat → Bool} {held : Bool} {fuel : Nat} {cs : List Value} {x : DataW H × List MemPlace}
    (h : DataW.trod enc Tryz.prog w base spare held fuel 27 cs = some x) : ∃ v xs, cs = [v] ∧ Sees w v xs := by
  rcases open_ints Tryz.under22 Tryz.u33 Tryz.c33 h with ⟨rfl, _⟩ | ⟨a, len, cap, zs, rfl, _, hlc, _, hz, _, hcell, _⟩
  · exact ⟨_, [], rfl, none, ⟨0, Nat.le_refl 0⟩, rfl, fun k hk => absurd hk (Nat.not_lt_zero k)⟩
  · have hlen : len ≤ zs.length := by rw [hz]; split <;> omega
    have hl : (zs.take len).length = len := by simp; omega
    refine ⟨_, zs.take len, rfl, some a, ⟨cap, by rw [hl]; exact hlc⟩, by show Value.slice (some a) len cap = Value.slice (some a) (zs.take len).length cap; rw [hl], fun k hk => ?_⟩
    rw [hl] at hk
    have h1 := hcell k (by omega)
    refine ⟨a, rfl, ?_, ?_⟩
    · have := block_lt_of_cell h1; rw [add_block] at this; exact this
    · rw [h1]
      unfold ge
      rw [List.getD_eq_getElem?_getD, List.getD_eq_getElem?_getD, List.getElem?_take, if_pos hk]
section
variable {H : Type} {enc : TypeId × Value → H} {w : World} {base : Nat} {spare : Nat → Bool} {held : Bool}
set_option maxRecDepth 40000 in
theorem fields_of {t : TypeId} {shape : List (TypeId × Nat)} {fuel : Nat} {cs : List Value} {x : DataW H × List MemPlace} (hsh : shapeOf Tryz.prog t = shape) (hne : shape ≠ []) (h : DataW.trod enc Tryz.prog w base spare held fuel t cs = some x) :
    cs.length = Tryz.prog.cellsOf t ∧ ∃ n, ∀ (i : Nat) (ty : TypeId) (off : Nat), shape[i]? = some (ty, off) → ∃ y, DataW.trod enc Tryz.prog w base spare held n ty (List.take (Tryz.prog.cellsOf ty) (List.drop off cs)) = some y := by
  unfold shapeOf at hsh
  cases hu : Tryz.prog.underlying t with
  | none => rw [hu] at hsh; exact absurd hsh.symm hne
  | some u =>
    rw [hu] at hsh
    cases u with
    | struct fs =>
      simp only at hsh
      obtain ⟨xs, n, _, _, hl, hxl, hg⟩ := DataW.trod_struct hu h
      refine ⟨hl, n, fun i ty off hi => ?_⟩
      rw [← hsh] at hi
      simp only [List.getElem?_map, Array.getElem?_toList] at hi
      cases e : fs[i]? with
      | none => rw [e] at hi; cases hi
      | some f =>
        rw [e] at hi
        simp at hi
        have q := hg i f e
        rw [hi.1, hi.2] at q
        have hlt : i < xs.length := by rw [hxl]; exact (Array.getElem?_eq_some_iff.1 e).1
        rw [List.getElem?_eq_getElem hlt] at q
        exact ⟨_, q⟩
    | _ => simp at hsh; first | exact absurd hsh hne | exact absurd hsh.symm hne
theorem int_cell {n : Nat} {cs : List Value} {y : DataW H × List MemPlace} {t : TypeId} (ht : Tryz.prog.underlying t = some (.int .i64)) (h : DataW.trod enc Tryz.prog w base spare held n t cs = some y) : ∃ a, cs = [.int .i64 a] := by
  obtain ⟨d, p⟩ := y
  obtain ⟨a, e, _, _⟩ := DataW.trod_int ht h
  exact ⟨a, e⟩
set_option maxRecDepth 40000 in
theorem mat_cells_open {n : Nat} {cs : List Value} {x : DataW H × List MemPlace} (h : DataW.trod enc Tryz.prog w base spare held n 29 cs = some x) : ∃ (ra ca : Int) (sl : Value) (xs : List Int), cs = [.int .i64 ra, .int .i64 ca, sl] ∧ Sees w sl xs := by
  obtain ⟨hl, m, hf⟩ := fields_of Tryz.shape24 (by simp) h
  rw [Tryz.c24] at hl
  obtain ⟨y0, h0⟩ := hf 0 _ _ rfl
  obtain ⟨y1, h1⟩ := hf 1 _ _ rfl
  obtain ⟨y2, h2⟩ := hf 2 _ _ rfl
  rw [Tryz.c3] at h0 h1
  rw [Tryz.c22] at h2
  obtain ⟨ra, e0⟩ := int_cell Tryz.u3 h0
  obtain ⟨ca, e1⟩ := int_cell Tryz.u3 h1
  obtain ⟨sl, zs, e2, hs⟩ := slice_sees h2
  refine ⟨ra, ca, sl, zs, ?_, hs⟩
  match cs, hl with
  | [x, y, z], _ =>
    simp at e0 e1 e2
    rw [e0, e1, e2]
theorem Tryz.shapeT : shapeOf Tryz.prog 31 = [(29, 0), (29, 3)] := by kernel_rfl
theorem Tryz.cT : Tryz.prog.cellsOf 31 = 6 := by kernel_rfl
set_option maxRecDepth 40000 in
theorem track_cells_open {n : Nat} {cs : List Value} {x : DataW H × List MemPlace} (h : DataW.trod enc Tryz.prog w base spare held n 31 cs = some x) :
    ∃ (r1 c1 r2 c2 : Int) (s1 s2 : Value) (xs ps : List Int), cs = [.int .i64 r1, .int .i64 c1, s1, .int .i64 r2, .int .i64 c2, s2] ∧ Sees w s1 xs ∧ Sees w s2 ps := by
  obtain ⟨hl, m, hf⟩ := fields_of Tryz.shapeT (by simp) h
  rw [Tryz.cT] at hl
  obtain ⟨y0, h0⟩ := hf 0 _ _ rfl
  obtain ⟨y1, h1⟩ := hf 1 _ _ rfl
  rw [Tryz.c24] at h0 h1
  obtain ⟨ra, ca, sl, xs, e0, s0⟩ := mat_cells_open h0
  obtain ⟨rb, cb, sm, ps, e1, s1⟩ := mat_cells_open h1
  refine ⟨ra, ca, rb, cb, sl, sm, xs, ps, ?_, s0, s1⟩
  match cs, hl with
  | [x, y, z, u, v, t], _ =>
    simp at e0 e1
    obtain ⟨rfl, rfl, rfl⟩ := e0
    obtain ⟨rfl, rfl, rfl⟩ := e1
    rfl
end
section
variable {H : Type} {enc : TypeId × Value → H} {w : World} {base : Nat} {spare : Nat → Bool} {held : Bool}
set_option maxRecDepth 40000 in
theorem struct_of {t : TypeId} {shape : List (TypeId × Nat)} (hsh : shapeOf Tryz.prog t = shape) (hne : shape ≠ []) {r : Reach} {b0 : Nat} {v : Value} {d : DataW H} {p : List MemPlace} (hv : Value.okWide Tryz.prog w r b0 t v) (h : DataW.Trod enc Tryz.prog w base spare held t v d p) :
    ∃ (cs : List Value) (fuel : Nat) (x : DataW H × List MemPlace), v = .agg cs.toArray ∧ DataW.trod enc Tryz.prog w base spare held fuel t cs = some x := by
  have hu : ∃ fs, Tryz.prog.underlying t = some (.struct fs) := by
    unfold shapeOf at hsh
    cases hu : Tryz.prog.underlying t with
    | none => rw [hu] at hsh; exact absurd hsh.symm hne
    | some u =>
      rw [hu] at hsh
      cases u with
      | struct fs => exact ⟨fs, rfl⟩
      | _ => simp at hsh; first | exact absurd hsh hne | exact absurd hsh.symm hne
  obtain ⟨fs, hu⟩ := hu
  obtain ⟨cs, rfl, hsz⟩ := okWide_struct hu hv
  obtain ⟨fuel, hf⟩ := h
  exact ⟨cs.toList, fuel, _, rfl, hf⟩
theorem Tryz.cQ1 : Tryz.prog.cellsOf 22 = 1 := by kernel_rfl
theorem Tryz.uQ1 : Tryz.prog.underlying 22 = some (.int .i64) := by kernel_rfl
end
end Go.Proofs.YtoefekkdjcflmaaGreatDoor
namespace Go.Proofs.YtoefekkdjcflmaaGreatDoor
open Go.RowKit Qm
theorem fill_cells {w wr : World} {row : Option Nat} {R C : Int} (hrow : ∀ m, row = some m → m < w.heap.size)
    (hg : ((w.alloc (.cells #[.int .i64 R, .int .i64 C] 166)).alloc (.cells #[.int .i64 0, .int .i64 0, .slice none 0 0] 29)).grownBy wr row) :
    wr.cell? ⟨w.heap.size, 0, none⟩ = some (.int .i64 R) ∧ wr.cell? ⟨w.heap.size, 1, none⟩ = some (.int .i64 C) ∧
    wr.heap[w.heap.size + 1]? = some (.cells #[.int .i64 0, .int .i64 0, .slice none 0 0] 29 (0, 0)) := by
  have h1 := hg.block w.heap.size (by simp; omega) (fun e => by have := hrow _ e.symm; omega)
  have h2 := hg.block (w.heap.size + 1) (by simp) (fun e => by have := hrow _ e.symm; omega)
  rw [Below.heap_alloc _ _ _ (by simp)] at h1
  rw [heap_alloc_new] at h1
  have e : w.heap.size + 1 = (w.alloc (.cells #[.int .i64 R, .int .i64 C] 166)).heap.size := by simp
  refine ⟨by simp [World.cell?, h1], by simp [World.cell?, h1], ?_⟩
  rw [h2, e, heap_alloc_new]
def FI (w : World) (row : Option Nat) (I : Nat → World → Prop) (t : Nat → Int) (R C : Int) (k : Nat) (l : Value) (wr : World) : Prop :=
  wr.ownsRow (w.heap.size + 2) 22 1 l k ((tab t k).map (Value.int .i64)) ∧
  ((w.alloc (.cells #[.int .i64 R, .int .i64 C] 166)).alloc (.cells #[.int .i64 0, .int .i64 0, .slice none 0 0] 29)).grownBy wr row ∧ I k wr
theorem FI.start {w w1 : World} {row : Option Nat} {I : Nat → World → Prop} {t : Nat → Int} {R C : Int} {l : Value} (hmon : ∀ k a b, I k a → Below w.heap.size a b → I k b) (hI0 : I 0 w)
    (h1 : w1.ownsRow (w.heap.size + 2) 22 1 l 0 [])
    (h2 : ((w.alloc (.cells #[.int .i64 R, .int .i64 C] 166)).alloc (.cells #[.int .i64 0, .int .i64 0, .slice none 0 0] 29)).grownBy w1 none) : FI w row I t R C 0 l w1 := by
  refine ⟨h1, gb_below _ (gb_none h2), hmon 0 w w1 hI0 ?_⟩
  have e := gb_none h2
  exact (((Below.refl _ _).alloc (Nat.le_refl _) _).alloc (by simp) _).trans (e.mono (by simp; omega))
theorem FI.step {w wr w1 w2 : World} {row : Option Nat} {I : Nat → World → Prop} {t : Nat → Int} {R C : Int} {k : Nat} {l v : Value} {o : Obj} (hmon : ∀ k a b, I k a → Below w.heap.size a b → I k b)
    (h : FI w row I t R C k l wr) (hg : wr.grownBy w1 row) (hI : I (k + 1) w1)
    (hown : w2.ownsRow (w.heap.size + 2) 22 1 v (k + 1) ((tab t k).map (Value.int .i64) ++ [.int .i64 (t k)])) (hg2 : (w1.alloc o).grownBy w2 l.ownBlock) : FI w row I t R C (k + 1) v w2 := by
  obtain ⟨h1, h2, h3⟩ := h
  have hs : w.heap.size + 2 ≤ wr.heap.size := by have := h2.size; simpa using this
  have hs1 : wr.heap.size ≤ w1.heap.size := hg.size
  have b1 : Below (w.heap.size + 2) w1 w2 := ((Below.refl _ _).alloc (by omega) _).grown hg2 (by simp; omega) (fun m e => (h1.lt m e).1)
  refine ⟨by rw [tab_succ, List.map_append]; exact hown, ?_, hmon _ _ _ hI (b1.mono (by omega))⟩
  have g1 := gb_trans h2 hg
  refine ⟨b1.os.trans g1.os, b1.tape.trans g1.tape, b1.output.trans g1.output, Nat.le_trans g1.size b1.size, fun i hi hn => ?_⟩
  rw [b1.block i (by simpa using hi), g1.block i hi hn]
theorem FI.owned {w wr w1 : World} {row : Option Nat} {I : Nat → World → Prop} {t : Nat → Int} {R C : Int} {k : Nat} {l : Value} (hrow : ∀ m, row = some m → m < w.heap.size)
    (h : FI w row I t R C k l wr) (hg : wr.grownBy w1 row) (o : Obj) : (w1.alloc o).ownsRow (w.heap.size + 2) 22 1 l k ((tab t k).map (Value.int .i64)) := by
  refine (h.1.kept hg ?_).alloc o
  cases hv : l.ownBlock with
  | none => exact .inl rfl
  | some m => exact .inr (fun e => by have h1 := hrow m e.symm; have h2 := (h.1.lt m hv).1; omega)
theorem own_slice {w : World} {base e size n : Nat} {v : Value} {xs : List Value} (h : w.ownsRow base e size v n xs) : ∃ ao cap, v = .slice ao n cap := by
  rcases h.2 with ⟨rfl, rfl⟩ | ⟨g, cap, cur, rfl, _⟩
  · exact ⟨_, _, rfl⟩
  · exact ⟨_, _, rfl⟩
theorem own_mono {w : World} {base base' e size n : Nat} {v : Value} {xs : List Value} (h : w.ownsRow base e size v n xs) (hb : base' ≤ base) : w.ownsRow base' e size v n xs := by
  refine ⟨h.1, ?_⟩
  rcases h.2 with h0 | ⟨g, cap, cur, hv, hg, r⟩
  · exact .inl h0
  · exact .inr ⟨g, cap, cur, hv, Nat.le_trans hb hg, r⟩
theorem FI.ends {w wr : World} {row : Option Nat} {I : Nat → World → Prop} {t : Nat → Int} {R C : Int} {k : Nat} {l : Value} (hmon : ∀ k a b, I k a → Below w.heap.size a b → I k b) (h : FI w row I t R C k l wr) (x y z : Value) :
    (((wr.setCell ⟨w.heap.size + 1, 0, none⟩ x).setCell ⟨w.heap.size + 1, 1, none⟩ y).setCell ⟨w.heap.size + 1, 2, none⟩ z).ownsRow w.heap.size 22 1 l k ((tab t k).map (Value.int .i64)) ∧
    I k (((wr.setCell ⟨w.heap.size + 1, 0, none⟩ x).setCell ⟨w.heap.size + 1, 1, none⟩ y).setCell ⟨w.heap.size + 1, 2, none⟩ z) ∧
    w.grownBy (((wr.setCell ⟨w.heap.size + 1, 0, none⟩ x).setCell ⟨w.heap.size + 1, 1, none⟩ y).setCell ⟨w.heap.size + 1, 2, none⟩ z) row := by
  obtain ⟨h1, h2, h3⟩ := h
  have hB : Below w.heap.size wr (((wr.setCell ⟨w.heap.size + 1, 0, none⟩ x).setCell ⟨w.heap.size + 1, 1, none⟩ y).setCell ⟨w.heap.size + 1, 2, none⟩ z) :=
    (((Below.refl _ _).setCell (Nat.le_succ _) _).setCell (Nat.le_succ _) _).setCell (Nat.le_succ _) _
  refine ⟨own_mono (ownsRow_setCell_below (ownsRow_setCell_below (ownsRow_setCell_below h1 (Nat.lt_succ_self _) _) (Nat.lt_succ_self _) _) (Nat.lt_succ_self _) _) (by omega), hmon _ _ _ h3 hB, ?_⟩
  have hA : Below w.heap.size w ((w.alloc (.cells #[.int .i64 R, .int .i64 C] 166)).alloc (.cells #[.int .i64 0, .int .i64 0, .slice none 0 0] 29)) := ((Below.refl _ _).alloc (Nat.le_refl _) _).alloc (by simp) _
  have g1 := gb_trans (gb_below row hA) h2
  exact ⟨hB.os.trans g1.os, hB.tape.trans g1.tape, hB.output.trans g1.output, Nat.le_trans g1.size hB.size, fun i hi hn => by rw [hB.block i hi, g1.block i hi hn]⟩
theorem c1_one {w : World} {x : Value} {T : TypeId} : ∀ (j : Nat) (u : Value), [x][j]? = some u → (w.alloc (.cells #[x] T)).cell? ((⟨w.heap.size, 0, none⟩ : Addr).add j) = some u := by
  intro j u hj
  match j, hj with
  | 0, hj => simp at hj; subst hj; simp [Addr.add]
theorem c2_one {z : Int} : ∀ u ∈ [Value.int .i64 z], u.oneCell' = true := by intro u hu; simp at hu; subst hu; rfl
set_option maxHeartbeats 1600000 in
theorem filled_any (R C : Nat) (hR : R ≤ 8) (hC : C ≤ 8) (F : Nat) (hF : ∀ (args : Array Value) (a : World), Sem.run Tryz.prog (callFunc F args) a = Result.ok (Next.enter F args) a) (caps : Array Value) (t : Nat → Int) (row : Option Nat) (I : Nat → World → Prop) (w : World)
    (hrow : ∀ m, row = some m → m < w.heap.size) (hI0 : I 0 w) (hmon : ∀ k a b, I k a → Below w.heap.size a b → I k b)
    (hcall : ∀ (i j : Nat) a, i < R → j < C → I (i * C + j) a → Calls Tryz.prog F (#[.int .i64 i, .int .i64 j] ++ caps) a (fun e b => e = .returned (.int .i64 (t (i * C + j))) ∧ I (i * C + j + 1) b ∧ a.grownBy b row)) :
    Calls Tryz.prog 161 #[.agg #[.int .i64 R, .int .i64 C], .func (.func F) #[] caps] w fun e b => ∃ v, e = .returned (.agg #[.int .i64 R, .int .i64 C, v]) ∧
      b.ownsRow w.heap.size 22 1 v (R * C) ((tab t (R * C)).map (Value.int .i64)) ∧ I (R * C) b ∧ w.grownBy b row := by
  obtain ⟨i0, hi, hz0, hz1, hz2⟩ := info_parts Tryz.info33
  have hb : R * C ≤ 64 := mul_le_64 hR hC
  obtain ⟨q, hq⟩ : ∃ q, R * C = q := ⟨_, rfl⟩
  have hq' : (R : Int) * (C : Int) = (q : Int) := by rw [← hq]; exact (Int.natCast_mul R C).symm
  have HQ : Hid (R * C = q) := hq
  rw [hq] at hb ⊢
  clear hq
  go_enter Tryz.func161, Tryz.ntmps161
  go_wp2_with (at_make; refine wpList_make_own _ rfl _ _ 27 rfl (w.heap.size + 2) 22 i0 (.int .i64 0) 1 Tryz.under22 hi hz0 hz1 .i64 .i64 _ q rfl rfl rfl (by rw [hz2]; omega) (by unfold maxLen; omega) (by simp) ?_; intro w1 hown1 hg1; obtain ⟨cR, cC, cB⟩ := fill_cells (row := none) (fun m e => by cases e) hg1; have HF : FI w row I t R C 0 _ w1 := FI.start hmon hI0 hown1 hg1; clear hown1 hg1)
  go_loopw [5, 16] (fun l r wr => ∃ i : Nat, i ≤ R ∧ r = .int .i64 i ∧ FI w row I t R C (i * C) l wr) (fun _ r _ => R - (intOf r).toNat)
  case atStart => exact ⟨0, Nat.zero_le _, rfl, by rw [Nat.zero_mul]; simpa using HF⟩
  case round =>
    clear HF cR cC cB
    obtain ⟨i, hi', rfl, hfi⟩ := hrel
    obtain ⟨cR, cC, cB⟩ := fill_cells hrow hfi.2.1
    by_cases hlt : i < R
    · go_wp2
      go_loopw [5, 21] (fun l c wr => ∃ j : Nat, j ≤ C ∧ c = .int .i64 j ∧ FI w row I t R C (i * C + j) l wr) (fun _ c _ => C - (intOf c).toNat)
      case atStart => exact ⟨0, Nat.zero_le _, rfl, hfi⟩
      case round =>
        clear hfi cR cC cB
        obtain ⟨j, hj', rfl, hfi⟩ := hrel
        obtain ⟨cR, cC, cB⟩ := fill_cells hrow hfi.2.1
        by_cases hlj : j < C
        · have hat := at_lt hlt hlj
          rw [HQ.out] at hat
          have hc1 := hcall i j wr hlt hlj hfi.2.2
          have hsz : w.heap.size + 2 ≤ wr.heap.size := by have := hfi.2.1.size; simpa using this
          go_wp2_with (first
            | (at_builtin; refine wpList_append_own _ rfl _ _ 27 rfl (w.heap.size + 2) 22 i0 (.int .i64 0) 1 8 Tryz.under22 hi hz0 hz1 hz2 rfl (by decide) _ _ _ rfl (hfi.owned hrow hgx _) ⟨_, 0, none⟩ 1 1 [.int .i64 (t (i * C + j))] rfl rfl c1_one c2_one (by unfold maxLen; omega) (by omega) (by have h7 := hgx.size; simp; omega) ?_; intro v2 w2 hown2 hg2 hnil2; have HF2 := FI.step hmon hfi hgx hIx hown2 hg2; clear hown2 hg2 hnil2 hIx)
            | (refine Calls.mono hc1 ?_; rintro e wx ⟨rfl, hIx, hgx⟩))
          go_roundw
          case rel => exact ⟨j + 1, by omega, by go_num, HF2⟩
          case measure => simp [intOf]; omega
        · have hjC : j = C := by omega
          subst hjC
          go_wp2
          go_roundw
          case rel => exact ⟨i + 1, by omega, by go_num, by rw [Nat.succ_mul]; exact hfi⟩
          case measure => simp [intOf]; omega
    · have hiR : i = R := by omega
      subst hiR
      rw [HQ.out] at hfi
      obtain ⟨d0, d1, d2, f0, f1, f2⟩ := mat_cells cB
      obtain ⟨ao, cap, rfl⟩ := own_slice hfi.1
      have HE := hfi.ends hmon (.int .i64 i) (.int .i64 C) (.slice ao q cap)
      clear hfi
      go_wp2
      refine bodyPost_ret (v := .agg #[.int .i64 i, .int .i64 C, .slice ao q cap]) (by simp [results, Tryz.results161, go_sem, d0, d1, d2]) rfl ?_
      exact ⟨_, rfl, HE⟩
theorem enters68 : ∀ (args : Array Value) (a : World), Sem.run Tryz.prog (callFunc 193 args) a = Result.ok (Next.enter 193 args) a := by
  intro args a
  simp [callFunc, Tryz.func193, go_sem]
  rfl
theorem reck1_end {a b : World} {M : Nat} {m o : Bool} (hM : a.heap[M]? = some (.cells #[.bool m] 4 (0, 0))) (hb : Below a.heap.size a b) :
    (b.setCell ⟨M, 0, none⟩ (.bool o)).heap[M]? = some (.cells #[.bool o] 4 (0, 0)) ∧ a.grownBy (b.setCell ⟨M, 0, none⟩ (.bool o)) (some M) := by
  have h1 : b.heap[M]? = some (.cells #[.bool m] 4 (0, 0)) := (hb.block M (lt_of_block hM)).trans hM
  refine ⟨one_setCell h1, ?_⟩
  refine ⟨hb.os, hb.tape, hb.output, by have := hb.size; simpa [World.setCell] using this, fun k hk hn => ?_⟩
  rw [Below.heap_setCell _ _ _ _ (by intro e; exact hn (by rw [e])), hb.block k hk]
set_option maxHeartbeats 400000 in
theorem reck1_any (i j : Int) (G : Nat) (hG : ∀ (args : Array Value) (a : World), Sem.run Tryz.prog (callFunc G args) a = Result.ok (Next.enter G args) a) (caps : Array Value) (T M : Nat) (t : Int) (m o : Bool) (a : World)
    (hT : a.cell? ⟨T, 0, none⟩ = some (.func (.func G) #[] caps)) (hM : a.heap[M]? = some (.cells #[.bool m] 4 (0, 0)))
    (hcall : Calls Tryz.prog G (#[.int .i64 i, .int .i64 j] ++ caps) a (fun e b => e = .returned (.tuple #[.int .i64 t, .bool o]) ∧ Below a.heap.size a b)) :
    Calls Tryz.prog 193 #[.int .i64 i, .int .i64 j, .pointer (some ⟨T, 0, none⟩), .pointer (some ⟨M, 0, none⟩)] a fun e b => e = .returned (.int .i64 t) ∧
      b.heap[M]? = some (.cells #[.bool (m || o)] 4 (0, 0)) ∧ a.grownBy b (some M) := by
  go_enter Tryz.func193, Tryz.ntmps193
  cases m
  all_goals
    go_wp2_with (refine Calls.mono hcall ?_; rintro e wx ⟨rfl, bx⟩; have c1 := cell_of_one ((bx.block M (lt_of_block hM)).trans hM); have c2 := free_of_one ((bx.block M (lt_of_block hM)).trans hM))
    go_ret
    have h := reck1_end (o := o) hM bx
    first
      | exact ⟨rfl, (reck1_end (o := o) hM bx).1, (reck1_end (o := o) hM bx).2⟩
      | exact ⟨rfl, (reck1_end (o := true) hM bx).1, (reck1_end (o := true) hM bx).2⟩
end Go.Proofs.YtoefekkdjcflmaaGreatDoor

