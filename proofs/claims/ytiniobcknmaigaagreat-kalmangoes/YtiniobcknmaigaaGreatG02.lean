/-
  Texts joined, in the order in which they stand on one another: MatW Filled Reck.
-/
import Derived.Test.YtiniobcknmaigaaGreatG01
/-
  Worlds: what a slice of numbers shows, and a matrix; what a call leaves of the world.
-/
namespace Go.Proofs.YtiniobcknmaigaaGreat
open Go.RowKit Qm

/-- what stands at place k -/
def Qm.ge (xs : List Int) (k : Nat) : Int := xs.getD k 0
theorem Qm.ge_tab {u : Nat → Int} {n k : Nat} (h : k < n) : ge (tab u n) k = u k := tab_get h
theorem Qm.tab_ge {u : Nat → Int} {xs : List Int} {n : Nat} (h : xs.length = n) (g : ∀ k, k < n → u k = ge xs k) : tab u n = xs := tab_eq h g

theorem Tryz.under22 : Tryz.prog.underlying 22 = some (.slice 27) := by kernel_rfl
theorem Tryz.info33 : (Tryz.prog.info? 27).map (fun i => (i.zero, i.size, i.bytes)) = some (some (.int .i64 0), 1, 8) := by kernel_rfl

/-- what a slice of numbers shows -/
def Sees (w : World) (v : Value) (xs : List Int) : Prop :=
  ∃ ao cap, v = .slice ao xs.length cap ∧ ∀ k, k < xs.length → ∃ ad, ao = some ad ∧ ad.block < w.heap.size ∧ w.cell? (ad.add k) = some (.int .i64 (ge xs k))

theorem add_block (a : Addr) (k : Nat) : (a.add k).block = a.block := by unfold Addr.add; split <;> rfl

theorem Sees.below {w w' : World} {v : Value} {xs : List Int} (h : Sees w v xs) (hb : Below w.heap.size w w') : Sees w' v xs := by
  obtain ⟨ao, cap, hv, hc⟩ := h
  refine ⟨ao, cap, hv, fun k hk => ?_⟩
  obtain ⟨ad, ha, hl, hcell⟩ := hc k hk
  exact ⟨ad, ha, Nat.lt_of_lt_of_le hl hb.size, by rw [hb.cell (by rw [add_block]; exact hl)]; exact hcell⟩

theorem Sees.own {w : World} {base n : Nat} {v : Value} {xs : List Int} (h : w.ownsRow base 27 1 v n (xs.map (Value.int .i64))) : Sees w v xs := by
  have hn : n = xs.length := by have := h.1; simp at this; omega
  subst hn
  rcases h.2 with ⟨rfl, h0⟩ | ⟨g, cap, cur, rfl, hb, hg, _⟩
  · exact ⟨none, 0, by rw [h0], fun k hk => by omega⟩
  · refine ⟨_, cap, rfl, fun k hk => ⟨_, rfl, (Array.getElem?_eq_some_iff.1 hg).1, ?_⟩⟩
    exact h.cells (g := g) rfl k _ (by rw [List.getElem?_map]; unfold ge; rw [List.getD_eq_getElem?_getD, List.getElem?_eq_getElem hk]; rfl)

theorem gb_refl (w : World) (row : Option Nat) : w.grownBy w row := ⟨rfl, rfl, rfl, Nat.le_refl _, fun _ _ _ => rfl⟩
theorem gb_trans {a b c : World} {row : Option Nat} (h : a.grownBy b row) (k : b.grownBy c row) : a.grownBy c row :=
  ⟨k.os.trans h.os, k.tape.trans h.tape, k.output.trans h.output, Nat.le_trans h.size k.size, fun i hi hn => (k.block i (Nat.lt_of_lt_of_le hi h.size) hn).trans (h.block i hi hn)⟩
theorem gb_below {w w' : World} (row : Option Nat) (h : Below w.heap.size w w') : w.grownBy w' row := ⟨h.os, h.tape, h.output, h.size, fun k hk _ => h.block k hk⟩
theorem below_gb {B : Nat} {w w' : World} {row : Option Nat} (h : w.grownBy w' row) (hB : B ≤ w.heap.size) (hr : ∀ k, row = some k → B ≤ k) : Below B w w' := (Below.refl B w).grown h hB hr
theorem gb_none {w w' : World} (h : w.grownBy w' none) : Below w.heap.size w w' := below_gb h (Nat.le_refl _) (fun k e => by cases e)
/-- two steps: old memory as it was -/
theorem bt {a b c : World} (h : Below a.heap.size a b) (k : Below b.heap.size b c) : Below a.heap.size a c := h.trans (k.mono h.size)

/-- old cells behind a new block -/
theorem old_cell {w : World} {b k : Nat} {v : Value} (h : w.cell? ⟨b, k, none⟩ = some v) (hb : b < w.heap.size) (x : Obj) : (w.alloc x).cell? ⟨b, k, none⟩ = some v :=
  (((Below.refl _ _).alloc (Nat.le_refl _) x).cell (p := ⟨b, k, none⟩) hb).trans h
theorem old_free {w : World} {b k : Nat} (h : w.frozen? ⟨b, k, none⟩ = false) (hb : b < w.heap.size) (x : Obj) : (w.alloc x).frozen? ⟨b, k, none⟩ = false :=
  (((Below.refl _ _).alloc (Nat.le_refl _) x).frozen (p := ⟨b, k, none⟩) hb).trans h
theorem old_mat {w : World} {b : Nat} {x y z : Value} {t : TypeId} (h : w.heap[b]? = some (.cells #[x, y, z] t (0, 0))) (o : Obj) : (w.alloc o).heap[b]? = some (.cells #[x, y, z] t (0, 0)) := by
  rw [Below.heap_alloc _ _ _ (lt_of_block h)]; exact h
theorem mat_cells {w : World} {b : Nat} {x y z : Value} {t : TypeId} (h : w.heap[b]? = some (.cells #[x, y, z] t (0, 0))) :
    w.cell? ⟨b, 0, none⟩ = some x ∧ w.cell? ⟨b, 1, none⟩ = some y ∧ w.cell? ⟨b, 2, none⟩ = some z ∧ w.frozen? ⟨b, 0, none⟩ = false ∧ w.frozen? ⟨b, 1, none⟩ = false ∧ w.frozen? ⟨b, 2, none⟩ = false := by
  simp [World.cell?, World.frozen?, h]

/-- a slice that lies in memory from B on -/
def New (B : Nat) (v : Value) : Prop := ∀ k, v.ownBlock = some k → B ≤ k
theorem New.mono {B B' : Nat} {v : Value} (h : New B v) (hb : B' ≤ B) : New B' v := fun k e => Nat.le_trans hb (h k e)
theorem New.own {w : World} {base e size n : Nat} {v : Value} {xs : List Value} (h : w.ownsRow base e size v n xs) : New base v := fun k e => (h.lt k e).1
theorem Sees.set {w : World} {v : Value} {xs : List Int} {B : Nat} (h : Sees w v xs) (hn : New B v) {a : Addr} (ha : a.block < B) (u : Value) : Sees (w.setCell a u) v xs := by
  obtain ⟨ao, cap, hv, hc⟩ := h
  refine ⟨ao, cap, hv, fun k hk => ?_⟩
  obtain ⟨ad, rfl, hl, hcell⟩ := hc k hk
  subst hv
  have h1 : B ≤ ad.block := hn ad.block rfl
  refine ⟨ad, rfl, by simpa [World.setCell] using hl, ?_⟩
  rw [World.cell?_of_block (w := w) (Below.heap_setCell _ _ _ _ (by rw [add_block]; omega))]; exact hcell
theorem Sees.put {w : World} {v : Value} {xs : List Int} {B D : Nat} (h : Sees w v xs) (hn : New B v) (hD : D < B) (x y z : Value) :
    Sees (((w.setCell ⟨D, 0, none⟩ x).setCell ⟨D, 1, none⟩ y).setCell ⟨D, 2, none⟩ z) v xs := ((h.set hn hD x).set hn hD y).set hn hD z
theorem Sees.drew {w : World} {v : Value} {xs : List Int} (h : Sees w v xs) : Sees w.drew v xs := h.below (Below.refl _ _).drew
theorem Sees.alloc {w : World} {v : Value} {xs : List Int} (h : Sees w v xs) (o : Obj) : Sees (w.alloc o) v xs := h.below ((Below.refl _ _).alloc (Nat.le_refl _) o)
theorem Sees.slice {w : World} {v : Value} {xs : List Int} (h : Sees w v xs) : ∃ ao cap, v = .slice ao xs.length cap := let ⟨ao, cap, hv, _⟩ := h; ⟨ao, cap, hv⟩
theorem below_put {B D : Nat} {w a : World} (h : Below B w a) (hD : B ≤ D) (x y z : Value) : Below B w (((a.setCell ⟨D, 0, none⟩ x).setCell ⟨D, 1, none⟩ y).setCell ⟨D, 2, none⟩ z) :=
  ((h.setCell hD x).setCell hD y).setCell hD z

theorem keep {w w' : World} {b : Nat} {o : Obj} (hb : Below w.heap.size w w') (h : w.heap[b]? = some o) : w'.heap[b]? = some o := (hb.block b (lt_of_block h)).trans h
theorem heap_old {w : World} {b : Nat} {x : Obj} (h : w.heap[b]? = some x) (o : Obj) : (w.alloc o).heap[b]? = some x := (Below.heap_alloc _ _ _ (lt_of_block h)).trans h
theorem heap_new (w : World) (o : Obj) : (w.alloc o).heap[w.heap.size]? = some o := heap_alloc_new w o
theorem allocs2 (w : World) (o1 o2 : Obj) : ((w.alloc o1).alloc o2).heap[w.heap.size]? = some o1 ∧ ((w.alloc o1).alloc o2).heap[w.heap.size + 1]? = some o2 :=
  ⟨heap_old (heap_new w o1) o2, by have h := heap_new (w.alloc o1) o2; simpa using h⟩
theorem allocs3 (w : World) (o1 o2 o3 : Obj) : (((w.alloc o1).alloc o2).alloc o3).heap[w.heap.size]? = some o1 ∧ (((w.alloc o1).alloc o2).alloc o3).heap[w.heap.size + 1]? = some o2 ∧ (((w.alloc o1).alloc o2).alloc o3).heap[w.heap.size + 1 + 1]? = some o3 :=
  ⟨heap_old (allocs2 w o1 o2).1 o3, heap_old (allocs2 w o1 o2).2 o3, by have h := heap_new ((w.alloc o1).alloc o2) o3; simpa using h⟩
theorem allocs4 (w : World) (o1 o2 o3 o4 : Obj) : ((((w.alloc o1).alloc o2).alloc o3).alloc o4).heap[w.heap.size]? = some o1 ∧ ((((w.alloc o1).alloc o2).alloc o3).alloc o4).heap[w.heap.size + 1]? = some o2 ∧ ((((w.alloc o1).alloc o2).alloc o3).alloc o4).heap[w.heap.size + 1 + 1]? = some o3 ∧ ((((w.alloc o1).alloc o2).alloc o3).alloc o4).heap[w.heap.size + 1 + 1 + 1]? = some o4 :=
  ⟨heap_old (allocs3 w o1 o2 o3).1 o4, heap_old (allocs3 w o1 o2 o3).2.1 o4, heap_old (allocs3 w o1 o2 o3).2.2 o4, by have h := heap_new (((w.alloc o1).alloc o2).alloc o3) o4; simpa using h⟩
theorem ball2 (w : World) (o1 o2 : Obj) : Below w.heap.size w ((w.alloc o1).alloc o2) := ((Below.refl _ _).alloc (Nat.le_refl _) _).alloc (by simp) _
theorem ball3 (w : World) (o1 o2 o3 : Obj) : Below w.heap.size w (((w.alloc o1).alloc o2).alloc o3) := (ball2 w o1 o2).alloc (by simp; omega) _
theorem ball4 (w : World) (o1 o2 o3 o4 : Obj) : Below w.heap.size w ((((w.alloc o1).alloc o2).alloc o3).alloc o4) := (ball3 w o1 o2 o3).alloc (by simp; omega) _

end Go.Proofs.YtiniobcknmaigaaGreat

/-
  The contract of mat.filled, over whatever function tells the numbers.
-/
namespace Go.Proofs.YtiniobcknmaigaaGreat
open Go.RowKit Qm

theorem fill_cells {w wr : World} {row : Option Nat} {R C : Int} (hrow : ∀ m, row = some m → m < w.heap.size)
    (hg : ((w.alloc (.cells #[.int .i64 R, .int .i64 C] 87)).alloc (.cells #[.int .i64 0, .int .i64 0, .slice none 0 0] 24)).grownBy wr row) :
    wr.cell? ⟨w.heap.size, 0, none⟩ = some (.int .i64 R) ∧ wr.cell? ⟨w.heap.size, 1, none⟩ = some (.int .i64 C) ∧
    wr.heap[w.heap.size + 1]? = some (.cells #[.int .i64 0, .int .i64 0, .slice none 0 0] 24 (0, 0)) := by
  have h1 := hg.block w.heap.size (by simp; omega) (fun e => by have := hrow _ e.symm; omega)
  have h2 := hg.block (w.heap.size + 1) (by simp) (fun e => by have := hrow _ e.symm; omega)
  rw [Below.heap_alloc _ _ _ (by simp)] at h1
  rw [heap_alloc_new] at h1
  have e : w.heap.size + 1 = (w.alloc (.cells #[.int .i64 R, .int .i64 C] 87)).heap.size := by simp
  refine ⟨by simp [World.cell?, h1], by simp [World.cell?, h1], ?_⟩
  rw [h2, e, heap_alloc_new]
/-- what the loops of filled keep -/
def FI (w : World) (row : Option Nat) (I : Nat → World → Prop) (t : Nat → Int) (R C : Int) (k : Nat) (l : Value) (wr : World) : Prop :=
  wr.ownsRow (w.heap.size + 2) 27 1 l k ((tab t k).map (Value.int .i64)) ∧
  ((w.alloc (.cells #[.int .i64 R, .int .i64 C] 87)).alloc (.cells #[.int .i64 0, .int .i64 0, .slice none 0 0] 24)).grownBy wr row ∧ I k wr

theorem FI.start {w w1 : World} {row : Option Nat} {I : Nat → World → Prop} {t : Nat → Int} {R C : Int} {l : Value} (hmon : ∀ k a b, I k a → Below w.heap.size a b → I k b) (hI0 : I 0 w)
    (h1 : w1.ownsRow (w.heap.size + 2) 27 1 l 0 [])
    (h2 : ((w.alloc (.cells #[.int .i64 R, .int .i64 C] 87)).alloc (.cells #[.int .i64 0, .int .i64 0, .slice none 0 0] 24)).grownBy w1 none) : FI w row I t R C 0 l w1 := by
  refine ⟨h1, gb_below _ (gb_none h2), hmon 0 w w1 hI0 ?_⟩
  have e := gb_none h2
  exact (((Below.refl _ _).alloc (Nat.le_refl _) _).alloc (by simp) _).trans (e.mono (by simp; omega))

theorem FI.step {w wr w1 w2 : World} {row : Option Nat} {I : Nat → World → Prop} {t : Nat → Int} {R C : Int} {k : Nat} {l v : Value} {o : Obj} (hmon : ∀ k a b, I k a → Below w.heap.size a b → I k b)
    (h : FI w row I t R C k l wr) (hg : wr.grownBy w1 row) (hI : I (k + 1) w1)
    (hown : w2.ownsRow (w.heap.size + 2) 27 1 v (k + 1) ((tab t k).map (Value.int .i64) ++ [.int .i64 (t k)])) (hg2 : (w1.alloc o).grownBy w2 l.ownBlock) : FI w row I t R C (k + 1) v w2 := by
  obtain ⟨h1, h2, h3⟩ := h
  have hs : w.heap.size + 2 ≤ wr.heap.size := by have := h2.size; simpa using this
  have hs1 : wr.heap.size ≤ w1.heap.size := hg.size
  have b1 : Below (w.heap.size + 2) w1 w2 := ((Below.refl _ _).alloc (by omega) _).grown hg2 (by simp; omega) (fun m e => (h1.lt m e).1)
  refine ⟨by rw [tab_succ, List.map_append]; exact hown, ?_, hmon _ _ _ hI (b1.mono (by omega))⟩
  have g1 := gb_trans h2 hg
  refine ⟨b1.os.trans g1.os, b1.tape.trans g1.tape, b1.output.trans g1.output, Nat.le_trans g1.size b1.size, fun i hi hn => ?_⟩
  rw [b1.block i (by simpa using hi), g1.block i hi hn]

theorem FI.owned {w wr w1 : World} {row : Option Nat} {I : Nat → World → Prop} {t : Nat → Int} {R C : Int} {k : Nat} {l : Value} (hrow : ∀ m, row = some m → m < w.heap.size)
    (h : FI w row I t R C k l wr) (hg : wr.grownBy w1 row) (o : Obj) : (w1.alloc o).ownsRow (w.heap.size + 2) 27 1 l k ((tab t k).map (Value.int .i64)) := by
  refine (h.1.kept hg ?_).alloc o
  cases hv : l.ownBlock with
  | none => exact .inl rfl
  | some m => exact .inr (fun e => by have h1 := hrow m e.symm; have h2 := (h.1.lt m hv).1; omega)

theorem own_slice {w : World} {base e size n : Nat} {v : Value} {xs : List Value} (h : w.ownsRow base e size v n xs) : ∃ ao cap, v = .slice ao n cap := by
  rcases h.2 with ⟨rfl, rfl⟩ | ⟨g, cap, cur, rfl, _⟩
  · exact ⟨_, _, rfl⟩
  · exact ⟨_, _, rfl⟩
theorem own_mono {w : World} {base base' e size n : Nat} {v : Value} {xs : List Value} (h : w.ownsRow base e size v n xs) (hb : base' ≤ base) : w.ownsRow base' e size v n xs := by
  refine ⟨h.1, ?_⟩
  rcases h.2 with h0 | ⟨g, cap, cur, hv, hg, r⟩
  · exact .inl h0
  · exact .inr ⟨g, cap, cur, hv, Nat.le_trans hb hg, r⟩
theorem FI.ends {w wr : World} {row : Option Nat} {I : Nat → World → Prop} {t : Nat → Int} {R C : Int} {k : Nat} {l : Value} (hmon : ∀ k a b, I k a → Below w.heap.size a b → I k b) (h : FI w row I t R C k l wr) (x y z : Value) :
    (((wr.setCell ⟨w.heap.size + 1, 0, none⟩ x).setCell ⟨w.heap.size + 1, 1, none⟩ y).setCell ⟨w.heap.size + 1, 2, none⟩ z).ownsRow w.heap.size 27 1 l k ((tab t k).map (Value.int .i64)) ∧
    I k (((wr.setCell ⟨w.heap.size + 1, 0, none⟩ x).setCell ⟨w.heap.size + 1, 1, none⟩ y).setCell ⟨w.heap.size + 1, 2, none⟩ z) ∧
    w.grownBy (((wr.setCell ⟨w.heap.size + 1, 0, none⟩ x).setCell ⟨w.heap.size + 1, 1, none⟩ y).setCell ⟨w.heap.size + 1, 2, none⟩ z) row := by
  obtain ⟨h1, h2, h3⟩ := h
  have hB : Below w.heap.size wr (((wr.setCell ⟨w.heap.size + 1, 0, none⟩ x).setCell ⟨w.heap.size + 1, 1, none⟩ y).setCell ⟨w.heap.size + 1, 2, none⟩ z) :=
    (((Below.refl _ _).setCell (Nat.le_succ _) _).setCell (Nat.le_succ _) _).setCell (Nat.le_succ _) _
  refine ⟨own_mono (ownsRow_setCell_below (ownsRow_setCell_below (ownsRow_setCell_below h1 (Nat.lt_succ_self _) _) (Nat.lt_succ_self _) _) (Nat.lt_succ_self _) _) (by omega), hmon _ _ _ h3 hB, ?_⟩
  have hA : Below w.heap.size w ((w.alloc (.cells #[.int .i64 R, .int .i64 C] 87)).alloc (.cells #[.int .i64 0, .int .i64 0, .slice none 0 0] 24)) := ((Below.refl _ _).alloc (Nat.le_refl _) _).alloc (by simp) _
  have g1 := gb_trans (gb_below row hA) h2
  exact ⟨hB.os.trans g1.os, hB.tape.trans g1.tape, hB.output.trans g1.output, Nat.le_trans g1.size hB.size, fun i hi hn => by rw [hB.block i hi, g1.block i hi hn]⟩
theorem c1_one {w : World} {x : Value} {T : TypeId} : ∀ (j : Nat) (u : Value), [x][j]? = some u → (w.alloc (.cells #[x] T)).cell? ((⟨w.heap.size, 0, none⟩ : Addr).add j) = some u := by
  intro j u hj
  match j, hj with
  | 0, hj => simp at hj; subst hj; simp [Addr.add]
theorem c2_one {z : Int} : ∀ u ∈ [Value.int .i64 z], u.oneCell' = true := by intro u hu; simp at hu; subst hu; rfl

set_option maxHeartbeats 1600000 in
theorem filled_any (R C : Nat) (hR : R ≤ 8) (hC : C ≤ 8) (F : Nat) (hF : ∀ (args : Array Value) (a : World), Sem.run Tryz.prog (callFunc F args) a = Result.ok (Next.enter F args) a) (caps : Array Value) (t : Nat → Int) (row : Option Nat) (I : Nat → World → Prop) (w : World)
    (hrow : ∀ m, row = some m → m < w.heap.size) (hI0 : I 0 w) (hmon : ∀ k a b, I k a → Below w.heap.size a b → I k b)
    (hcall : ∀ (i j : Nat) a, i < R → j < C → I (i * C + j) a → Calls Tryz.prog F (#[.int .i64 i, .int .i64 j] ++ caps) a (fun e b => e = .returned (.int .i64 (t (i * C + j))) ∧ I (i * C + j + 1) b ∧ a.grownBy b row)) :
    Calls Tryz.prog 53 #[.agg #[.int .i64 R, .int .i64 C], .func (.func F) #[] caps] w fun e b => ∃ v, e = .returned (.agg #[.int .i64 R, .int .i64 C, v]) ∧
      b.ownsRow w.heap.size 27 1 v (R * C) ((tab t (R * C)).map (Value.int .i64)) ∧ I (R * C) b ∧ w.grownBy b row := by
  obtain ⟨i0, hi, hz0, hz1, hz2⟩ := info_parts Tryz.info33
  have hb : R * C ≤ 64 := mul_le_64 hR hC
  obtain ⟨q, hq⟩ : ∃ q, R * C = q := ⟨_, rfl⟩
  have hq' : (R : Int) * (C : Int) = (q : Int) := by rw [← hq]; exact (Int.natCast_mul R C).symm
  have HQ : Hid (R * C = q) := hq
  rw [hq] at hb ⊢
  clear hq
  go_enter Tryz.func53, Tryz.ntmps53
  go_wp2_with (at_make; refine wpList_make_own _ rfl _ _ 22 rfl (w.heap.size + 2) 27 i0 (.int .i64 0) 1 Tryz.under22 hi hz0 hz1 .i64 .i64 _ q rfl rfl rfl (by rw [hz2]; omega) (by unfold maxLen; omega) (by simp) ?_; intro w1 hown1 hg1; obtain ⟨cR, cC, cB⟩ := fill_cells (row := none) (fun m e => by cases e) hg1; have HF : FI w row I t R C 0 _ w1 := FI.start hmon hI0 hown1 hg1; clear hown1 hg1)
  go_loopw [5, 16] (fun l r wr => ∃ i : Nat, i ≤ R ∧ r = .int .i64 i ∧ FI w row I t R C (i * C) l wr) (fun _ r _ => R - (intOf r).toNat)
  case atStart => exact ⟨0, Nat.zero_le _, rfl, by rw [Nat.zero_mul]; simpa using HF⟩
  case round =>
    clear HF cR cC cB
    obtain ⟨i, hi', rfl, hfi⟩ := hrel
    obtain ⟨cR, cC, cB⟩ := fill_cells hrow hfi.2.1
    by_cases hlt : i < R
    · go_wp2
      go_loopw [5, 21] (fun l c wr => ∃ j : Nat, j ≤ C ∧ c = .int .i64 j ∧ FI w row I t R C (i * C + j) l wr) (fun _ c _ => C - (intOf c).toNat)
      case atStart => exact ⟨0, Nat.zero_le _, rfl, hfi⟩
      case round =>
        clear hfi cR cC cB
        obtain ⟨j, hj', rfl, hfi⟩ := hrel
        obtain ⟨cR, cC, cB⟩ := fill_cells hrow hfi.2.1
        by_cases hlj : j < C
        · have hat := at_lt hlt hlj
          rw [HQ.out] at hat
          have hc1 := hcall i j wr hlt hlj hfi.2.2
          have hsz : w.heap.size + 2 ≤ wr.heap.size := by have := hfi.2.1.size; simpa using this
          go_wp2_with (first
            | (at_builtin; refine wpList_append_own _ rfl _ _ 22 rfl (w.heap.size + 2) 27 i0 (.int .i64 0) 1 8 Tryz.under22 hi hz0 hz1 hz2 rfl (by decide) _ _ _ rfl (hfi.owned hrow hgx _) ⟨_, 0, none⟩ 1 1 [.int .i64 (t (i * C + j))] rfl rfl c1_one c2_one (by unfold maxLen; omega) (by omega) (by have h7 := hgx.size; simp; omega) ?_; intro v2 w2 hown2 hg2 hnil2; have HF2 := FI.step hmon hfi hgx hIx hown2 hg2; clear hown2 hg2 hnil2 hIx)
            | (refine Calls.mono hc1 ?_; rintro e wx ⟨rfl, hIx, hgx⟩))
          go_roundw
          case rel => exact ⟨j + 1, by omega, by go_num, HF2⟩
          case measure => simp [intOf]; omega
        · have hjC : j = C := by omega
          subst hjC
          go_wp2
          go_roundw
          case rel => exact ⟨i + 1, by omega, by go_num, by rw [Nat.succ_mul]; exact hfi⟩
          case measure => simp [intOf]; omega
    · have hiR : i = R := by omega
      subst hiR
      rw [HQ.out] at hfi
      obtain ⟨d0, d1, d2, f0, f1, f2⟩ := mat_cells cB
      obtain ⟨ao, cap, rfl⟩ := own_slice hfi.1
      have HE := hfi.ends hmon (.int .i64 i) (.int .i64 C) (.slice ao q cap)
      clear hfi
      go_wp2
      refine bodyPost_ret (v := .agg #[.int .i64 i, .int .i64 C, .slice ao q cap]) (by simp [results, Tryz.results53, go_sem, d0, d1, d2]) rfl ?_
      exact ⟨_, rfl, HE⟩
end Go.Proofs.YtiniobcknmaigaaGreat

/-
  The contract of the closure of mat.reckoned, over whatever function reckons the numbers.
-/
namespace Go.Proofs.YtiniobcknmaigaaGreat
open Go.RowKit Qm

theorem enters68 : ∀ (args : Array Value) (a : World), Sem.run Tryz.prog (callFunc 108 args) a = Result.ok (Next.enter 108 args) a := by
  intro args a
  simp [callFunc, Tryz.func108, go_sem]
  rfl

theorem reck1_end {a b : World} {M : Nat} {m o : Bool} (hM : a.heap[M]? = some (.cells #[.bool m] 4 (0, 0))) (hb : Below a.heap.size a b) :
    (b.setCell ⟨M, 0, none⟩ (.bool o)).heap[M]? = some (.cells #[.bool o] 4 (0, 0)) ∧ a.grownBy (b.setCell ⟨M, 0, none⟩ (.bool o)) (some M) := by
  have h1 : b.heap[M]? = some (.cells #[.bool m] 4 (0, 0)) := (hb.block M (lt_of_block hM)).trans hM
  refine ⟨one_setCell h1, ?_⟩
  refine ⟨hb.os, hb.tape, hb.output, by have := hb.size; simpa [World.setCell] using this, fun k hk hn => ?_⟩
  rw [Below.heap_setCell _ _ _ _ (by intro e; exact hn (by rw [e])), hb.block k hk]

set_option maxHeartbeats 400000 in
theorem reck1_any (i j : Int) (G : Nat) (hG : ∀ (args : Array Value) (a : World), Sem.run Tryz.prog (callFunc G args) a = Result.ok (Next.enter G args) a) (caps : Array Value) (T M : Nat) (t : Int) (m o : Bool) (a : World)
    (hT : a.cell? ⟨T, 0, none⟩ = some (.func (.func G) #[] caps)) (hM : a.heap[M]? = some (.cells #[.bool m] 4 (0, 0)))
    (hcall : Calls Tryz.prog G (#[.int .i64 i, .int .i64 j] ++ caps) a (fun e b => e = .returned (.tuple #[.int .i64 t, .bool o]) ∧ Below a.heap.size a b)) :
    Calls Tryz.prog 108 #[.int .i64 i, .int .i64 j, .pointer (some ⟨T, 0, none⟩), .pointer (some ⟨M, 0, none⟩)] a fun e b => e = .returned (.int .i64 t) ∧
      b.heap[M]? = some (.cells #[.bool (m || o)] 4 (0, 0)) ∧ a.grownBy b (some M) := by
  go_enter Tryz.func108, Tryz.ntmps108
  cases m
  all_goals
    go_wp2_with (refine Calls.mono hcall ?_; rintro e wx ⟨rfl, bx⟩; have c1 := cell_of_one ((bx.block M (lt_of_block hM)).trans hM); have c2 := free_of_one ((bx.block M (lt_of_block hM)).trans hM))
    go_ret
    have h := reck1_end (o := o) hM bx
    first
      | exact ⟨rfl, (reck1_end (o := o) hM bx).1, (reck1_end (o := o) hM bx).2⟩
      | exact ⟨rfl, (reck1_end (o := true) hM bx).1, (reck1_end (o := true) hM bx).2⟩
end Go.Proofs.YtiniobcknmaigaaGreat
