/-
  Rows in memory, of whatever one-cell values: what a slice shows; what a call leaves of the world.
-/
import Derived.Test.YtbhgffbmeaomkaaRows
import Derived.WalkKit
import Derived.ProofKit
import Derived.WalkLawsBesides
import Derived.Below
import Derived.OpenShut
import Derived.ChangeOld
import Derived.ChangeSlices
import Derived.OwnWalk
import Derived.OneCell
import Derived.Carry
namespace Go.Proofs.Ytbhgffbmeaomkaa.Gr
open Go.ChangeShapes Go.WideShapes Go.ChangeAt Go.RowKit

theorem bt {a b c : World} (h : Below a.heap.size a b) (k : Below b.heap.size b c) : Below a.heap.size a c := h.trans (k.mono h.size)
theorem box_below (w : World) (o : Obj) : Below w.heap.size w (w.alloc o) := (Below.refl _ _).alloc (Nat.le_refl _) _
theorem gb_refl (w : World) (row : Option Nat) : w.grownBy w row := ⟨rfl, rfl, rfl, Nat.le_refl _, fun _ _ _ => rfl⟩
theorem gb_trans {a b c : World} {row : Option Nat} (h : a.grownBy b row) (k : b.grownBy c row) : a.grownBy c row :=
  ⟨k.os.trans h.os, k.tape.trans h.tape, k.output.trans h.output, Nat.le_trans h.size k.size, fun i hi hn => (k.block i (Nat.lt_of_lt_of_le hi h.size) hn).trans (h.block i hi hn)⟩
theorem gb_below {w w' : World} (row : Option Nat) (h : Below w.heap.size w w') : w.grownBy w' row := ⟨h.os, h.tape, h.output, h.size, fun k hk _ => h.block k hk⟩
theorem below_gb {B : Nat} {w w' : World} {row : Option Nat} (h : w.grownBy w' row) (hB : B ≤ w.heap.size) (hr : ∀ k, row = some k → B ≤ k) : Below B w w' := (Below.refl B w).grown h hB hr
theorem gb_none {w w' : World} (h : w.grownBy w' none) : Below w.heap.size w w' := below_gb h (Nat.le_refl _) (fun k e => by cases e)
theorem keep {w w' : World} {b : Nat} {o : Obj} (hb : Below w.heap.size w w') (h : w.heap[b]? = some o) : w'.heap[b]? = some o := (hb.block b (lt_of_block h)).trans h
theorem heap_old {w : World} {b : Nat} {x : Obj} (h : w.heap[b]? = some x) (o : Obj) : (w.alloc o).heap[b]? = some x := (Below.heap_alloc _ _ _ (lt_of_block h)).trans h
theorem heap_new (w : World) (o : Obj) : (w.alloc o).heap[w.heap.size]? = some o := heap_alloc_new w o
theorem add_block (a : Addr) (k : Nat) : (a.add k).block = a.block := by unfold Addr.add; split <;> rfl

theorem own_mono {w : World} {base base' : Nat} {e : TypeId} {size n : Nat} {v : Value} {xs : List Value} (h : w.ownsRow base e size v n xs) (hb : base' ≤ base) : w.ownsRow base' e size v n xs := by
  refine ⟨h.1, ?_⟩
  rcases h.2 with h0 | ⟨g, cap, cur, hv, hg, r⟩
  · exact .inl h0
  · exact .inr ⟨g, cap, cur, hv, Nat.le_trans hb hg, r⟩

/-- what a slice shows: its cells, one an element -/
def Row (w : World) (v : Value) (vs : List Value) : Prop :=
  ∃ ao cap, v = .slice ao vs.length cap ∧ (vs.length ≤ cap ∧ (ao = none → cap = 0)) ∧ ∀ (k : Nat) (u : Value), vs[k]? = some u → ∃ ad, ao = some ad ∧ ad.block < w.heap.size ∧ w.cell? (ad.add k) = some u
section
variable {w w' : World} {v : Value} {vs : List Value}
theorem Row.below (h : Row w v vs) (hb : Below w.heap.size w w') : Row w' v vs := by
  obtain ⟨ao, cap, hv, hc, hk⟩ := h
  refine ⟨ao, cap, hv, hc, fun k u hu => ?_⟩
  obtain ⟨ad, ha, hl, hcell⟩ := hk k u hu
  exact ⟨ad, ha, Nat.lt_of_lt_of_le hl hb.size, by rw [hb.cell (by rw [add_block]; exact hl)]; exact hcell⟩
theorem Row.slice (h : Row w v vs) : ∃ ao cap, v = .slice ao vs.length cap := let ⟨ao, cap, hv, _⟩ := h; ⟨ao, cap, hv⟩
theorem Row.le {ao : Option Addr} {n cap : Nat} (h : Row w (.slice ao n cap) vs) : vs.length ≤ cap ∧ n = vs.length := by
  obtain ⟨_, _, e, hc, _⟩ := h
  injection e with _ e2 e3
  rw [e3]; exact ⟨hc.1, e2⟩
theorem Row.of_none {n cap : Nat} (h : Row w (.slice none n cap) vs) : n = 0 ∧ cap = 0 := by
  obtain ⟨ao, c, e, hc, _⟩ := h
  injection e with e1 e2 e3
  have := hc.2 e1.symm
  omega
theorem Row.at {ao : Option Addr} {n cap : Nat} (h : Row w (.slice ao n cap) vs) {k : Nat} {u : Value} (hu : vs[k]? = some u) : ∃ ad, ao = some ad ∧ ad.block < w.heap.size ∧ w.cell? (ad.add k) = some u := by
  obtain ⟨_, _, e, _, hk⟩ := h
  injection e with e1
  subst e1
  exact hk k u hu
theorem Row.own {base n : Nat} {t : TypeId} (h : w.ownsRow base t 1 v n vs) : Row w v vs := by
  obtain ⟨hl, h0 | ⟨g, cap, cur, hv, hb, hg, hcp, hm, hs, hc⟩⟩ := id h
  · obtain ⟨rfl, rfl⟩ := h0
    have : vs = [] := List.eq_nil_of_length_eq_zero (by simpa using hl)
    subst this
    exact ⟨none, 0, rfl, ⟨Nat.le_refl _, fun _ => rfl⟩, fun k u hu => by simp at hu⟩
  · rw [Nat.mul_one] at hl
    refine ⟨some ⟨g, 0, none⟩, cap, by rw [hl]; exact hv, ⟨by rw [hl]; exact hcp, fun e => by cases e⟩, fun k u hu => ⟨_, rfl, (Array.getElem?_eq_some_iff.1 hg).1, ?_⟩⟩
    exact h.cells (g := g) (by rw [hv]; rfl) k u hu
theorem Row.nil (w : World) : Row w (.slice none 0 0) [] := ⟨none, 0, rfl, ⟨Nat.le_refl _, fun _ => rfl⟩, fun k u hu => by simp at hu⟩
/-- a row of the first ones -/
theorem Row.take (h : Row w v vs) {ao : Option Addr} {n cap : Nat} (hv : v = .slice ao n cap) {m : Nat} (hm : m ≤ vs.length) : Row w (.slice ao m cap) (vs.take m) := by
  subst hv
  obtain ⟨ao', cap', e, hc, hk⟩ := h
  injection e with e1 e2 e3
  subst e1; subst e3
  refine ⟨ao, cap, by rw [List.length_take, Nat.min_eq_left hm], ⟨by rw [List.length_take]; omega, hc.2⟩, fun k u hu => ?_⟩
  rw [List.getElem?_take] at hu
  split at hu
  · exact hk k u hu
  · cases hu
end
/-- a slice that lies in memory from B on -/
def New (B : Nat) (v : Value) : Prop := ∀ k, v.ownBlock = some k → B ≤ k
theorem New.mono {B B' : Nat} {v : Value} (h : New B v) (hb : B' ≤ B) : New B' v := fun k e => Nat.le_trans hb (h k e)
theorem New.own {w : World} {base e size n : Nat} {v : Value} {xs : List Value} (h : w.ownsRow base e size v n xs) : New base v := fun k e => (h.lt k e).1

/-- numbers of so many bits -/
def iv {n : Nat} (b : BitVec n) : Int := (b.toNat : Int)
abbrev vb (b : BitVec 8) : Value := .int .u8 (iv b)
abbrev vc (b : BitVec 32) : Value := .int .u32 (iv b)
/-- what a slice of bytes shows -/
def SeesB (w : World) (v : Value) (bs : List (BitVec 8)) : Prop := Row w v (bs.map vb)
section
variable {w w' : World} {v : Value} {bs : List (BitVec 8)}
theorem SeesB.below (h : SeesB w v bs) (hb : Below w.heap.size w w') : SeesB w' v bs := Row.below h hb
theorem SeesB.slice (h : SeesB w v bs) : ∃ ao cap, v = .slice ao bs.length cap := by
  obtain ⟨ao, cap, e⟩ := Row.slice h
  exact ⟨ao, cap, by rw [e, List.length_map]⟩
theorem SeesB.le {ao : Option Addr} {n cap : Nat} (h : SeesB w (.slice ao n cap) bs) : bs.length ≤ cap ∧ n = bs.length := by
  have := Row.le h
  rwa [List.length_map] at this
theorem SeesB.at {ao : Option Addr} {n cap : Nat} (h : SeesB w (.slice ao n cap) bs) (k : Nat) (hk : k < bs.length) : ∃ ad, ao = some ad ∧ ad.block < w.heap.size ∧ w.cell? (ad.add k) = some (vb (bs.getD k 0#8)) :=
  Row.at h (by rw [List.getElem?_map, List.getD_eq_getElem?_getD, List.getElem?_eq_getElem hk]; rfl)
end
theorem SeesB.take' {w : World} {bs : List (BitVec 8)} {ao : Option Addr} {n cap : Nat} (h : SeesB w (.slice ao n cap) bs) {m : Nat} (hm : m ≤ bs.length) : SeesB w (.slice ao m cap) (bs.take m) := by
  have := Row.take h rfl (m := m) (by simpa using hm)
  unfold SeesB
  rw [List.map_take]
  exact this
theorem iv8 (x : Int) (h0 : 0 ≤ x) (h1 : x < 256) : iv (BitVec.ofInt 8 x) = x := by
  unfold iv; rw [BitVec.toNat_ofInt]; omega
theorem under5 : Try.prog.underlying 5 = some (.int .u8) := by kernel_rfl
theorem cells5 : Try.prog.cellsOf 5 = 1 := by kernel_rfl
theorem info5 : (Try.prog.info? 5).map (fun i => (i.zero, i.size, i.bytes)) = some (some (.int .u8 0), 1, 1) := by kernel_rfl
end Go.Proofs.Ytbhgffbmeaomkaa.Gr
