/-
  A matrix that comes in by value: what it shows.
-/
import Derived.Test.YtiniobcknmaigaaGreatG02
import Derived.OpenShut
import Derived.ChangeOld
import Derived.ChangeSlices
namespace Go.Proofs.YtiniobcknmaigaaGreat
open Go.ChangeShapes Go.WideShapes Go.ChangeAt Go.RowKit Qm

theorem Tryz.u33 : Tryz.prog.underlying 27 = some (.int .i64) := by kernel_rfl
theorem Tryz.u3 : Tryz.prog.underlying 3 = some (.int .i64) := by kernel_rfl
theorem Tryz.c33 : Tryz.prog.cellsOf 27 = 1 := by kernel_rfl
theorem Tryz.c22 : Tryz.prog.cellsOf 22 = 1 := by kernel_rfl
theorem Tryz.c3 : Tryz.prog.cellsOf 3 = 1 := by kernel_rfl
theorem Tryz.c24 : Tryz.prog.cellsOf 24 = 3 := by kernel_rfl
/-- the fields' types and places, in their order -/
def shapeOf (P : Program) (t : TypeId) : List (TypeId × Nat) := match P.underlying t with | some (.struct fs) => fs.toList.map fun f => (f.type, f.offset) | _ => []
theorem Tryz.shape24 : shapeOf Tryz.prog 24 = [(3, 0), (3, 1), (22, 2)] := by kernel_rfl

/-- a slice of numbers that came in -/
theorem slice_sees {H : Type} {enc : TypeId × Value → H} {w : World} {base : Nat} {spare : Nat → Bool} {held : Bool} {fuel : Nat} {cs : List Value} {x : DataW H × List MemPlace}
    (h : DataW.trod enc Tryz.prog w base spare held fuel 22 cs = some x) : ∃ v xs, cs = [v] ∧ Sees w v xs := by
  rcases open_ints Tryz.under22 Tryz.u33 Tryz.c33 h with ⟨rfl, _⟩ | ⟨a, len, cap, zs, rfl, _, hlc, _, hz, _, hcell, _⟩
  · exact ⟨_, [], rfl, none, 0, rfl, fun k hk => absurd hk (Nat.not_lt_zero k)⟩
  · have hlen : len ≤ zs.length := by rw [hz]; split <;> omega
    have hl : (zs.take len).length = len := by simp; omega
    refine ⟨_, zs.take len, rfl, some a, cap, by rw [hl], fun k hk => ?_⟩
    rw [hl] at hk
    have h1 := hcell k (by omega)
    refine ⟨a, rfl, ?_, ?_⟩
    · have := block_lt_of_cell h1; rw [add_block] at this; exact this
    · rw [h1]
      unfold ge
      rw [List.getD_eq_getElem?_getD, List.getD_eq_getElem?_getD, List.getElem?_take, if_pos hk]

set_option maxRecDepth 20000 in
theorem mat_open {H : Type} {enc : TypeId × Value → H} {w : World} {r : Reach} {b0 base : Nat} {spare : Nat → Bool} {held : Bool} {v : Value} {d : DataW H} {p : List MemPlace}
    (hv : Value.okWide Tryz.prog w r b0 24 v) (h : DataW.Trod enc Tryz.prog w base spare held 24 v d p) :
    ∃ (ra ca : Int) (sl : Value) (xs : List Int), v = .agg #[.int .i64 ra, .int .i64 ca, sl] ∧ Sees w sl xs := by
  have hsh := Tryz.shape24
  unfold shapeOf at hsh
  cases hu : Tryz.prog.underlying 24 with
  | none => rw [hu] at hsh; cases hsh
  | some u =>
    rw [hu] at hsh
    cases u with
    | struct fs =>
      simp only at hsh
      obtain ⟨cs, rfl, hsz⟩ := okWide_struct hu hv
      obtain ⟨fuel, hf⟩ := h
      obtain ⟨xs, n, _, hx, hl, hxl, hg⟩ := DataW.trod_struct hu hf
      have hlen : fs.size = 3 := by have := congrArg List.length hsh; simpa using this
      have f0 : ∃ f, fs[0]? = some f ∧ f.type = 3 ∧ f.offset = 0 := by
        have := congrArg (·[0]?) hsh
        simp only [List.getElem?_map, Array.getElem?_toList] at this
        cases e : fs[0]? with
        | none => rw [e] at this; cases this
        | some f => rw [e] at this; simp at this; exact ⟨f, rfl, this.1, this.2⟩
      have f1 : ∃ f, fs[1]? = some f ∧ f.type = 3 ∧ f.offset = 1 := by
        have := congrArg (·[1]?) hsh
        simp only [List.getElem?_map, Array.getElem?_toList] at this
        cases e : fs[1]? with
        | none => rw [e] at this; cases this
        | some f => rw [e] at this; simp at this; exact ⟨f, rfl, this.1, this.2⟩
      have f2 : ∃ f, fs[2]? = some f ∧ f.type = 22 ∧ f.offset = 2 := by
        have := congrArg (·[2]?) hsh
        simp only [List.getElem?_map, Array.getElem?_toList] at this
        cases e : fs[2]? with
        | none => rw [e] at this; cases this
        | some f => rw [e] at this; simp at this; exact ⟨f, rfl, this.1, this.2⟩
      obtain ⟨g0, h0, t0, o0⟩ := f0
      obtain ⟨g1, h1, t1, o1⟩ := f1
      obtain ⟨g2, h2, t2, o2⟩ := f2
      have q0 := hg 0 g0 h0
      have q1 := hg 1 g1 h1
      have q2 := hg 2 g2 h2
      rw [t0, o0, Tryz.c3, List.getElem?_eq_getElem (by omega)] at q0
      rw [t1, o1, Tryz.c3, List.getElem?_eq_getElem (by omega)] at q1
      rw [t2, o2, Tryz.c22, List.getElem?_eq_getElem (by omega)] at q2
      obtain ⟨ra, e0, _, _⟩ := DataW.trod_int Tryz.u3 q0
      obtain ⟨ca, e1, _, _⟩ := DataW.trod_int Tryz.u3 q1
      obtain ⟨sl, zs, e2, hs⟩ := slice_sees q2
      refine ⟨ra, ca, sl, zs, ?_, hs⟩
      have hc : (Value.agg cs).cells = cs := rfl
      rw [hc] at e0 e1 e2
      have hcs : cs.size = 3 := by rw [hsz]; exact Tryz.c24
      obtain ⟨l⟩ := cs
      simp only [List.size_toArray] at hcs
      match l, hcs with
      | [x, y, z], _ =>
        simp at e0 e1 e2
        rw [e0, e1, e2]
    | _ => simp at hsh
end Go.Proofs.YtiniobcknmaigaaGreat
