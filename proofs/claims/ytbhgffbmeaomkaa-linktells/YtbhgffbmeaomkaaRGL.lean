/-
  A region that draws its order, by one predicate D over which operations have been done, what they gave, and the world.
-/
import Derived.Test.YtbhgffbmeaomkaaRGo
import Derived.Test.YtbhgffbmeaomkaaDW
namespace Go.Proofs.Ytbhgffbmeaomkaa.Gr
open Go.RowKit Go.Sort
set_option linter.unusedVariables false

/-- the state a0 with some slots laid anew -/
def frL (a0 : Act) (f : Nat → Option Value) : Act := { tmps := a0.tmps.mapIdx fun k v => (f k).getD v, defers := a0.defers }
theorem frL_none (a0 : Act) : frL a0 (fun _ => none) = a0 := by
  cases a0 with
  | mk t d =>
    have h : Array.mapIdx (fun k v => v) t = t := by
      apply Array.ext
      · simp
      · intro k h1 h2; simp
    simp [frL, h]
theorem frL_put (a0 : Act) (f : Nat → Option Value) (d : Nat) (v : Value) : (frL a0 f).put (some d) v = frL a0 (fun k => if k = d then some v else f k) := by
  show ({ tmps := (a0.tmps.mapIdx fun k v => (f k).getD v).setIfInBounds d v, defers := a0.defers } : Act) = { tmps := a0.tmps.mapIdx fun k u => (if k = d then some v else f k).getD u, defers := a0.defers }
  congr 1
  apply Array.ext
  · simp
  · intro k h1 h2
    rw [Array.getElem_mapIdx]
    have h3 : k < a0.tmps.size := by simpa using h2
    by_cases h : d = k
    · subst h
      rw [if_pos rfl, Array.getElem_setIfInBounds_self]
      rfl
    · rw [if_neg (fun e => h e.symm), Array.getElem_setIfInBounds_ne _ h, Array.getElem_mapIdx]
      simpa using h3
/-- operation and slot: what is laid there, if it has been done -/
def fvG (sl : List (Nat × Nat)) (val : Nat → Value) (L : Nat → Bool) (k : Nat) : Option Value :=
  match sl.find? (fun e => e.2 == k) with
  | some e => if L e.1 = true then some (val e.1) else none
  | none => none
def upL (L : Nat → Bool) (i : Nat) : Nat → Bool := fun j => if j = i then true else L j
def upV (val : Nat → Value) (i : Nat) (v : Value) : Nat → Value := fun j => if j = i then v else val j
theorem fvG_nil (sl : List (Nat × Nat)) (val : Nat → Value) : fvG sl val (fun _ => false) = fun _ => none := by
  funext k
  unfold fvG
  split <;> simp
theorem fvG_up {sl : List (Nat × Nat)} {val : Nat → Value} {L : Nat → Bool} {i d : Nat} (v : Value) (hf : sl.find? (fun e => e.2 == d) = some (i, d)) (hu : ∀ e ∈ sl, e.1 = i → e.2 = d) :
    fvG sl (upV val i v) (upL L i) = fun k => if k = d then some v else fvG sl val L k := by
  funext k
  by_cases h : k = d
  · subst h
    rw [if_pos rfl]
    unfold fvG
    rw [hf]
    simp [upL, upV]
  · rw [if_neg h]
    unfold fvG
    cases e : sl.find? (fun e => e.2 == k) with
    | none => rfl
    | some x =>
      have hx := List.find?_some e
      have hm := List.mem_of_find?_eq_some e
      have hk : x.2 = k := by simpa using hx
      have hne : x.1 ≠ i := fun h1 => h (by rw [← hk]; exact hu x hm h1)
      simp [upL, upV, hne]
theorem fvG_no {sl : List (Nat × Nat)} {val : Nat → Value} {L : Nat → Bool} {i : Nat} (v : Value) (hu : ∀ e ∈ sl, e.1 ≠ i) : fvG sl (upV val i v) (upL L i) = fvG sl val L := by
  funext k
  unfold fvG
  cases e : sl.find? (fun e => e.2 == k) with
  | none => rfl
  | some x =>
    have hm := List.mem_of_find?_eq_some e
    simp [upL, upV, hu x hm]
theorem rdG {a0 : Act} {sl : List (Nat × Nat)} {val : Nat → Value} {L : Nat → Bool} {j s : Nat} {v : Value} (hs : s < a0.tmps.size) (hf : sl.find? (fun e => e.2 == s) = some (j, s)) (hL : L j = true) (hv : val j = v) : (frL a0 (fvG sl val L)).tmps[s]?.getD undef = v := by
  have h : fvG sl val L s = some v := by unfold fvG; rw [hf]; simp [hL, hv]
  unfold frL
  rw [Array.getElem?_mapIdx, Array.getElem?_eq_getElem hs]
  simp [h]
theorem rdO {a0 : Act} {sl : List (Nat × Nat)} {val : Nat → Value} {L : Nat → Bool} {s : Nat} {v : Value} (hf : sl.find? (fun e => e.2 == s) = none) (h0 : a0.tmps[s]?.getD undef = v) : (frL a0 (fvG sl val L)).tmps[s]?.getD undef = v := by
  have h : fvG sl val L s = none := by unfold fvG; rw [hf]
  unfold frL
  rw [Array.getElem?_mapIdx, ← h0]
  cases a0.tmps[s]? <;> simp [h]
theorem pres_of {f : Nat → List Nat} {n : Nat} {ls : List (List Nat)} (h : (List.range n).map f = ls) {i : Nat} {x : List Nat} (hi : i < n) (hx : ls[i]? = some x) : f i = x := by
  rw [← h, List.getElem?_map, List.getElem?_range hi] at hx
  simpa using hx
/-- what is laid, in the operations' order -/
def putsL (sl : List (Nat × Nat)) (val : Nat → Value) (a : Act) : Act := sl.foldl (fun a e => a.put (some e.2) (val e.1)) a
theorem frL_all (a0 : Act) (val : Nat → Value) : ∀ (sl : List (Nat × Nat)) (f : Nat → Option Value), (sl.map (·.2)).Nodup → (∀ e ∈ sl, f e.2 = none) →
    putsL sl val (frL a0 f) = frL a0 (fun k => match sl.find? (fun e => e.2 == k) with | some e => some (val e.1) | none => f k)
  | [], f, _, _ => by simp [putsL]
  | e :: sl, f, hd, hf => by
    have h1 : putsL (e :: sl) val (frL a0 f) = putsL sl val ((frL a0 f).put (some e.2) (val e.1)) := rfl
    rw [h1, frL_put, frL_all a0 val sl _ (by simp at hd; exact hd.2) ?_]
    · congr 1
      funext k
      by_cases hk : e.2 = k
      · subst hk
        have hn : sl.find? (fun x => x.2 == e.2) = none := by
          rw [List.find?_eq_none]
          intro x hx hx2
          simp at hd hx2
          exact hd.1 x.1 (by rw [← hx2]; exact hx)
        simp [hn]
      · have hne : (e.2 == k) = false := by simpa using hk
        simp only [List.find?_cons, hne, if_neg (fun h : k = e.2 => hk h.symm)]
    · intro x hx
      simp at hd
      have : x.2 ≠ e.2 := fun h => hd.1 x.1 (by rw [← h]; exact hx)
      simp only [if_neg this]
      exact hf x (List.mem_cons_of_mem _ hx)
theorem frL_end (a0 : Act) (sl : List (Nat × Nat)) (val : Nat → Value) (L : Nat → Bool) (hd : (sl.map (·.2)).Nodup) (hL : ∀ e ∈ sl, L e.1 = true) : frL a0 (fvG sl val L) = putsL sl val a0 := by
  have h := frL_all a0 val sl (fun _ => none) hd (fun _ _ => rfl)
  rw [frL_none] at h
  rw [h]
  congr 1
  funext k
  unfold fvG
  cases e : sl.find? (fun e => e.2 == k) with
  | none => rfl
  | some x => simp [hL x (List.mem_of_find?_eq_some e)]
/-- each operation's own step, and it is done -/
def stepL (sl : List (Nat × Nat)) (D : (Nat → Bool) → (Nat → Value) → World → Prop) (a0 : Act) (L : Nat → Bool) (val : Nat → Value) (i : Nat) (dst : Option Nat) (a' : Act) (w' : World) : Prop :=
  ∃ v, a' = (frL a0 (fvG sl val L)).put dst v ∧ D (upL L i) (upV val i v) w'
theorem wp_late {P : Program} {id : Nat} {ops : Array Oper} {Q : Exit → Act → World → Prop} (hm : P.follows .mixedOrders = true) (hlt : ∀ i, i < ops.size → ∀ k ∈ pres ops i, k < i)
    (sl : List (Nat × Nat)) (D : (Nat → Bool) → (Nat → Value) → World → Prop) (a0 : Act) (w0 : World) (val0 : Nat → Value) (h0 : D (fun _ => false) val0 w0.drew)
    (dst : Nat → Option Nat) (hd : ∀ i, i < ops.size → (∃ d, dst i = some d ∧ sl.find? (fun e => e.2 == d) = some (i, d) ∧ ∀ e ∈ sl, e.1 = i → e.2 = d) ∨ (dst i = none ∧ ∀ e ∈ sl, e.1 ≠ i))
    (hn : (sl.map (·.2)).Nodup) (hs : ∀ e ∈ sl, e.1 < ops.size)
    (hstep : ∀ i, i < ops.size → ∀ L val w, D L val w → (∀ j, j < ops.size → L j = true → ∀ k ∈ pres ops j, L k = true) → L i = false → (∀ k ∈ pres ops i, L k = true) →
      wpOp P ops Q i (stepL sl D a0 L val i (dst i)) (frL a0 (fvG sl val L)) w)
    (hend : ∀ L val w, D L val w → (∀ j, j < ops.size → L j = true) → Q .normal (putsL sl val a0) w) : (Code.region id ops true).wp P Q a0 w0 := by
  refine wp_region_L hm hlt (fun L a w => ∃ val, a = frL a0 (fvG sl val L) ∧ D L val w) ?_ ?_ ?_
  · exact ⟨val0, by rw [fvG_nil, frL_none], h0⟩
  · rintro L a w i hi ⟨val, rfl, hD⟩ hcl hLi hpi
    refine wpOp_mono ?_ (hstep i hi L val w hD hcl hLi hpi)
    rintro a' w' ⟨v, rfl, hD'⟩
    refine ⟨upV val i v, ?_, hD'⟩
    show _ = frL a0 (fvG sl (upV val i v) (upL L i))
    rcases hd i hi with ⟨d, e1, e2, e3⟩ | ⟨e1, e2⟩
    · rw [e1, frL_put, fvG_up v e2 e3]
    · rw [e1, fvG_no v e2]
      rfl
  · rintro L a w ⟨val, rfl, hD⟩ hall
    rw [frL_end a0 sl val L hn (fun e he => hall e.1 (hs e he))]
    exact hend L val w hD hall
end Go.Proofs.Ytbhgffbmeaomkaa.Gr
