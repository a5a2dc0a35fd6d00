/-
  A region that draws its order, by what holds whichever of its operations have been done: in general.
-/
import Derived.Test.YtbhgffbmeaomkaaGR
import Derived.Orders
namespace Go.Proofs.Ytbhgffbmeaomkaa.Gr
open Go.RowKit

theorem wpAny_inv {P : Program} {md : Region.Mode} {ops : Array Oper} {Q : Exit → Act → World → Prop} (S : Array Bool → Act → World → Prop) (cnt : Array Bool → Nat)
    (hstep : ∀ listed a w i, S listed a w → i ∈ Region.ready md ops listed → cnt (listed.setIfInBounds i true) < cnt listed ∧ wpOp P ops Q i (S (listed.setIfInBounds i true)) a w)
    (hend : ∀ listed a w, S listed a w → Region.ready md ops listed = [] → Q .normal a w) :
    ∀ (fuel : Nat) (listed : Array Bool) (a : Act) (w : World), S listed a w → cnt listed ≤ fuel → wpAny P md ops Q fuel listed a w := by
  intro fuel
  induction fuel with
  | zero =>
    intro listed a w hs hc
    have hr : Region.ready md ops listed = [] := by
      apply List.eq_nil_iff_forall_not_mem.2
      intro i hi
      have := (hstep listed a w i hs hi).1
      omega
    exact ⟨hr, hend _ _ _ hs hr⟩
  | succ fuel ih =>
    intro listed a w hs hc
    refine ⟨fun hr => hend _ _ _ hs hr, fun i hi => ?_⟩
    obtain ⟨h1, h2⟩ := hstep listed a w i hs hi
    exact wpOp_mono (fun a' w' h => ih _ _ _ h (by omega)) h2

theorem wpOp_of {P : Program} {ops : Array Oper} {Q : Exit → Act → World → Prop} {i : Nat} {K : Act → World → Prop} {a : Act} {w : World} (o : Oper) (h : ops[i]? = some o) (hg : o.guard = none) (hw : o.wp P a w K Q) : wpOp P ops Q i K a w := by
  unfold wpOp
  rw [h]
  simp only [Region.wanted, hg, if_true]
  exact .inl hw

/-- what must have been done ahead of operation i -/
def pres (ops : Array Oper) (i : Nat) : List Nat := ((ops[i]?).map fun o => (o.after.toList.filter (Region.binds .any)).map (·.on)).getD []

theorem mem_ready {ops : Array Oper} {l : Array Bool} {i : Nat} : i ∈ Region.ready .any ops l ↔ i < ops.size ∧ l.getD i true = false ∧ ∀ k ∈ pres ops i, l.getD k false = true := by
  simp only [Region.ready, List.mem_filter, List.mem_range, Bool.and_eq_true, Bool.not_eq_true', pres]
  constructor
  · rintro ⟨h1, h2, h3⟩
    refine ⟨h1, h2, ?_⟩
    rw [Array.getElem?_eq_getElem h1] at h3 ⊢
    simp only [Option.map_some, Option.getD_some, Array.all_eq_true, Bool.or_eq_true, Bool.not_eq_true'] at h3
    intro k hk
    simp only [Option.map_some, Option.getD_some, List.mem_map, List.mem_filter] at hk
    obtain ⟨e, ⟨he, hb⟩, rfl⟩ := hk
    obtain ⟨j, hj, hje⟩ := Array.mem_iff_getElem.1 (Array.mem_toList_iff.1 he)
    rcases h3 j hj with h | h
    · rw [hje, hb] at h; cases h
    · rw [hje] at h; exact h
  · rintro ⟨h1, h2, h3⟩
    refine ⟨h1, h2, ?_⟩
    rw [Array.getElem?_eq_getElem h1] at h3 ⊢
    simp only [Option.map_some, Option.getD_some, Array.all_eq_true, Bool.or_eq_true, Bool.not_eq_true']
    intro j hj
    cases hb : Region.binds .any (ops[i].after[j]) with
    | false => exact .inl rfl
    | true =>
      refine .inr (h3 _ ?_)
      simp only [Option.map_some, Option.getD_some, List.mem_map, List.mem_filter]
      exact ⟨_, ⟨Array.mem_toList_iff.2 (Array.getElem_mem hj), hb⟩, rfl⟩

def cntF (l : Array Bool) : Nat := (l.toList.map fun b => bif b then 0 else 1).sum
theorem cntL_set : ∀ (l : List Bool) (i : Nat), l[i]? = some false → ((l.set i true).map fun b => bif b then 0 else 1).sum < (l.map fun b => bif b then 0 else 1).sum
  | [], i, h => by simp at h
  | b :: l, 0, h => by simp at h; subst h; simp
  | b :: l, i + 1, h => by
    have := cntL_set l i (by simpa using h)
    simp only [List.set_cons_succ, List.map_cons, List.sum_cons]; omega
theorem cntF_set (l : Array Bool) (i : Nat) (h : l[i]? = some false) : cntF (l.setIfInBounds i true) < cntF l := by
  unfold cntF
  rw [Array.toList_setIfInBounds]
  exact cntL_set l.toList i (by simpa using h)

theorem wp_region_L {P : Program} {id : Nat} {ops : Array Oper} {Q : Exit → Act → World → Prop} {a : Act} {w : World} (hm : P.follows .mixedOrders = true) (hlt : ∀ i, i < ops.size → ∀ k ∈ pres ops i, k < i)
    (S : (Nat → Bool) → Act → World → Prop) (h0 : S (fun _ => false) a w.drew)
    (hstep : ∀ (L : Nat → Bool) a w i, i < ops.size → S L a w → (∀ j, j < ops.size → L j = true → ∀ k ∈ pres ops j, L k = true) → L i = false → (∀ k ∈ pres ops i, L k = true) → wpOp P ops Q i (S (fun j => if j = i then true else L j)) a w)
    (hend : ∀ (L : Nat → Bool) a w, S L a w → (∀ j, j < ops.size → L j = true) → Q .normal a w) : (Code.region id ops true).wp P Q a w := by
  refine wp_region_any hm (wpAny_inv (fun l a w => l.size = ops.size ∧ (∀ j, j < ops.size → l.getD j false = true → ∀ k ∈ pres ops j, l.getD k false = true) ∧ S (fun j => l.getD j false) a w) cntF ?_ ?_ _ _ _ _ ?_ ?_)
  · rintro l a w i ⟨hs, hc, hS⟩ hi
    obtain ⟨h1, h2, h3⟩ := mem_ready.1 hi
    have hil : i < l.size := by omega
    have h2' : l.getD i false = false := by
      rw [Array.getD_eq_getD_getElem?, Array.getElem?_eq_getElem hil] at h2 ⊢; exact h2
    have hg : l[i]? = some false := by rw [Array.getElem?_eq_getElem hil]; rw [Array.getD_eq_getD_getElem?, Array.getElem?_eq_getElem hil] at h2; simpa using h2
    have hset : ∀ j, (l.setIfInBounds i true).getD j false = if j = i then true else l.getD j false := by
      intro j
      rw [Array.getD_eq_getD_getElem?, Array.getElem?_setIfInBounds, Array.getD_eq_getD_getElem?]
      by_cases h : i = j
      · subst h; rw [if_pos rfl, if_pos rfl, if_pos hil]; rfl
      · rw [if_neg h, if_neg (fun e => h e.symm)]
    refine ⟨cntF_set l i hg, wpOp_mono ?_ (hstep _ a w i h1 hS hc h2' h3)⟩
    intro a' w' h
    refine ⟨by rw [Array.size_setIfInBounds]; exact hs, ?_, ?_⟩
    · intro j hj hjt k hk
      rw [hset] at hjt ⊢
      by_cases e : k = i
      · rw [if_pos e]
      · rw [if_neg e]
        by_cases e2 : j = i
        · subst e2; exact h3 k hk
        · rw [if_neg e2] at hjt; exact hc j hj hjt k hk
    · have e : (fun j => (l.setIfInBounds i true).getD j false) = fun j => if j = i then true else l.getD j false := funext hset
      rw [e]; exact h
  · rintro l a w ⟨hs, hc, hS⟩ hr
    refine hend _ a w hS ?_
    have : ∀ m j, j < m → j < ops.size → l.getD j false = true := by
      intro m
      induction m with
      | zero => intro j hj; omega
      | succ m ih =>
        intro j hj hjs
        cases e : l.getD j false with
        | true => rfl
        | false =>
          have hjl : j < l.size := by omega
          have : j ∈ Region.ready .any ops l := mem_ready.2 ⟨hjs, by rw [Array.getD_eq_getD_getElem?, Array.getElem?_eq_getElem hjl] at e ⊢; exact e, fun k hk => ih k (by have := hlt j hjs k hk; omega) (by have := hlt j hjs k hk; omega)⟩
          rw [hr] at this; cases this
    exact fun j hj => this (j + 1) j (by omega) hj
  · refine ⟨by simp, ?_, ?_⟩
    · intro j hj hjt
      exfalso
      rw [Array.getD_eq_getD_getElem?] at hjt
      simp [hj] at hjt
    · have e : (fun j => (Array.replicate ops.size false).getD j false) = fun _ => false := by
        funext j
        rw [Array.getD_eq_getD_getElem?]
        by_cases h : j < ops.size <;> simp [h]
      rw [e]; exact h0
  · unfold cntF
    have : ∀ n : Nat, ((List.replicate n false).map fun b => bif b then 0 else 1).sum = n := by
      intro n
      induction n with
      | zero => rfl
      | succ n ih => rw [List.replicate_succ, List.map_cons, List.sum_cons, ih]; simp; omega
    rw [Array.toList_replicate, this]
    exact Nat.le_refl _
end Go.Proofs.Ytbhgffbmeaomkaa.Gr
