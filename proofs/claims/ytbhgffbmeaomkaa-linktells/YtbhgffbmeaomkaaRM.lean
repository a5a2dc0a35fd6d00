/-
  Ends: how the document's In stands behind its copy.
-/
import Derived.Test.YtbhgffbmeaomkaaRG5B
import Derived.Test.YtbhgffbmeaomkaaLU
namespace Go.Proofs.Ytbhgffbmeaomkaa.Gr
open Go.RowKit Go.Sort Lm
set_option linter.unusedVariables false

theorem SeesI.apt {u u' : World} {v : Value} {xs : List Int} {k : Nat} (h : SeesI u v xs) (ha : Apt v xs k) (hg : u.grownBy u' (some k)) : SeesI u' v xs := by
  rcases ha with rfl | hn
  · exact sees_nil' h
  · obtain ⟨ao, cap, rfl, hc, hk⟩ := h
    refine ⟨ao, cap, rfl, hc, fun j x hx => ?_⟩
    obtain ⟨ad, ha, hl, hcell⟩ := hk j x hx
    refine ⟨ad, ha, Nat.lt_of_lt_of_le hl hg.size, ?_⟩
    rw [← hcell]
    have hB : ad.block ≠ k := hn _ (by rw [ha]; rfl)
    have hblk := hg.block ad.block hl (fun e => hB (by injection e))
    unfold World.cell?
    rw [add_block, hblk]
theorem Apt.above {u : World} {v : Value} {xs : List Int} {k : Nat} (h : SeesI u v xs) (hk : u.heap.size ≤ k) : Apt v xs k := (sees_lt h).imp id fun f j hj ej => (by have := f j hj; omega)
theorem Apt.drop {ao : Option Addr} {n cap k D : Nat} {xs : List Int} (h : Apt (.slice ao n cap) xs D) (hk : k ≤ xs.length) : Apt (.slice (if cap = k then ao else ao.map (·.add k)) (n - k) (cap - k)) (xs.drop k) D := by
  rcases h with rfl | h
  · exact .inl (by simp)
  · refine .inr fun j ej => ?_
    cases ao with
    | none => split at ej <;> simp [Value.ownBlock] at ej
    | some ad =>
      refine h j ?_
      split at ej
      · simpa [Value.ownBlock] using ej
      · simpa [Value.ownBlock, add_block] using ej
theorem own_othr {w w' : World} {base : Nat} {e : TypeId} {size n : Nat} {v : Value} {xs : List Value} {row : Option Nat} (h : w.ownsRow base e size v n xs) (hg : w.grownBy w' row) (hr : ∀ k, row = some k → v.ownBlock = some k → False) : w'.ownsRow base e size v n xs := by
  obtain ⟨hl, h0 | ⟨g, cap', cur, hv, hb', hg', r⟩⟩ := h
  · exact ⟨hl, .inl h0⟩
  · refine ⟨hl, .inr ⟨g, cap', cur, hv, hb', ?_, r⟩⟩
    rw [hg.block g (lt_of_block hg') (fun e => hr g e.symm (by rw [hv]; rfl))]
    exact hg'
/-- the end (B), the packet, the answer, and the copy (D) -/
structure RnS (w : World) (B D : Nat) (lcs pcs : Array Value) (own other first next : Int) (vs : Value) (ss : List Int) (u : World) : Prop where
  b : Below B w u
  hB : u.heap[B]? = some (.cells lcs 24 (0, 0))
  hP : u.heap[B + 1]? = some (.cells pcs 26 (0, 0))
  hR : u.heap[B + 1 + 1]? = some (.cells #[.int .i64 0, .int .i64 0, .int .i64 0, .slice none 0 0, .int .i64 0] 24 (0, 0))
  hD : u.heap[D]? = some (.cells #[.int .i64 own, .int .i64 other, .int .i64 first, vs, .int .i64 next] 24 (0, 0))
  s : SeesI u vs ss
  nd : Apt vs ss D
  nr : Apt vs ss (B + 1 + 1)
  lt : B + 1 + 1 < D
section
variable {w u u' : World} {B D : Nat} {own other first next : Int} {vs : Value} {ss : List Int} {lcs pcs : Array Value}
theorem RnS.lD (h : RnS w B D lcs pcs own other first next vs ss u) : D < u.heap.size := lt_of_block h.hD
theorem RnS.below (h : RnS w B D lcs pcs own other first next vs ss u) (hb : Below u.heap.size u u') : RnS w B D lcs pcs own other first next vs ss u' :=
  ⟨h.b.trans (hb.mono (by have := h.lD; have := h.lt; omega)), keep hb h.hB, keep hb h.hP, keep hb h.hR, keep hb h.hD, h.s.below hb, h.nd, h.nr, h.lt⟩
/-- another row grows -/
theorem RnS.row (h : RnS w B D lcs pcs own other first next vs ss u) {k : Nat} (hg : u.grownBy u' (some k)) (h1 : D < k) (h3 : Apt vs ss k) : RnS w B D lcs pcs own other first next vs ss u' := by
  have l := h.lt
  have d := h.lD
  exact ⟨h.b.grown hg (by omega) (fun j e => by cases e; omega), (hg.block B (by omega) (by simp; omega)).trans h.hB, (hg.block (B + 1) (by omega) (by simp; omega)).trans h.hP, (hg.block (B + 1 + 1) (by omega) (by simp; omega)).trans h.hR, (hg.block D (by omega) (by simp; omega)).trans h.hD, h.s.apt h3 hg, h.nd, h.nr, h.lt⟩
theorem RnS.rows (h : RnS w B D lcs pcs own other first next vs ss u) {row : Option Nat} (hg : u.grownBy u' row) (hr : ∀ k, row = some k → D < k ∧ Apt vs ss k) : RnS w B D lcs pcs own other first next vs ss u' := by
  cases row with
  | none => exact h.below (gb_none hg)
  | some k => exact h.row hg (hr k rfl).1 (hr k rfl).2
theorem RnS.put {own' other' first' next' : Int} {vs' : Value} {ss' : List Int} (h : RnS w B D lcs pcs own other first next vs ss u) (hg : u.grownBy u' (some D))
    (hD' : u'.heap[D]? = some (.cells #[.int .i64 own', .int .i64 other', .int .i64 first', vs', .int .i64 next'] 24 (0, 0))) (hs : SeesI u vs' ss') (h1 : Apt vs' ss' D) (h2 : Apt vs' ss' (B + 1 + 1)) : RnS w B D lcs pcs own' other' first' next' vs' ss' u' := by
  have l := h.lt
  have d := h.lD
  exact ⟨h.b.grown hg (by omega) (fun j e => by cases e; omega), (hg.block B (by omega) (by simp; omega)).trans h.hB, (hg.block (B + 1) (by omega) (by simp; omega)).trans h.hP, (hg.block (B + 1 + 1) (by omega) (by simp; omega)).trans h.hR, hD', hs.apt h1 hg, h1, h2, h.lt⟩
theorem RnS.set1 (h : RnS w B D lcs pcs own other first next vs ss u) (x : Int) : RnS w B D lcs pcs own x first next vs ss (u.setCell ⟨D, 1, none⟩ (.int .i64 x)) := h.put (gb_setC5 _ _ _ _) (set_five1 h.hD _) h.s h.nd h.nr
theorem RnS.set2 (h : RnS w B D lcs pcs own other first next vs ss u) (x : Int) : RnS w B D lcs pcs own other x next vs ss (u.setCell ⟨D, 2, none⟩ (.int .i64 x)) := h.put (gb_setC5 _ _ _ _) (set_five2 h.hD _) h.s h.nd h.nr
theorem RnS.set4 (h : RnS w B D lcs pcs own other first next vs ss u) (x : Int) : RnS w B D lcs pcs own other first x vs ss (u.setCell ⟨D, 4, none⟩ (.int .i64 x)) := h.put (gb_setC5 _ _ _ _) (set_five4 h.hD _) h.s h.nd h.nr
theorem RnS.set3 (h : RnS w B D lcs pcs own other first next vs ss u) (v' : Value) (ss' : List Int) (hs : SeesI u v' ss') (h1 : Apt v' ss' D) (h2 : Apt v' ss' (B + 1 + 1)) : RnS w B D lcs pcs own other first next v' ss' (u.setCell ⟨D, 3, none⟩ v') := h.put (gb_setC5 _ _ _ _) (set_five3 h.hD _) hs h1 h2
theorem RnS.cD (h : RnS w B D lcs pcs own other first next vs ss u) : u.cell? ⟨D, 0, none⟩ = some (.int .i64 own) ∧ u.cell? ⟨D, 1, none⟩ = some (.int .i64 other) ∧ u.cell? ⟨D, 2, none⟩ = some (.int .i64 first) ∧ u.cell? ⟨D, 3, none⟩ = some vs ∧ u.cell? ⟨D, 4, none⟩ = some (.int .i64 next) := five_cells h.hD
theorem RnS.fD (h : RnS w B D lcs pcs own other first next vs ss u) (k : Nat) : u.frozen? ⟨D, k, none⟩ = false := not_frozen5 h.hD k
theorem RnS.fR (h : RnS w B D lcs pcs own other first next vs ss u) (k : Nat) : u.frozen? ⟨B + 1 + 1, k, none⟩ = false := not_frozen5 h.hR k
/-- the answer is laid down -/
theorem RnS.done (h : RnS w B D lcs pcs own other first next vs ss u) (y0 y1 y2 y3 y4 : Value) :
    (World.heap (((((u.setCell ⟨B + 1 + 1, 0, none⟩ y0).setCell ⟨B + 1 + 1, 1, none⟩ y1).setCell ⟨B + 1 + 1, 2, none⟩ y2).setCell ⟨B + 1 + 1, 3, none⟩ y3).setCell ⟨B + 1 + 1, 4, none⟩ y4))[B + 1 + 1]? = some (.cells #[y0, y1, y2, y3, y4] 24 (0, 0)) ∧
    (∀ v xs, SeesI u v xs → Apt v xs (B + 1 + 1) → SeesI (((((u.setCell ⟨B + 1 + 1, 0, none⟩ y0).setCell ⟨B + 1 + 1, 1, none⟩ y1).setCell ⟨B + 1 + 1, 2, none⟩ y2).setCell ⟨B + 1 + 1, 3, none⟩ y3).setCell ⟨B + 1 + 1, 4, none⟩ y4) v xs) ∧
    Below B w (((((u.setCell ⟨B + 1 + 1, 0, none⟩ y0).setCell ⟨B + 1 + 1, 1, none⟩ y1).setCell ⟨B + 1 + 1, 2, none⟩ y2).setCell ⟨B + 1 + 1, 3, none⟩ y3).setCell ⟨B + 1 + 1, 4, none⟩ y4) := by
  have h1 := h.lt
  have h2 := h.lD
  exact ⟨set_all5 h.hR _ _ _ _ _, fun v xs hs hn => hs.apt hn (gb_all5 u (B + 1 + 1) _ _ _ _ _), h.b.grown (gb_all5 u (B + 1 + 1) _ _ _ _ _) (by omega) (fun k e => by cases e; omega)⟩
/-- where it begins, behind the copy -/
theorem RnS.start {V : World} {Dn : Nat} {g : Option Addr} {n c : Nat} (h : IoS V ss [] #[.int .i64 own, .int .i64 other, .int .i64 first, .slice g n c, .int .i64 next] (.slice g n c) (.slice none 0 0) Dn true true true u) (bV : Below B w V)
    (hB : V.heap[B]? = some (.cells lcs 24 (0, 0))) (hP : V.heap[B + 1]? = some (.cells pcs 26 (0, 0))) (hR : V.heap[B + 1 + 1]? = some (.cells #[.int .i64 0, .int .i64 0, .int .i64 0, .slice none 0 0, .int .i64 0] 24 (0, 0))) :
    RnS w B Dn lcs pcs own other first next (.slice g n c) ss u := by
  have l := lt_of_block hR
  have d := h.d rfl
  have hs := h.s1 rfl
  exact ⟨bV.trans (h.b.mono (by omega)), keep h.b hB, keep h.b hP, keep h.b hR, h.r rfl, hs.1, (h.a rfl rfl).1, .inr fun k ek e => (by have := hs.2 k ek; omega), by omega⟩
end
namespace Lm
/-- what the first so many words tell -/
def toldW (place next : Int) (ws : List Int) (i : Nat) : List Int := if place ≤ next then (ws.take i).drop (next - place).toNat else []
theorem told_zero (place next : Int) (ws : List Int) : toldW place next ws 0 = [] := by unfold toldW; split <;> simp
theorem told_all (l : Lk) (p : Pk) : toldW p.place l.next p.words p.words.length = tellW l p := by unfold toldW tellW; simp
theorem told_len {place next : Int} {ws : List Int} {i : Nat} (h : i ≤ ws.length) : ((toldW place next ws i).length : Int) = if place ≤ next then ((i - (next - place).toNat : Nat) : Int) else 0 := by
  unfold toldW; split
  · simp; omega
  · simp
theorem told_yes {place next : Int} {ws : List Int} {i : Nat} (h : i < ws.length) (e : place + i = next + ((toldW place next ws i).length : Int)) (hp : 0 ≤ i) : toldW place next ws (i + 1) = toldW place next ws i ++ [ws.getD i 0] := by
  have hl := told_len (place := place) (next := next) (Nat.le_of_lt h)
  by_cases hle : place ≤ next
  · rw [if_pos hle] at hl
    have hd : (next - place).toNat ≤ i := by omega
    unfold toldW
    rw [if_pos hle, if_pos hle, List.take_add_one, List.getElem?_eq_getElem h]
    simp only [Option.toList_some]
    rw [List.drop_append_of_le_length (by rw [List.length_take]; omega)]
    simp [List.getD, List.getElem?_eq_getElem h]
  · rw [if_neg hle] at hl; omega
theorem told_no {place next : Int} {ws : List Int} {i : Nat} (h : i < ws.length) (e : ¬ place + i = next + ((toldW place next ws i).length : Int)) : toldW place next ws (i + 1) = toldW place next ws i := by
  have hl := told_len (place := place) (next := next) (Nat.le_of_lt h)
  by_cases hle : place ≤ next
  · rw [if_pos hle] at hl
    have hd : i < (next - place).toNat := by omega
    unfold toldW
    rw [if_pos hle, if_pos hle, List.drop_eq_nil_of_le (by rw [List.length_take]; omega), List.drop_eq_nil_of_le (by rw [List.length_take]; omega)]
  · unfold toldW; rw [if_neg hle, if_neg hle]
end Lm
end Go.Proofs.Ytbhgffbmeaomkaa.Gr
