/-
  Ends: the region of the code's In in which what was heard of is let go.
-/
import Derived.Test.YtbhgffbmeaomkaaRGo
import Derived.Test.YtbhgffbmeaomkaaLIo
namespace Go.Proofs.Ytbhgffbmeaomkaa.Gr
open Go.RowKit Go.Sort Lm
set_option linter.unusedVariables false

def fv (B C : Nat) (X : Value) (wt fi wf : Int) (x : Value) (L : Nat → Bool) (k : Nat) : Option Value :=
  if k = 47 then (if L 0 = true then some (.pointer (some ⟨B, 3, none⟩)) else none) else
  if k = 48 then (if L 1 = true then some X else none) else
  if k = 49 then (if L 2 = true then some (.pointer (some ⟨C, 4, none⟩)) else none) else
  if k = 50 then (if L 3 = true then some (.int .i64 wt) else none) else
  if k = 51 then (if L 4 = true then some (.pointer (some ⟨B, 2, none⟩)) else none) else
  if k = 52 then (if L 5 = true then some (.int .i64 fi) else none) else
  if k = 53 then (if L 6 = true then some (.int .i64 wf) else none) else
  if k = 54 then (if L 7 = true then some x else none) else
  if k = 55 then (if L 8 = true then some (.pointer (some ⟨C, 4, none⟩)) else none) else
  if k = 56 then (if L 9 = true then some (.int .i64 wt) else none) else
  if k = 57 then (if L 10 = true then some (.pointer (some ⟨B, 3, none⟩)) else none) else
  if k = 58 then (if L 12 = true then some (.pointer (some ⟨B, 2, none⟩)) else none) else none
def fr7 (a0 : Act) (f : Nat → Option Value) : Act := { tmps := a0.tmps.mapIdx fun k v => (f k).getD v, defers := a0.defers }
theorem fr7_none (a0 : Act) : fr7 a0 (fun _ => none) = a0 := by
  cases a0 with
  | mk t d =>
    have h : Array.mapIdx (fun k v => v) t = t := by
      apply Array.ext
      · simp
      · intro k h1 h2; simp
    simp [fr7, h]
theorem fr7_put (a0 : Act) (f : Nat → Option Value) (d : Nat) (v : Value) : (fr7 a0 f).put (some d) v = fr7 a0 (fun k => if k = d then some v else f k) := by
  show ({ tmps := (a0.tmps.mapIdx fun k v => (f k).getD v).setIfInBounds d v, defers := a0.defers } : Act) = { tmps := a0.tmps.mapIdx fun k u => (if k = d then some v else f k).getD u, defers := a0.defers }
  congr 1
  apply Array.ext
  · simp
  · intro k h1 h2
    rw [Array.getElem_mapIdx]
    have h3 : k < a0.tmps.size := by simpa using h2
    by_cases h : d = k
    · subst h
      rw [if_pos rfl, Array.getElem_setIfInBounds_self]
      rfl
    · rw [if_neg (fun e => h e.symm), Array.getElem_setIfInBounds_ne _ h, Array.getElem_mapIdx]
      simpa using h3
theorem fr7_get (a0 : Act) (f : Nat → Option Value) (s : Nat) (hs : s < a0.tmps.size) (v : Value) (h : f s = some v) : (fr7 a0 f).tmps[s]?.getD undef = v := by
  unfold fr7
  rw [Array.getElem?_mapIdx, Array.getElem?_eq_getElem hs]
  simp [h]
theorem fr7_old (a0 : Act) (f : Nat → Option Value) (s : Nat) (v : Value) (h : f s = none) (h0 : a0.tmps[s]?.getD undef = v) : (fr7 a0 f).tmps[s]?.getD undef = v := by
  unfold fr7
  rw [Array.getElem?_mapIdx]
  rw [← h0]
  cases a0.tmps[s]? <;> simp [h]
def up7 (L : Nat → Bool) (i : Nat) : Nat → Bool := fun j => if j = i then true else L j
theorem pres_at {f : Nat → List Nat} {n : Nat} {ls : List (List Nat)} (h : (List.range n).map f = ls) {i : Nat} {x : List Nat} (hi : i < n) (hx : ls[i]? = some x) : f i = x := by
  rw [← h, List.getElem?_map, List.getElem?_range hi] at hx
  simpa using hx
theorem fv_0 (B C : Nat) (X : Value) (wt fi wf : Int) (x : Value) (L : Nat → Bool) : fv B C X wt fi wf x (up7 L 0) = fun k => if k = 47 then some (.pointer (some ⟨B, 3, none⟩)) else fv B C X wt fi wf x L k := by
  funext k
  by_cases h : k = 47
  · subst h; simp [fv, up7]
  · simp [fv, up7, h]
theorem fv_1 (B C : Nat) (X : Value) (wt fi wf : Int) (x : Value) (L : Nat → Bool) : fv B C X wt fi wf x (up7 L 1) = fun k => if k = 48 then some X else fv B C X wt fi wf x L k := by
  funext k
  by_cases h : k = 48
  · subst h; simp [fv, up7]
  · simp [fv, up7, h]
theorem fv_2 (B C : Nat) (X : Value) (wt fi wf : Int) (x : Value) (L : Nat → Bool) : fv B C X wt fi wf x (up7 L 2) = fun k => if k = 49 then some (.pointer (some ⟨C, 4, none⟩)) else fv B C X wt fi wf x L k := by
  funext k
  by_cases h : k = 49
  · subst h; simp [fv, up7]
  · simp [fv, up7, h]
theorem fv_3 (B C : Nat) (X : Value) (wt fi wf : Int) (x : Value) (L : Nat → Bool) : fv B C X wt fi wf x (up7 L 3) = fun k => if k = 50 then some (.int .i64 wt) else fv B C X wt fi wf x L k := by
  funext k
  by_cases h : k = 50
  · subst h; simp [fv, up7]
  · simp [fv, up7, h]
theorem fv_4 (B C : Nat) (X : Value) (wt fi wf : Int) (x : Value) (L : Nat → Bool) : fv B C X wt fi wf x (up7 L 4) = fun k => if k = 51 then some (.pointer (some ⟨B, 2, none⟩)) else fv B C X wt fi wf x L k := by
  funext k
  by_cases h : k = 51
  · subst h; simp [fv, up7]
  · simp [fv, up7, h]
theorem fv_5 (B C : Nat) (X : Value) (wt fi wf : Int) (x : Value) (L : Nat → Bool) : fv B C X wt fi wf x (up7 L 5) = fun k => if k = 52 then some (.int .i64 fi) else fv B C X wt fi wf x L k := by
  funext k
  by_cases h : k = 52
  · subst h; simp [fv, up7]
  · simp [fv, up7, h]
theorem fv_6 (B C : Nat) (X : Value) (wt fi wf : Int) (x : Value) (L : Nat → Bool) : fv B C X wt fi wf x (up7 L 6) = fun k => if k = 53 then some (.int .i64 wf) else fv B C X wt fi wf x L k := by
  funext k
  by_cases h : k = 53
  · subst h; simp [fv, up7]
  · simp [fv, up7, h]
theorem fv_7 (B C : Nat) (X : Value) (wt fi wf : Int) (x : Value) (L : Nat → Bool) : fv B C X wt fi wf x (up7 L 7) = fun k => if k = 54 then some x else fv B C X wt fi wf x L k := by
  funext k
  by_cases h : k = 54
  · subst h; simp [fv, up7]
  · simp [fv, up7, h]
theorem fv_8 (B C : Nat) (X : Value) (wt fi wf : Int) (x : Value) (L : Nat → Bool) : fv B C X wt fi wf x (up7 L 8) = fun k => if k = 55 then some (.pointer (some ⟨C, 4, none⟩)) else fv B C X wt fi wf x L k := by
  funext k
  by_cases h : k = 55
  · subst h; simp [fv, up7]
  · simp [fv, up7, h]
theorem fv_9 (B C : Nat) (X : Value) (wt fi wf : Int) (x : Value) (L : Nat → Bool) : fv B C X wt fi wf x (up7 L 9) = fun k => if k = 56 then some (.int .i64 wt) else fv B C X wt fi wf x L k := by
  funext k
  by_cases h : k = 56
  · subst h; simp [fv, up7]
  · simp [fv, up7, h]
theorem fv_10 (B C : Nat) (X : Value) (wt fi wf : Int) (x : Value) (L : Nat → Bool) : fv B C X wt fi wf x (up7 L 10) = fun k => if k = 57 then some (.pointer (some ⟨B, 3, none⟩)) else fv B C X wt fi wf x L k := by
  funext k
  by_cases h : k = 57
  · subst h; simp [fv, up7]
  · simp [fv, up7, h]
theorem fv_12 (B C : Nat) (X : Value) (wt fi wf : Int) (x : Value) (L : Nat → Bool) : fv B C X wt fi wf x (up7 L 12) = fun k => if k = 58 then some (.pointer (some ⟨B, 2, none⟩)) else fv B C X wt fi wf x L k := by
  funext k
  by_cases h : k = 58
  · subst h; simp [fv, up7]
  · simp [fv, up7, h]
theorem fv_11 (B C : Nat) (X : Value) (wt fi wf : Int) (x : Value) (L : Nat → Bool) : fv B C X wt fi wf x (up7 L 11) = fv B C X wt fi wf x L := by
  funext k
  simp [fv, up7]
theorem fv_13 (B C : Nat) (X : Value) (wt fi wf : Int) (x : Value) (L : Nat → Bool) : fv B C X wt fi wf x (up7 L 13) = fv B C X wt fi wf x L := by
  funext k
  simp [fv, up7]
theorem fv_x (B C : Nat) (X : Value) (wt fi wf : Int) (x x' : Value) (L : Nat → Bool) (h : L 7 = false) : fv B C X wt fi wf x L = fv B C X wt fi wf x' L := by
  funext k
  simp [fv, h]
section
variable {a : Act} {w : World} {K : Act → World → Prop} {Q : Exit → Act → World → Prop} {o : Oper}
theorem o7_fL3 {s b : Nat} (hop : o.op = Op.fieldAddr 24 (Operand.tmp s) 3) (he : a.tmps[s]?.getD undef = .pointer (some ⟨b, 0, none⟩)) (hk : K (a.put o.dst (.pointer (some ⟨b, 3, none⟩))) w) : o.wp Try.prog a w K Q := by
  unfold Oper.wp
  simp [execOp, hop, go_sem, he]
  exact hk
theorem o7_fL2 {s b : Nat} (hop : o.op = Op.fieldAddr 24 (Operand.tmp s) 2) (he : a.tmps[s]?.getD undef = .pointer (some ⟨b, 0, none⟩)) (hk : K (a.put o.dst (.pointer (some ⟨b, 2, none⟩))) w) : o.wp Try.prog a w K Q := by
  unfold Oper.wp
  simp [execOp, hop, go_sem, he]
  exact hk
theorem o7_fP4 {s b : Nat} (hop : o.op = Op.fieldAddr 26 (Operand.tmp s) 4) (he : a.tmps[s]?.getD undef = .pointer (some ⟨b, 0, none⟩)) (hk : K (a.put o.dst (.pointer (some ⟨b, 4, none⟩))) w) : o.wp Try.prog a w K Q := by
  unfold Oper.wp
  simp [execOp, hop, go_sem, he]
  exact hk
theorem o7_ldI {s b f : Nat} {n : Int} (hop : o.op = Op.load 2 (Operand.tmp s)) (he : a.tmps[s]?.getD undef = .pointer (some ⟨b, f, none⟩)) (hc : w.cell? ⟨b, f, none⟩ = some (.int .i64 n)) (hk : K (a.put o.dst (.int .i64 n)) w) : o.wp Try.prog a w K Q := by
  unfold Oper.wp
  simp [execOp, hop, go_sem, he, hc]
  exact hk
theorem o7_ldS {s b f : Nat} {ao : Option Addr} {n cap : Nat} (hop : o.op = Op.load 22 (Operand.tmp s)) (he : a.tmps[s]?.getD undef = .pointer (some ⟨b, f, none⟩)) (hc : w.cell? ⟨b, f, none⟩ = some (.slice ao n cap)) (hk : K (a.put o.dst (.slice ao n cap)) w) : o.wp Try.prog a w K Q := by
  unfold Oper.wp
  simp [execOp, hop, go_sem, he, hc]
  exact hk
theorem o7_sub {s t : Nat} {x y z : Int} (hop : o.op = Op.binOp BinOp.sub 2 (Operand.tmp s) (Operand.tmp t) 2) (hx : a.tmps[s]?.getD undef = .int .i64 x) (hy : a.tmps[t]?.getD undef = .int .i64 y) (hw : IntKind.i64.wrap (x - y) = z) (hk : K (a.put o.dst (.int .i64 z)) w) : o.wp Try.prog a w K Q := by
  rw [← hw] at hk
  unfold Oper.wp
  simp [execOp, hop, go_sem, hx, hy]
  exact hk
theorem o7_call {s t : Nat} {ts : Array TypeId} (hop : o.op = Op.call { callee := Callee.value (Operand.func 29), args := #[Operand.tmp s, Operand.tmp t], argTypes := ts }) {v u : Value} (hx : a.tmps[s]?.getD undef = v) (hy : a.tmps[t]?.getD undef = u) {R : Ending → World → Prop} (hc : Calls Try.prog 29 #[v, u] w R)
    (hK : ∀ e w', R e w' → ∃ r, e = .returned r ∧ K (a.put o.dst r) w') : o.wp Try.prog a w K Q := by
  unfold Oper.wp
  simp [execOp, hop, go_sem, hx, hy]
  refine hc.mono ?_
  intro e w' h
  obtain ⟨r, rfl, hr⟩ := hK e w' h
  exact hr
theorem o7_stS {s t b f : Nat} {ao : Option Addr} {n cap : Nat} {old : Value} (hop : o.op = Op.store 22 (Operand.tmp s) (Operand.tmp t)) (he : a.tmps[s]?.getD undef = .pointer (some ⟨b, f, none⟩)) (hv : a.tmps[t]?.getD undef = .slice ao n cap) (hc : w.cell? ⟨b, f, none⟩ = some old) (hf : w.frozen? ⟨b, f, none⟩ = false) (hk : K (a.put o.dst undef) (w.setCell ⟨b, f, none⟩ (.slice ao n cap))) : o.wp Try.prog a w K Q := by
  unfold Oper.wp
  simp [execOp, hop, go_sem, he, hv, hc, hf]
  exact hk
theorem o7_stI {s t b f : Nat} {x : Int} {old : Value} (hop : o.op = Op.store 2 (Operand.tmp s) (Operand.tmp t)) (he : a.tmps[s]?.getD undef = .pointer (some ⟨b, f, none⟩)) (hv : a.tmps[t]?.getD undef = .int .i64 x) (hc : w.cell? ⟨b, f, none⟩ = some old) (hf : w.frozen? ⟨b, f, none⟩ = false) (hk : K (a.put o.dst undef) (w.setCell ⟨b, f, none⟩ (.int .i64 x))) : o.wp Try.prog a w K Q := by
  unfold Oper.wp
  simp [execOp, hop, go_sem, he, hv, hc, hf]
  exact hk
end
--MAIN
/-- how the world stands, by what has been done -/
def WD (G : Value → World → Prop) (B : Nat) (wt : Int) (w0 : World) (x : Value) (L : Nat → Bool) (w : World) : Prop :=
  (L 7 = false ∧ w = w0.drew) ∨ (L 7 = true ∧ L 11 = false ∧ G x w) ∨ (L 7 = true ∧ L 11 = true ∧ L 13 = false ∧ ∃ w4, G x w4 ∧ w = w4.setCell ⟨B, 3, none⟩ x) ∨ (L 7 = true ∧ L 11 = true ∧ L 13 = true ∧ ∃ w4, G x w4 ∧ w = (w4.setCell ⟨B, 3, none⟩ x).setCell ⟨B, 2, none⟩ (.int .i64 wt))
theorem WD_up {G : Value → World → Prop} {B : Nat} {wt : Int} {w0 : World} {x : Value} {L : Nat → Bool} {w : World} {i : Nat} (h7 : 7 ≠ i) (h11 : 11 ≠ i) (h13 : 13 ≠ i) (h : WD G B wt w0 x L w) : WD G B wt w0 x (up7 L i) w := by
  unfold WD up7 at *
  simp only [if_neg h7, if_neg h11, if_neg h13]
  exact h
theorem fv_all (B C : Nat) (X : Value) (wt fi wf : Int) (x : Value) (L : Nat → Bool) (h : ∀ j, j < 14 → L j = true) : fv B C X wt fi wf x L = fv B C X wt fi wf x ((up7 (up7 (up7 (up7 (up7 (up7 (up7 (up7 (up7 (up7 (up7 (up7 (fun _ => false) 0) 1) 2) 3) 4) 5) 6) 7) 8) 9) 10) 12)) := by
  funext k
  simp [fv, up7, h 0 (by decide), h 1 (by decide), h 2 (by decide), h 3 (by decide), h 4 (by decide), h 5 (by decide), h 6 (by decide), h 7 (by decide), h 8 (by decide), h 9 (by decide), h 10 (by decide), h 12 (by decide)]
theorem fv_nil (B C : Nat) (X : Value) (wt fi wf : Int) (x : Value) : fv B C X wt fi wf x (fun _ => false) = fun _ => none := by
  funext k
  simp [fv]
set_option maxRecDepth 20000 in
set_option maxHeartbeats 2000000 in
theorem reg7 {o0 o1 o2 o3 o4 o5 o6 o7 o8 o9 o10 o11 o12 o13 : Oper} {id : Nat} {Q : Exit → Act → World → Prop} (B C : Nat) (ao : Option Addr) (n cap : Nat) (wt fi wf : Int)
    (h0 : o0.op = Op.fieldAddr 24 (Operand.tmp 2) 3) (d0 : o0.dst = some 47) (g0 : o0.guard = none)
    (h1 : o1.op = Op.load 22 (Operand.tmp 47)) (d1 : o1.dst = some 48) (g1 : o1.guard = none)
    (h2 : o2.op = Op.fieldAddr 26 (Operand.tmp 3) 4) (d2 : o2.dst = some 49) (g2 : o2.guard = none)
    (h3 : o3.op = Op.load 2 (Operand.tmp 49)) (d3 : o3.dst = some 50) (g3 : o3.guard = none)
    (h4 : o4.op = Op.fieldAddr 24 (Operand.tmp 2) 2) (d4 : o4.dst = some 51) (g4 : o4.guard = none)
    (h5 : o5.op = Op.load 2 (Operand.tmp 51)) (d5 : o5.dst = some 52) (g5 : o5.guard = none)
    (h6 : o6.op = Op.binOp BinOp.sub 2 (Operand.tmp 50) (Operand.tmp 52) 2) (d6 : o6.dst = some 53) (g6 : o6.guard = none)
    (h7 : o7.op = Op.call { callee := Callee.value (Operand.func 29), args := #[Operand.tmp 48, Operand.tmp 53], argTypes := #[22, 2] }) (d7 : o7.dst = some 54) (g7 : o7.guard = none)
    (h8 : o8.op = Op.fieldAddr 26 (Operand.tmp 3) 4) (d8 : o8.dst = some 55) (g8 : o8.guard = none)
    (h9 : o9.op = Op.load 2 (Operand.tmp 55)) (d9 : o9.dst = some 56) (g9 : o9.guard = none)
    (h10 : o10.op = Op.fieldAddr 24 (Operand.tmp 2) 3) (d10 : o10.dst = some 57) (g10 : o10.guard = none)
    (h11 : o11.op = Op.store 22 (Operand.tmp 57) (Operand.tmp 54)) (d11 : o11.dst = none) (g11 : o11.guard = none)
    (h12 : o12.op = Op.fieldAddr 24 (Operand.tmp 2) 2) (d12 : o12.dst = some 58) (g12 : o12.guard = none)
    (h13 : o13.op = Op.store 2 (Operand.tmp 58) (Operand.tmp 56)) (d13 : o13.dst = none) (g13 : o13.guard = none)
    (hp : (List.range 14).map (pres #[o0, o1, o2, o3, o4, o5, o6, o7, o8, o9, o10, o11, o12, o13]) = [[], [0], [], [2], [], [4], [3, 5], [1, 6], [], [8], [0, 1, 2, 3, 4, 5, 6, 7], [10, 7, 7, 0, 1, 2, 3, 4, 5, 6, 7], [0, 1, 2, 3, 4, 5, 6, 7, 8, 9, 10, 11], [12, 9, 11, 0, 1, 2, 3, 4, 5, 6, 7, 8, 9, 10, 11]])
    (a0 : Act) (w0 : World) (hsz : 59 ≤ a0.tmps.size) (r2 : a0.tmps[2]?.getD undef = .pointer (some ⟨B, 0, none⟩)) (r3 : a0.tmps[3]?.getD undef = .pointer (some ⟨C, 0, none⟩)) (hBC : B ≠ C)
    (c3 : w0.cell? ⟨B, 3, none⟩ = some (.slice ao n cap)) (c2 : w0.cell? ⟨B, 2, none⟩ = some (.int .i64 fi)) (c4 : w0.cell? ⟨C, 4, none⟩ = some (.int .i64 wt)) (hw : IntKind.i64.wrap (wt - fi) = wf)
    (G : Value → World → Prop) (hc : Calls Try.prog 29 #[(.slice ao n cap), .int .i64 wf] w0.drew fun e w' => ∃ v, e = .returned v ∧ G v w')
    (hG : ∀ x w4, G x w4 → (∃ g' n' c', x = .slice g' n' c') ∧ w4.cell? ⟨B, 3, none⟩ = some (.slice ao n cap) ∧ w4.frozen? ⟨B, 3, none⟩ = false ∧ w4.cell? ⟨B, 2, none⟩ = some (.int .i64 fi) ∧ (∀ v, (w4.setCell ⟨B, 3, none⟩ v).cell? ⟨B, 2, none⟩ = some (.int .i64 fi) ∧ (w4.setCell ⟨B, 3, none⟩ v).frozen? ⟨B, 2, none⟩ = false) ∧ w4.cell? ⟨C, 4, none⟩ = some (.int .i64 wt))
    (hend : ∀ x w4, G x w4 → Q .normal ((((((((((((a0.put (some 47) (.pointer (some ⟨B, 3, none⟩))).put (some 48) (.slice ao n cap)).put (some 49) (.pointer (some ⟨C, 4, none⟩))).put (some 50) (.int .i64 wt)).put (some 51) (.pointer (some ⟨B, 2, none⟩))).put (some 52) (.int .i64 fi)).put (some 53) (.int .i64 wf)).put (some 54) x).put (some 55) (.pointer (some ⟨C, 4, none⟩))).put (some 56) (.int .i64 wt)).put (some 57) (.pointer (some ⟨B, 3, none⟩))).put (some 58) (.pointer (some ⟨B, 2, none⟩))) ((w4.setCell ⟨B, 3, none⟩ x).setCell ⟨B, 2, none⟩ (.int .i64 wt))) : (Code.region id #[o0, o1, o2, o3, o4, o5, o6, o7, o8, o9, o10, o11, o12, o13] true).wp Try.prog Q a0 w0 := by
  have p0 : pres #[o0, o1, o2, o3, o4, o5, o6, o7, o8, o9, o10, o11, o12, o13] 0 = [] := pres_at hp (by decide) rfl
  have p1 : pres #[o0, o1, o2, o3, o4, o5, o6, o7, o8, o9, o10, o11, o12, o13] 1 = [0] := pres_at hp (by decide) rfl
  have p2 : pres #[o0, o1, o2, o3, o4, o5, o6, o7, o8, o9, o10, o11, o12, o13] 2 = [] := pres_at hp (by decide) rfl
  have p3 : pres #[o0, o1, o2, o3, o4, o5, o6, o7, o8, o9, o10, o11, o12, o13] 3 = [2] := pres_at hp (by decide) rfl
  have p4 : pres #[o0, o1, o2, o3, o4, o5, o6, o7, o8, o9, o10, o11, o12, o13] 4 = [] := pres_at hp (by decide) rfl
  have p5 : pres #[o0, o1, o2, o3, o4, o5, o6, o7, o8, o9, o10, o11, o12, o13] 5 = [4] := pres_at hp (by decide) rfl
  have p6 : pres #[o0, o1, o2, o3, o4, o5, o6, o7, o8, o9, o10, o11, o12, o13] 6 = [3, 5] := pres_at hp (by decide) rfl
  have p7 : pres #[o0, o1, o2, o3, o4, o5, o6, o7, o8, o9, o10, o11, o12, o13] 7 = [1, 6] := pres_at hp (by decide) rfl
  have p8 : pres #[o0, o1, o2, o3, o4, o5, o6, o7, o8, o9, o10, o11, o12, o13] 8 = [] := pres_at hp (by decide) rfl
  have p9 : pres #[o0, o1, o2, o3, o4, o5, o6, o7, o8, o9, o10, o11, o12, o13] 9 = [8] := pres_at hp (by decide) rfl
  have p10 : pres #[o0, o1, o2, o3, o4, o5, o6, o7, o8, o9, o10, o11, o12, o13] 10 = [0, 1, 2, 3, 4, 5, 6, 7] := pres_at hp (by decide) rfl
  have p11 : pres #[o0, o1, o2, o3, o4, o5, o6, o7, o8, o9, o10, o11, o12, o13] 11 = [10, 7, 7, 0, 1, 2, 3, 4, 5, 6, 7] := pres_at hp (by decide) rfl
  have p12 : pres #[o0, o1, o2, o3, o4, o5, o6, o7, o8, o9, o10, o11, o12, o13] 12 = [0, 1, 2, 3, 4, 5, 6, 7, 8, 9, 10, 11] := pres_at hp (by decide) rfl
  have p13 : pres #[o0, o1, o2, o3, o4, o5, o6, o7, o8, o9, o10, o11, o12, o13] 13 = [12, 9, 11, 0, 1, 2, 3, 4, 5, 6, 7, 8, 9, 10, 11] := pres_at hp (by decide) rfl
  have hC4 : ∀ x L w, WD G B wt w0 x L w → w.cell? ⟨C, 4, none⟩ = some (.int .i64 wt) := by
    rintro x L w (⟨_, rfl⟩ | ⟨_, _, h⟩ | ⟨_, _, _, w4, h, rfl⟩ | ⟨_, _, _, w4, h, rfl⟩)
    · exact c4
    · exact (hG x w h).2.2.2.2.2
    · exact far1 hBC (hG x w4 h).2.2.2.2.2
    · exact far1 hBC (far1 hBC (hG x w4 h).2.2.2.2.2)
  refine wp_region_L (by kernel_rfl) ?_ (fun L a w => ∃ x, a = fr7 a0 (fv B C (.slice ao n cap) wt fi wf x L) ∧ WD G B wt w0 x L w) ?_ ?_ ?_
  · intro i hi k hk
    have hi' : i < 14 := hi
    rcases (by omega : i = 0 ∨ i = 1 ∨ i = 2 ∨ i = 3 ∨ i = 4 ∨ i = 5 ∨ i = 6 ∨ i = 7 ∨ i = 8 ∨ i = 9 ∨ i = 10 ∨ i = 11 ∨ i = 12 ∨ i = 13) with rfl | rfl | rfl | rfl | rfl | rfl | rfl | rfl | rfl | rfl | rfl | rfl | rfl | rfl
    · rw [p0] at hk; simp at hk
    · rw [p1] at hk; simp at hk; omega
    · rw [p2] at hk; simp at hk
    · rw [p3] at hk; simp at hk; omega
    · rw [p4] at hk; simp at hk
    · rw [p5] at hk; simp at hk; omega
    · rw [p6] at hk; simp at hk; omega
    · rw [p7] at hk; simp at hk; omega
    · rw [p8] at hk; simp at hk
    · rw [p9] at hk; simp at hk; omega
    · rw [p10] at hk; simp at hk; omega
    · rw [p11] at hk; simp at hk; omega
    · rw [p12] at hk; simp at hk; omega
    · rw [p13] at hk; simp at hk; omega
  · exact ⟨undef, by rw [fv_nil, fr7_none], .inl ⟨rfl, rfl⟩⟩
  · rintro L a w i hi ⟨x, rfl, hW⟩ hcl hLi hpi
    have hi' : i < 14 := hi
    have W0 : L 7 = false → w = w0.drew := fun h => by
      rcases hW with ⟨_, e⟩ | ⟨e, _⟩ | ⟨e, _⟩ | ⟨e, _⟩
      · exact e
      all_goals (rw [h] at e; cases e)
    rcases (by omega : i = 0 ∨ i = 1 ∨ i = 2 ∨ i = 3 ∨ i = 4 ∨ i = 5 ∨ i = 6 ∨ i = 7 ∨ i = 8 ∨ i = 9 ∨ i = 10 ∨ i = 11 ∨ i = 12 ∨ i = 13) with rfl | rfl | rfl | rfl | rfl | rfl | rfl | rfl | rfl | rfl | rfl | rfl | rfl | rfl
    · refine wpOp_of o0 rfl g0 (o7_fL3 h0 (fr7_old a0 _ 2 _ (by simp [fv]) r2) ?_)
      show ∃ x', _ = fr7 a0 (fv B C (.slice ao n cap) wt fi wf x' (up7 L 0)) ∧ WD G B wt w0 x' (up7 L 0) _
      exact ⟨x, by rw [d0, fr7_put, fv_0], WD_up (by decide) (by decide) (by decide) hW⟩
    · have t0 : L 0 = true := hpi 0 (by rw [p1]; simp)
      have n7 : L 7 = false := by
        cases e : L 7 with
        | false => rfl
        | true => have := hcl 7 (by show 7 < 14; decide) e 1 (by rw [p7]; simp); rw [hLi] at this; cases this
      obtain rfl := W0 n7
      refine wpOp_of o1 rfl g1 (o7_ldS h1 (fr7_get a0 _ 47 (by omega) _ (by simp [fv, t0])) c3 ?_)
      show ∃ x', _ = fr7 a0 (fv B C (.slice ao n cap) wt fi wf x' (up7 L 1)) ∧ WD G B wt w0 x' (up7 L 1) _
      exact ⟨x, by rw [d1, fr7_put, fv_1], WD_up (by decide) (by decide) (by decide) hW⟩
    · refine wpOp_of o2 rfl g2 (o7_fP4 h2 (fr7_old a0 _ 3 _ (by simp [fv]) r3) ?_)
      show ∃ x', _ = fr7 a0 (fv B C (.slice ao n cap) wt fi wf x' (up7 L 2)) ∧ WD G B wt w0 x' (up7 L 2) _
      exact ⟨x, by rw [d2, fr7_put, fv_2], WD_up (by decide) (by decide) (by decide) hW⟩
    · have t2 : L 2 = true := hpi 2 (by rw [p3]; simp)
      refine wpOp_of o3 rfl g3 (o7_ldI h3 (fr7_get a0 _ 49 (by omega) _ (by simp [fv, t2])) (hC4 _ _ _ hW) ?_)
      show ∃ x', _ = fr7 a0 (fv B C (.slice ao n cap) wt fi wf x' (up7 L 3)) ∧ WD G B wt w0 x' (up7 L 3) _
      exact ⟨x, by rw [d3, fr7_put, fv_3], WD_up (by decide) (by decide) (by decide) hW⟩
    · refine wpOp_of o4 rfl g4 (o7_fL2 h4 (fr7_old a0 _ 2 _ (by simp [fv]) r2) ?_)
      show ∃ x', _ = fr7 a0 (fv B C (.slice ao n cap) wt fi wf x' (up7 L 4)) ∧ WD G B wt w0 x' (up7 L 4) _
      exact ⟨x, by rw [d4, fr7_put, fv_4], WD_up (by decide) (by decide) (by decide) hW⟩
    · have t4 : L 4 = true := hpi 4 (by rw [p5]; simp)
      have n7 : L 7 = false := by
        cases e : L 7 with
        | false => rfl
        | true => have e2 := hcl 7 (by show 7 < 14; decide) e 6 (by rw [p7]; simp); have := hcl 6 (by show 6 < 14; decide) e2 5 (by rw [p6]; simp); rw [hLi] at this; cases this
      obtain rfl := W0 n7
      refine wpOp_of o5 rfl g5 (o7_ldI h5 (fr7_get a0 _ 51 (by omega) _ (by simp [fv, t4])) c2 ?_)
      show ∃ x', _ = fr7 a0 (fv B C (.slice ao n cap) wt fi wf x' (up7 L 5)) ∧ WD G B wt w0 x' (up7 L 5) _
      exact ⟨x, by rw [d5, fr7_put, fv_5], WD_up (by decide) (by decide) (by decide) hW⟩
    · have t3 : L 3 = true := hpi 3 (by rw [p6]; simp)
      have t5 : L 5 = true := hpi 5 (by rw [p6]; simp)
      refine wpOp_of o6 rfl g6 (o7_sub h6 (fr7_get a0 _ 50 (by omega) _ (by simp [fv, t3])) (fr7_get a0 _ 52 (by omega) _ (by simp [fv, t5])) hw ?_)
      show ∃ x', _ = fr7 a0 (fv B C (.slice ao n cap) wt fi wf x' (up7 L 6)) ∧ WD G B wt w0 x' (up7 L 6) _
      exact ⟨x, by rw [d6, fr7_put, fv_6], WD_up (by decide) (by decide) (by decide) hW⟩
    · have t1 : L 1 = true := hpi 1 (by rw [p7]; simp)
      have t6 : L 6 = true := hpi 6 (by rw [p7]; simp)
      obtain rfl := W0 hLi
      have n11 : L 11 = false := by
        cases e : L 11 with
        | false => rfl
        | true => have := hcl 11 (by show 11 < 14; decide) e 7 (by rw [p11]; simp); rw [hLi] at this; cases this
      refine wpOp_of o7 rfl g7 (o7_call h7 (fr7_get a0 _ 48 (by omega) _ (by simp [fv, t1])) (fr7_get a0 _ 53 (by omega) _ (by simp [fv, t6])) hc ?_)
      rintro e w4 ⟨v, rfl, hv⟩
      refine ⟨v, rfl, ?_⟩
      show ∃ x', _ = fr7 a0 (fv B C (.slice ao n cap) wt fi wf x' (up7 L 7)) ∧ WD G B wt w0 x' (up7 L 7) _
      exact ⟨v, by rw [d7, fv_x B C _ wt fi wf x v L hLi, fr7_put, fv_7], .inr (.inl ⟨by simp [up7], by simp [up7, n11], hv⟩)⟩
    · refine wpOp_of o8 rfl g8 (o7_fP4 h8 (fr7_old a0 _ 3 _ (by simp [fv]) r3) ?_)
      show ∃ x', _ = fr7 a0 (fv B C (.slice ao n cap) wt fi wf x' (up7 L 8)) ∧ WD G B wt w0 x' (up7 L 8) _
      exact ⟨x, by rw [d8, fr7_put, fv_8], WD_up (by decide) (by decide) (by decide) hW⟩
    · have t8 : L 8 = true := hpi 8 (by rw [p9]; simp)
      refine wpOp_of o9 rfl g9 (o7_ldI h9 (fr7_get a0 _ 55 (by omega) _ (by simp [fv, t8])) (hC4 _ _ _ hW) ?_)
      show ∃ x', _ = fr7 a0 (fv B C (.slice ao n cap) wt fi wf x' (up7 L 9)) ∧ WD G B wt w0 x' (up7 L 9) _
      exact ⟨x, by rw [d9, fr7_put, fv_9], WD_up (by decide) (by decide) (by decide) hW⟩
    · refine wpOp_of o10 rfl g10 (o7_fL3 h10 (fr7_old a0 _ 2 _ (by simp [fv]) r2) ?_)
      show ∃ x', _ = fr7 a0 (fv B C (.slice ao n cap) wt fi wf x' (up7 L 10)) ∧ WD G B wt w0 x' (up7 L 10) _
      exact ⟨x, by rw [d10, fr7_put, fv_10], WD_up (by decide) (by decide) (by decide) hW⟩
    · have t10 : L 10 = true := hpi 10 (by rw [p11]; simp)
      have t7 : L 7 = true := hpi 7 (by rw [p11]; simp)
      have n13 : L 13 = false := by
        cases e : L 13 with
        | false => rfl
        | true => have := hcl 13 (by show 13 < 14; decide) e 11 (by rw [p13]; simp); rw [hLi] at this; cases this
      have hv : G x w := by
        rcases hW with ⟨e, _⟩ | ⟨_, _, e⟩ | ⟨_, e, _⟩ | ⟨_, e, _⟩
        · rw [t7] at e; cases e
        · exact e
        all_goals (rw [hLi] at e; cases e)
      obtain ⟨⟨g', n', c', rfl⟩, k3, f3, _⟩ := hG x w hv
      refine wpOp_of o11 rfl g11 (o7_stS h11 (fr7_get a0 _ 57 (by omega) _ (by simp [fv, t10])) (fr7_get a0 _ 54 (by omega) (.slice g' n' c') (by simp [fv, t7])) k3 f3 ?_)
      show ∃ x', _ = fr7 a0 (fv B C (.slice ao n cap) wt fi wf x' (up7 L 11)) ∧ WD G B wt w0 x' (up7 L 11) _
      exact ⟨_, by rw [d11, fv_11]; rfl, .inr (.inr (.inl ⟨by simp [up7, t7], by simp [up7], by simp [up7, n13], w, hv, rfl⟩))⟩
    · refine wpOp_of o12 rfl g12 (o7_fL2 h12 (fr7_old a0 _ 2 _ (by simp [fv]) r2) ?_)
      show ∃ x', _ = fr7 a0 (fv B C (.slice ao n cap) wt fi wf x' (up7 L 12)) ∧ WD G B wt w0 x' (up7 L 12) _
      exact ⟨x, by rw [d12, fr7_put, fv_12], WD_up (by decide) (by decide) (by decide) hW⟩
    · have t12 : L 12 = true := hpi 12 (by rw [p13]; simp)
      have t9 : L 9 = true := hpi 9 (by rw [p13]; simp)
      have t11 : L 11 = true := hpi 11 (by rw [p13]; simp)
      have t7 : L 7 = true := hpi 7 (by rw [p13]; simp)
      obtain ⟨w4, hv, rfl⟩ : ∃ w4, G x w4 ∧ w = w4.setCell ⟨B, 3, none⟩ x := by
        rcases hW with ⟨e, _⟩ | ⟨_, e, _⟩ | ⟨_, _, _, e⟩ | ⟨_, _, e, _⟩
        · rw [t7] at e; cases e
        · rw [t11] at e; cases e
        · exact e
        · rw [hLi] at e; cases e
      obtain ⟨_, _, _, _, k2, _⟩ := hG x w4 hv
      refine wpOp_of o13 rfl g13 (o7_stI h13 (fr7_get a0 _ 58 (by omega) _ (by simp [fv, t12])) (fr7_get a0 _ 56 (by omega) (.int .i64 wt) (by simp [fv, t9])) (k2 x).1 (k2 x).2 ?_)
      show ∃ x', _ = fr7 a0 (fv B C (.slice ao n cap) wt fi wf x' (up7 L 13)) ∧ WD G B wt w0 x' (up7 L 13) _
      exact ⟨x, by rw [d13, fv_13]; rfl, .inr (.inr (.inr ⟨by simp [up7, t7], by simp [up7, t11], by simp [up7], w4, hv, rfl⟩))⟩
  · rintro L a w ⟨x, rfl, hW⟩ hall
    obtain ⟨w4, hv, rfl⟩ : ∃ w4, G x w4 ∧ w = (w4.setCell ⟨B, 3, none⟩ x).setCell ⟨B, 2, none⟩ (.int .i64 wt) := by
      rcases hW with ⟨e, _⟩ | ⟨_, e, _⟩ | ⟨_, _, e, _⟩ | ⟨_, _, _, e⟩
      · rw [hall 7 (by show 7 < 14; decide)] at e; cases e
      · rw [hall 11 (by show 11 < 14; decide)] at e; cases e
      · rw [hall 13 (by show 13 < 14; decide)] at e; cases e
      · exact e
    have e : fr7 a0 (fv B C (.slice ao n cap) wt fi wf x L) = ((((((((((((a0.put (some 47) (.pointer (some ⟨B, 3, none⟩))).put (some 48) (.slice ao n cap)).put (some 49) (.pointer (some ⟨C, 4, none⟩))).put (some 50) (.int .i64 wt)).put (some 51) (.pointer (some ⟨B, 2, none⟩))).put (some 52) (.int .i64 fi)).put (some 53) (.int .i64 wf)).put (some 54) x).put (some 55) (.pointer (some ⟨C, 4, none⟩))).put (some 56) (.int .i64 wt)).put (some 57) (.pointer (some ⟨B, 3, none⟩))).put (some 58) (.pointer (some ⟨B, 2, none⟩))) := by
      rw [fv_all _ _ _ _ _ _ _ L (fun j hj => hall j hj), fv_12, ← fr7_put, fv_10, ← fr7_put, fv_9, ← fr7_put, fv_8, ← fr7_put, fv_7, ← fr7_put, fv_6, ← fr7_put, fv_5, ← fr7_put, fv_4, ← fr7_put, fv_3, ← fr7_put, fv_2, ← fr7_put, fv_1, ← fr7_put, fv_0, ← fr7_put, fv_nil, fr7_none]
    rw [e]
    exact hend x w4 hv
end Go.Proofs.Ytbhgffbmeaomkaa.Gr
