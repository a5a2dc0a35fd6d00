/-
  The code's Join.
-/
import Derived.Test.YtehlibeedieclaaDQ
import Derived.Laws.ResultCell
import Derived.Great.BuildSlice
import Derived.Deep.WholeRow
import Derived.Deep.CutRange
namespace Go.Proofs.Ytehlibeedieclaa.Gr
open Go.RowKit Go.Sort Dm
set_option linter.unusedVariables false

/-- an operation that yields a value -/
theorem wp_run {P : Program} {ops : Array Oper} {rest : List Oper} {o : Oper} {a : Act} {w : World} {Q : Exit → Act → World → Prop} (hg : o.guard = none) (d : Option Tmp) (hd : o.dst = d)
    (v : Value) (w' : World) (hrun : (execOp a.eval o).run P w = .ok (.value v) w') (h : wpList P ops Q rest (a.put d v) w') : wpList P ops Q (o :: rest) a w := by
  subst hd
  refine wpList_plain hg fun K hK => ?_
  unfold Oper.wp
  rw [hrun, Oper.upon_value]
  exact hK _ _ h
/-- what a row of parts shows: its cells, eight a part -/
def SeesA (w : World) (v : Value) (Q : Nat) (cs : List Int) : Prop :=
  cs.length = 8 * Q ∧ ∃ ao cap, v = .slice ao Q cap ∧ (Q ≤ cap ∧ (ao = none → cap = 0)) ∧ ∀ (k : Nat) (u : Value), (cs.map vw)[k]? = some u → ∃ ad, ao = some ad ∧ ad.block < w.heap.size ∧ w.cell? (ad.add k) = some u
section
variable {w w' : World} {v : Value} {Q : Nat} {cs : List Int}
theorem SeesA.below (h : SeesA w v Q cs) (hb : Below w.heap.size w w') : SeesA w' v Q cs := by
  obtain ⟨hl, ao, cap, hv, hc, hk⟩ := h
  refine ⟨hl, ao, cap, hv, hc, fun k u hu => ?_⟩
  obtain ⟨ad, ha, hlt, hcell⟩ := hk k u hu
  exact ⟨ad, ha, Nat.lt_of_lt_of_le hlt hb.size, by rw [hb.cell (by rw [add_block]; exact hlt)]; exact hcell⟩
theorem SeesA.slice (h : SeesA w v Q cs) : ∃ ao cap, v = .slice ao Q cap := let ⟨_, ao, cap, hv, _⟩ := h; ⟨ao, cap, hv⟩
theorem SeesA.at {ao : Option Addr} {n cap : Nat} (h : SeesA w (.slice ao n cap) Q cs) {k : Nat} {u : Value} (hu : (cs.map vw)[k]? = some u) : ∃ ad, ao = some ad ∧ ad.block < w.heap.size ∧ w.cell? (ad.add k) = some u := by
  obtain ⟨_, _, _, e, _, hk⟩ := h
  injection e with e1
  subst e1
  exact hk k u hu
/-- a part of a row of parts -/
theorem SeesA.part {ao : Option Addr} {n cap : Nat} (h : SeesA w (.slice ao n cap) Q cs) {k : Nat} (hk : k < Q) : ∃ ad, ao = some ad ∧ ad.block < w.heap.size ∧ ∀ j u, (((cs.drop (8 * k)).take 8).map vw)[j]? = some u → w.cell? (ad.add (8 * k + j)) = some u := by
  have hl := h.1
  obtain ⟨ad, rfl, hlt, _⟩ := h.at (k := 8 * k) (List.getElem?_eq_getElem (by rw [List.length_map]; omega))
  refine ⟨ad, rfl, hlt, fun j u hu => ?_⟩
  rw [List.map_take, List.map_drop, List.getElem?_take] at hu
  split at hu
  · rw [List.getElem?_drop] at hu
    obtain ⟨_, e, _, hc⟩ := h.at hu
    cases e
    exact hc
  · cases hu
theorem SeesA.own {base : Nat} (h : w.ownsRow base 35 8 v Q (cs.map vw)) : SeesA w v Q cs := by
  obtain ⟨hl, h0 | ⟨g, cap, cur, hv, hb, hg, hcp, hm, hs, hc⟩⟩ := id h
  · obtain ⟨rfl, rfl⟩ := h0
    have : cs = [] := List.eq_nil_of_length_eq_zero (by simpa using hl)
    subst this
    exact ⟨rfl, none, 0, rfl, ⟨Nat.le_refl _, fun _ => rfl⟩, fun k u hu => by simp at hu⟩
  · rw [List.length_map] at hl
    refine ⟨by omega, some ⟨g, 0, none⟩, cap, hv, ⟨hcp, fun e => by cases e⟩, fun k u hu => ⟨_, rfl, (Array.getElem?_eq_some_iff.1 hg).1, ?_⟩⟩
    exact h.cells (g := g) (by rw [hv]; rfl) k u hu
end
theorem ag35 (w : World) : (isAgg 35).run Try.prog w = .ok true w := by kernel_rfl
theorem sz35 (w : World) : (sizeOf 35).run Try.prog w = .ok 8 w := by kernel_rfl
theorem zz35 : (Try.prog.info? 35).map (fun i => (i.zero, i.size)) = some (some (.agg (Array.replicate 8 (.int .i64 0))), 8) := by kernel_rfl
/-- a part, loaded whole -/
theorem ld8 {ops : Array Oper} {rest : List Oper} {o : Oper} {a : Act} {Q : Exit → Act → World → Prop} {w : World} (hg : o.guard = none) (s : Operand) (hop : o.op = Op.load 35 s) (ad : Addr) (he : a.eval s = .pointer (some ad)) (L : List Int) (hL : L.length = 8)
    (hc : ∀ j v, (L.map vw)[j]? = some v → w.cell? (ad.add j) = some v) (hK : wpList Try.prog ops Q rest (a.put o.dst (.agg (L.map vw).toArray)) w) : wpList Try.prog ops Q (o :: rest) a w := by
  refine wpList_plain hg fun K hK' => ?_
  have hl := run_loadCells_list (P := Try.prog) w ad (L.map vw) hc
  have hln : (L.map vw).length = 8 := by rw [List.length_map, hL]
  rw [hln] at hl
  unfold Oper.wp execOp
  simp only [hop, he, Instr.loadAt, Instr.sureAddr, loadVar, Sem.run_bind, Sem.run_pure, Result.andThen_ok, ag35, sz35, hl, if_true]
  exact hK' _ _ hK
/-- a new part of noughts -/
theorem al8 {ops : Array Oper} {rest : List Oper} {o : Oper} {a : Act} {Q : Exit → Act → World → Prop} {w : World} (hg : o.guard = none) (hop : o.op = Op.alloc 35)
    (hK : ∀ w', w'.heap[w.heap.size]? = some (.cells (Array.replicate 8 (.int .i64 0)) 35 (0, 0)) → Below w.heap.size w w' → wpList Try.prog ops Q rest (a.put o.dst (.pointer (some ⟨w.heap.size, 0, none⟩))) w') : wpList Try.prog ops Q (o :: rest) a w := by
  obtain ⟨z1, z2⟩ := zero_of_info zz35
  refine wp_run hg o.dst rfl (.pointer (some ⟨w.heap.size, 0, none⟩)) (w.alloc (.cells (Array.replicate 8 (.int .i64 0)) 35)) ?_ (hK _ (heap_new _ _) (box_below _ _))
  simp [execOp, hop, Instr.alloc, z1, go_sem]
/-- a part laid into a part -/
theorem st8 {ops : Array Oper} {rest : List Oper} {o : Oper} {a : Act} {Q : Exit → Act → World → Prop} {w : World} (hg : o.guard = none) (x y : Operand) (hop : o.op = Op.store 35 x y) (g : Nat) (L : List Int) (hL : L.length = 8)
    (hx : a.eval x = .pointer (some ⟨g, 0, none⟩)) (hy : a.eval y = .agg (L.map vw).toArray) (old : Array Value) (ho : old.size = 8) (hh : w.heap[g]? = some (.cells old 35 (0, 0)))
    (hK : ∀ w', w'.heap[g]? = some (.cells (L.map vw).toArray 35 (0, 0)) → w.grownBy w' (some g) → wpList Try.prog ops Q rest (a.put o.dst undef) w') : wpList Try.prog ops Q (o :: rest) a w := by
  have hs : (L.map vw).toArray.size = 8 := by simp [hL]
  refine wpList_store_row hg 35 x y hop g _ hx hy 35 old hh (by rw [hs]; kernel_rfl) (by rw [ho, hs]) ?_ (hK _ (setRow_heap _ _ _ _ _ _ hh) ⟨rfl, rfl, rfl, by simp [World.setRow], fun k hk hne => setRow_other w g k _ (fun ee => hne (by rw [ee]))⟩)
  apply Array.all_eq_true_iff_forall_mem.2
  intro v hv
  exact ws_one L v (by simpa using hv)
theorem enters_nz : ∀ (args : Array Value) (a : World), Sem.run Try.prog (callFunc 23 args) a = Result.ok (Next.enter 23 args) a := by
  intro args a
  simp [callFunc, Try.func23, go_sem]
  rfl
set_option maxRecDepth 20000 in
theorem nz_any (x : Int) (w : World) : Calls Try.prog 23 #[.int .i64 x] w fun e w' => e = .returned (.bool (x != 0)) ∧ Below w.heap.size w w' := by
  go_enter Try.func23, Try.ntmps23
  go_wp2
  go_ret
  exact ⟨rfl, Below.refl _ _⟩
/-- is a word none of the noughts? -/
def anyS (xs : List Int) : Bool := xs.any fun x => x != 0
set_option maxRecDepth 20000 in
set_option maxHeartbeats 1000000 in
theorem index_any (va : Value) (xs : List Int) (w : World) (hN : xs.length ≤ 1000000) (sa : SeesI w va xs) :
    Calls Try.prog 24 #[va, .func (.func 23) #[] #[]] w fun e w' => (∃ r : Int, e = .returned (.int .i64 r) ∧ -1 ≤ r ∧ r ≤ 1000000 ∧ (decide (0 ≤ r) = anyS xs)) ∧ Below w.heap.size w w' := by
  obtain ⟨ao, cap, rfl⟩ := sa.slice
  obtain ⟨N, hn⟩ : ∃ N, xs.length = N := ⟨_, rfl⟩
  have HN : Hid (xs.length = N) := hn
  rw [hn] at hN sa ⊢
  clear hn
  have hE := enters_nz
  go_enter Try.func24, Try.ntmps24
  go_wp2
  go_loopw [8] (fun i wr => ∃ k : Nat, k ≤ N ∧ i = .int .i64 k ∧ Hid (∀ j, j < k → xs.getD j 0 = 0) ∧ Below w.heap.size w wr) (fun i _ => N - (intOf i).toNat)
  case atStart => exact ⟨0, Nat.zero_le _, rfl, fun j hj => absurd hj (Nat.not_lt_zero _), Below.refl _ _⟩
  case round =>
    obtain ⟨k, hk, rfl, hz, hbl⟩ := hrel
    by_cases hlt : k < N
    · obtain ⟨ad, rfl, la, ca⟩ := sa.at k (by rw [HN.out]; exact hlt)
      have ca' : wr.cell? (ad.add k) = _ := (hbl.cell (by rw [add_block]; exact la)).trans ca
      clear ca
      by_cases hx : xs.getD k 0 = 0
      · have HX : Hid (xs.getD k 0 = 0) := hx
        rw [hx] at ca'
        have e0 : ((0 : Int) != 0) = false := rfl
        have cN := fun u => nz_any 0 u
        rw [e0] at cN
        clear hx
        --[a
        go_wp2_with (go_at_call 23; go_must (refine (cN _).mono ?_); rintro e w2 ⟨rfl, b2⟩)
        go_roundw
        case rel =>
          refine ⟨k + 1, by omega, by go_num, ?_, hbl.trans (b2.mono hbl.size)⟩
          intro j hj
          by_cases e : j = k
          · subst e; exact HX.out
          · exact hz.out j (by omega)
        case measure => simp [intOf]; omega
        --]a
      · have hA : anyS xs = true := by
          apply List.any_eq_true.2
          have hk' : k < xs.length := by rw [HN.out]; exact hlt
          refine ⟨xs[k], List.getElem_mem _, ?_⟩
          rw [List.getD_eq_getElem?_getD, List.getElem?_eq_getElem hk'] at hx
          simpa using hx
        have HA : Hid (anyS xs = true) := hA
        have e0 : (xs.getD k 0 != 0) = true := by simpa using hx
        have cN := fun u => nz_any (xs.getD k 0) u
        rw [e0] at cN
        generalize xs.getD k 0 = x at *
        clear hA hx e0
        --[b
        go_wp2_with (go_at_call 23; go_must (refine (cN _).mono ?_); rintro e w2 ⟨rfl, b2⟩)
        go_ret
        exact ⟨⟨_, rfl, by omega, by omega, by rw [HA.out]; exact decide_eq_true (by omega)⟩, hbl.trans (b2.mono hbl.size)⟩
        --]b
    · obtain rfl : k = N := by omega
      have hA : anyS xs = false := by
        unfold anyS
        rw [List.any_eq_false]
        intro x hx
        obtain ⟨j, hj, rfl⟩ := List.mem_iff_getElem.1 hx
        have := hz.out j (by rw [← HN.out]; exact hj)
        rw [List.getD_eq_getElem?_getD, List.getElem?_eq_getElem hj] at this
        simpa using this
      have HA : Hid (anyS xs = false) := hA
      clear hA
      --[c
      go_wp2
      go_ret
      exact ⟨⟨_, rfl, by omega, by omega, by rw [HA.out]; rfl⟩, hbl⟩
      --]c
set_option maxRecDepth 20000 in
theorem contains_any (va : Value) (xs : List Int) (w : World) (hN : xs.length ≤ 1000000) (sa : SeesI w va xs) :
    Calls Try.prog 22 #[va, .func (.func 23) #[] #[]] w fun e w' => e = .returned (.bool (anyS xs)) ∧ Below w.heap.size w w' := by
  have c := index_any va xs w hN sa
  go_enter Try.func22, Try.ntmps22
  go_wp2_with (go_at_call 24; go_must (refine c.mono ?_); rintro e w1 ⟨⟨r, rfl, r1, r2, r3⟩, b1⟩)
  go_ret
  exact ⟨by rw [← r3]; rfl, b1⟩
end Go.Proofs.Ytehlibeedieclaa.Gr
