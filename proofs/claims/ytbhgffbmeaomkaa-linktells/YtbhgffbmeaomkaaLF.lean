/-
  Ends: the code's Send, Out.
-/
import Derived.Test.YtbhgffbmeaomkaaLC
import Derived.ArgAppend
namespace Go.Proofs.Ytbhgffbmeaomkaa.Gr
open Go.RowKit Go.Sort Lm
set_option linter.unusedVariables false

theorem SeesI.le3 {w : World} {ao : Option Addr} {n cap : Nat} {xs : List Int} (h : SeesI w (.slice ao n cap) xs) : SeesI w (.slice ao n n) xs := by
  have h1 := h.cut3 (m := xs.length) (Nat.le_refl _)
  rw [List.take_length, ← h.le.2] at h1
  exact h1
/-- 'append' of one word to a row that has no room -/
theorem app64f {ops : Array Oper} {rest : List Oper} {o : Oper} {a : Act} {Q : Exit → Act → World → Prop} {w : World} (hg : o.guard = none) (s x : Operand)
    (hop : o.op = Op.call { callee := Callee.builtin Builtin.append, args := #[s, x], argTypes := #[22, 22] }) (ao : Option Addr) (n : Nat) (hs : a.eval s = .slice ao n n) (xs : List Int) (sx : SeesI w (.slice ao n n) xs)
    (ad : Addr) (c : Nat) (y : Int) (hx : a.eval x = .slice (some ad) 1 c) (sy : SeesI w (.slice (some ad) 1 c) [y]) (hl : n ≤ 1000)
    (hK : ∀ v' w', w'.ownsRow w.heap.size 2 1 v' (n + 1) ((xs ++ [y]).map vw) → w.grownBy w' none → wpList Try.prog ops Q rest (a.put o.dst v') w') : wpList Try.prog ops Q (o :: rest) a w := by
  obtain ⟨i0, hi, hz0, hz1, hz2⟩ := info_parts info2
  obtain rfl : n = xs.length := sx.le.2
  refine wpList_append_grows w hg s x 22 hop 2 i0 (.int .i64 0) 1 8 under22 hi hz0 hz1 hz2 rfl (by decide) ao xs.length xs.length (xs.map vw) hs ?_ (by simp) ?_ ad 1 c ([y].map vw) hx (by simp) (seesI_cells sy) (ws_one [y]) (by omega) (by unfold maxLen; omega) (by omega) ?_
  · rintro rfl
    have h := (Row.of_none sx).2
    exact ⟨h, h⟩
  · rintro b rfl j u hj
    exact seesI_cells sx j u hj
  · intro v' w' h1 h2
    refine hK v' w' ?_ h2
    rw [List.map_append]; exact h1
set_option maxRecDepth 20000 in
set_option maxHeartbeats 2000000 in
theorem send_any (v : Value) (l : Lk) (x : Int) (w : World) (hn : l.sent.length ≤ 8) (sv : SeesL w v l) :
    Calls Try.prog 17 #[v, .int .i64 x] w fun e w' => ∃ v', e = .returned (.tuple #[v', .int .i64 (sendE l)]) ∧ OwnL w.heap.size w' v' (sendL l x) ∧ Below w.heap.size w w' := by
  obtain ⟨vs, rfl, sl⟩ := sv
  obtain ⟨so, sc, rfl⟩ := sl.slice
  obtain ⟨V, hV⟩ : ∃ V, (w.alloc (.cells #[.int .i64 l.own, .int .i64 l.other, .int .i64 l.first, .slice so l.sent.length sc, .int .i64 l.next] 24)).alloc (.cells #[.int .i64 0, .int .i64 0, .int .i64 0, .slice none 0 0, .int .i64 0] 24) = V := ⟨_, rfl⟩
  obtain ⟨hB, hC⟩ := heaps2' w (.cells #[.int .i64 l.own, .int .i64 l.other, .int .i64 l.first, .slice so l.sent.length sc, .int .i64 l.next] 24) (.cells #[.int .i64 0, .int .i64 0, .int .i64 0, .slice none 0 0, .int .i64 0] 24)
  have bV : Below w.heap.size w V := by rw [← hV]; exact bt (box_below _ _) (box_below _ _)
  rw [hV] at hB hC
  have cA := alone_any (.agg #[.int .i64 l.own, .int .i64 l.other, .int .i64 l.first, .slice so l.sent.length sc, .int .i64 l.next]) l V (by omega) ⟨_, rfl, sl.below bV⟩
  have sV := sl.below bV
  obtain ⟨B, hBe⟩ : ∃ B, w.heap.size = B := ⟨_, rfl⟩
  rw [hBe] at hB hC bV ⊢
  have HBe : Hid (w.heap.size = B) := hBe
  have zC : B + 1 < V.heap.size := lt_of_block hC
  obtain ⟨p1, p2, p3, p4, p5⟩ := five_cells hB
  have HC : Hid (V.heap[B + 1]? = _) := hC
  by_cases h8 : l.sent.length = 8
  · have hf : fullL l = true := by unfold fullL; rw [h8]; rfl
    have e1 : sendE l = 7 := by unfold sendE; rw [if_pos hf]
    have e2 : sendL l x = l := by unfold sendL; rw [if_pos hf]
    rw [e1, e2]
    have d8 : ((l.sent.length : Int) ≥ 8) := by omega
    clear e1 e2 hf sl hC hB h8
    generalize l.sent.length = n at *
    --[a
    go_enter Try.func17, Try.ntmps17
    go_wp2_with (go_at_call 27; go_must (refine cA.mono ?_); rintro e w2 ⟨v2, rfl, ⟨vs2, rfl, s2, n2⟩, b2⟩; obtain ⟨g2, c2, rfl⟩ := s2.slice; obtain ⟨N2, hN2⟩ : ∃ N2, l.sent.length = N2 := ⟨_, rfl⟩; rw [hN2] at s2 n2 ⊢; obtain ⟨r1, r2, r3, r4, r5⟩ := five_cells (keep b2 HC.out); have f0 := not_frozen5 (keep b2 HC.out) 0; have f1 := not_frozen5 (keep b2 HC.out) 1; have f2 := not_frozen5 (keep b2 HC.out) 2; have f3 := not_frozen5 (keep b2 HC.out) 3; have f4 := not_frozen5 (keep b2 HC.out) 4)
    refine bodyPost_ret (results_lk2 Try.results17 _ _ (B + 1) _ _ _ _ _ _ _ rfl rfl (set_all5 (keep b2 HC.out) _ _ _ _ _)) rfl ?_
    have hz := b2.size
    exact ⟨_, rfl, ⟨_, rfl, s2.grown n2 (gb_all5 w2 (B + 1) _ _ _ _ _) (fun k e => by cases e; exact zC), n2.mono (by omega)⟩, (bV.trans (b2.mono (by omega))).grown (gb_all5 w2 (B + 1) _ _ _ _ _) (by omega) (fun k e => by cases e; omega)⟩
    --]a
  · have hf : ¬ fullL l = true := by unfold fullL; rw [decide_eq_false h8]; simp
    have e1 : sendE l = 0 := by unfold sendE; rw [if_neg hf]
    have e2 : sendL l x = { l with sent := l.sent ++ [x] } := by unfold sendL; rw [if_neg hf]
    rw [e1, e2]
    have d8 : (l.sent.length : Int) < 8 := by omega
    have hsc : l.sent.length ≤ sc := sl.le.1
    clear e1 e2 hf sl hC h8 cA
    have HB : Hid (V.heap[B]? = _) := hB
    clear hB
    obtain ⟨n, hn'⟩ : ∃ n, l.sent.length = n := ⟨_, rfl⟩
    have HN : Hid (l.sent.length = n) := hn'
    rw [hn'] at hn d8 hV sV p4 hsc ⊢
    have HB' : Hid (V.heap[B]? = some (.cells #[.int .i64 l.own, .int .i64 l.other, .int .i64 l.first, .slice so n sc, .int .i64 l.next] 24 (0, 0))) := by have := HB.out; rw [hn'] at this; exact this
    clear hn' HB
    have g2 : (n : Int) ≤ (sc : Int) := by omega
    --[b
    go_enter Try.func17, Try.ntmps17
    go_upto_region 5 with (at_builtin; go_must (refine app64f rfl _ _ rfl so n rfl l.sent (sV.le3.below (box_below V _)) _ _ x rfl (one64 V x) (by omega) ?_); intro v3 w3 ho3 hg3; have b3 : Below V.heap.size V w3 := bt (box_below V _) (gb_none hg3); obtain ⟨g3, c3, rfl⟩ := own_any ho3; obtain ⟨k1, k2, k3, k4, k5⟩ := five_cells (keep b3 HB'.out); have k6 := not_frozen5 (keep b3 HB'.out) 3)
    have zB : B < V.heap.size := by omega
    have s3 : SeesI w3 (.slice g3 (n + 1) c3) (l.sent ++ [x]) := SeesI.own ho3
    have n3 : New V.heap.size (.slice g3 (n + 1) c3) := fun k e => Nat.le_trans (box_below V _).size (ho3.lt k e).1
    obtain ⟨N3, hv3⟩ : ∃ N3, n + 1 = N3 := ⟨_, rfl⟩
    rw [hv3] at s3 n3 ⊢
    have hz := b3.size
    have HU := set_five3 (keep b3 HB'.out) (.slice g3 N3 c3)
    have HUC := (heap_setCell_other w3 ⟨B, 3, none⟩ (B + 1) (.slice g3 N3 c3) (by simp)).trans (keep b3 HC.out)
    have sU := s3.grown n3 (gb_setC5 w3 B 3 (.slice g3 N3 c3)) (fun k e => by cases e; exact zB)
    have bU : Below B w (w3.setCell ⟨B, 3, none⟩ (.slice g3 N3 c3)) := (bV.trans (b3.mono (by omega))).grown (gb_setC5 w3 B 3 (.slice g3 N3 c3)) (by omega) (fun k e => by cases e; omega)
    have zU : V.heap.size ≤ (w3.setCell ⟨B, 3, none⟩ (.slice g3 N3 c3)).heap.size := Nat.le_trans b3.size (gb_setC5 w3 B 3 (.slice g3 N3 c3)).size
    obtain ⟨u, hu⟩ : ∃ u, w3.setCell ⟨B, 3, none⟩ (.slice g3 N3 c3) = u := ⟨_, rfl⟩
    rw [hu] at HU HUC sU bU zU ⊢
    clear hu hv3 k1 k2 k3 k4 k5 k6 p1 p2 p3 p4 p5
    obtain ⟨m1, m2, m3, m4, m5⟩ := five_cells HU
    obtain ⟨r1, r2, r3, r4, r5⟩ := five_cells HUC
    have f0 := not_frozen5 HUC 0
    have f1 := not_frozen5 HUC 1
    have f2 := not_frozen5 HUC 2
    have f3 := not_frozen5 HUC 3
    have f4 := not_frozen5 HUC 4
    have HUC' : Hid (u.heap[B + 1]? = _) := HUC
    clear HU HUC
    go_wp2
    refine bodyPost_ret (results_lk2 Try.results17 _ _ (B + 1) _ _ _ _ _ _ _ rfl rfl (set_all5 HUC'.out _ _ _ _ _)) rfl ?_
    exact ⟨_, rfl, ⟨_, rfl, sU.grown n3 (gb_all5 u (B + 1) _ _ _ _ _) (fun k e => by cases e; exact zC), n3.mono (by omega)⟩, bU.grown (gb_all5 u (B + 1) _ _ _ _ _) (by omega) (fun k e => by cases e; omega)⟩
    --]b
set_option maxRecDepth 20000 in
set_option maxHeartbeats 2000000 in
theorem out_any (v : Value) (l : Lk) (w : World) (hn : l.sent.length ≤ 1000) (sv : SeesL w v l) :
    Calls Try.prog 23 #[v] w fun e w' => ∃ v', e = .returned v' ∧ OwnP w.heap.size w' v' (outL l) ∧ Below w.heap.size w w' := by
  obtain ⟨vs, rfl, sl⟩ := sv
  obtain ⟨so, sc, rfl⟩ := sl.slice
  obtain ⟨V, hV⟩ : ∃ V, (w.alloc (.cells #[.int .i64 l.own, .int .i64 l.other, .int .i64 l.first, .slice so l.sent.length sc, .int .i64 l.next] 24)).alloc (.cells #[.int .i64 0, .int .i64 0, .int .i64 0, .slice none 0 0, .int .i64 0] 26) = V := ⟨_, rfl⟩
  obtain ⟨hB, hC⟩ := heaps2' w (.cells #[.int .i64 l.own, .int .i64 l.other, .int .i64 l.first, .slice so l.sent.length sc, .int .i64 l.next] 24) (.cells #[.int .i64 0, .int .i64 0, .int .i64 0, .slice none 0 0, .int .i64 0] 26)
  have bV : Below w.heap.size w V := by rw [← hV]; exact bt (box_below _ _) (box_below _ _)
  rw [hV] at hB hC
  have cK := behind_any _ l.sent 0 V.drew (Int.le_refl _) hn (sl.below bV).drew
  have e0 : l.sent.drop (0 : Int).toNat = l.sent := rfl
  rw [e0] at cK
  clear e0
  obtain ⟨B, hBe⟩ : ∃ B, w.heap.size = B := ⟨_, rfl⟩
  rw [hBe] at hB hC bV ⊢
  have HBe : Hid (w.heap.size = B) := hBe
  have zC : B + 1 < V.heap.size := lt_of_block hC
  obtain ⟨p1, p2, p3, p4, p5⟩ := five_cells hB
  have HB : Hid (V.heap[B]? = _) := hB
  have HC : Hid (V.heap[B + 1]? = _) := hC
  clear hB hC sl
  obtain ⟨n, hn'⟩ : ∃ n, l.sent.length = n := ⟨_, rfl⟩
  have HN : Hid (l.sent.length = n) := hn'
  rw [hn'] at hn hV cK p4 ⊢
  have HB' : Hid (V.heap[B]? = some (.cells #[.int .i64 l.own, .int .i64 l.other, .int .i64 l.first, .slice so n sc, .int .i64 l.next] 24 (0, 0))) := by have := HB.out; rw [hn'] at this; exact this
  clear hn' HB
  have HNE : Hid (B ≠ B + 1) := (by omega : B ≠ B + 1)
  --[c
  go_enter Try.func23, Try.ntmps23
  go_wp2
  go_region_held3 (fun u => u.cell? ⟨B, 0, none⟩ = some (.int .i64 l.own) ∧ u.cell? ⟨B, 1, none⟩ = some (.int .i64 l.other) ∧ u.cell? ⟨B, 2, none⟩ = some (.int .i64 l.first) ∧ u.cell? ⟨B, 3, none⟩ = some (.slice so n sc) ∧ u.cell? ⟨B, 4, none⟩ = some (.int .i64 l.next)) (first | with_reducible exact ⟨k1, k2, k3, k4, k5⟩ | with_reducible exact five_keep HNE ⟨k1, k2, k3, k4, k5⟩ _ _ _ _ _ | exact ⟨p1, p2, p3, p4, p5⟩) (first
    | (go_at_call 29; refine cK.mono ?_; rintro e w3 ⟨v1, rfl, s1, n1, b3⟩; obtain ⟨g2, c2, rfl⟩ := s1.slice; rw [HN.out] at s1 n1 ⊢; obtain ⟨k1, k2, k3, k4, k5⟩ := five_cells (keep b3 HB'.out); have HC3 := keep b3 HC.out; obtain ⟨r1, r2, r3, r4, r5⟩ := five_cells HC3; have f0 := not_frozen5 HC3 0; have f1 := not_frozen5 HC3 1; have f2 := not_frozen5 HC3 2; have f3 := not_frozen5 HC3 3; have f4 := not_frozen5 HC3 4; have HC3' : Hid (w3.heap[B + 1]? = _) := HC3; clear HC3 p1 p2 p3 p4 p5))
  go_wp2
  have hz := b3.size
  have b4 : Below V.heap.size V w3 := bt ((Below.refl _ V).drew) b3
  refine bodyPost_ret (results_pk Try.results23 _ _ (B + 1) _ _ _ _ _ _ rfl (set_all5 HC3'.out _ _ _ _ _)) rfl ?_
  exact ⟨_, rfl, ⟨_, rfl, s1.grown n1 (gb_all5 w3 (B + 1) _ _ _ _ _) (fun k e => by cases e; exact zC), n1.mono (Nat.le_trans (by omega : B ≤ V.heap.size) (Nat.le_refl _))⟩, (bV.trans (b4.mono (by omega))).grown (gb_all5 w3 (B + 1) _ _ _ _ _) (Nat.le_trans (by omega : B ≤ V.heap.size) hz) (fun k e => by cases e; omega)⟩
  --]c
end Go.Proofs.Ytbhgffbmeaomkaa.Gr
