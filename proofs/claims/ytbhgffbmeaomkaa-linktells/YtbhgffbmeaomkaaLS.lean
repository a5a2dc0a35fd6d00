/-
  Ends: the document's New, Send, Out.
-/
import Derived.Test.YtbhgffbmeaomkaaLW
import Derived.Test.YtbhgffbmeaomkaaSV
import Derived.Deep.Cut
namespace Go.Proofs.Ytbhgffbmeaomkaa.Gr
open Go.RowKit Go.Sort Lm
set_option linter.unusedVariables false

set_option maxRecDepth 20000 in
set_option maxHeartbeats 2000000 in
theorem rnewL_any (o : Int) (w : World) :
    Calls Try.prog 12 #[.int .i64 o] w fun e w' => ∃ v', e = .returned (.tuple #[v', .int .i64 (newE o)]) ∧ SeesL w' v' (newL o) ∧ Below w.heap.size w w' := by
  by_cases h1 : o < 1
  · have d1 : decide (o < 1) = true := decide_eq_true h1
    have e1 : newE o = 1 := by unfold newE; rw [if_pos (.inl h1)]
    have e2 : newL o = ⟨0, 0, 0, [], 0⟩ := by unfold newL; rw [if_pos (.inl h1)]
    rw [e1, e2]
    clear e1 e2
    --[a
    go_enter Try.func12, Try.ntmps12
    go_wp2
    refine bodyPost_ret (results_lk2 Try.results12 _ _ w.heap.size _ _ _ _ _ _ _ rfl rfl (heap_new w _)) rfl ?_
    exact ⟨_, rfl, ⟨_, rfl, Row.nil _⟩, box_below w _⟩
    --]a
  · have d1 : decide (o < 1) = false := decide_eq_false h1
    by_cases h2 : 4611686018427387904 < o
    · have d2 : decide (4611686018427387904 < o) = true := decide_eq_true h2
      have e1 : newE o = 1 := by unfold newE; rw [if_pos (.inr h2)]
      have e2 : newL o = ⟨0, 0, 0, [], 0⟩ := by unfold newL; rw [if_pos (.inr h2)]
      rw [e1, e2]
      clear e1 e2
      --[b
      go_enter Try.func12, Try.ntmps12
      go_wp2
      refine bodyPost_ret (results_lk2 Try.results12 _ _ w.heap.size _ _ _ _ _ _ _ rfl rfl (heap_new w _)) rfl ?_
      exact ⟨_, rfl, ⟨_, rfl, Row.nil _⟩, box_below w _⟩
      --]b
    · have d2 : decide (4611686018427387904 < o) = false := decide_eq_false h2
      have hno : ¬ (o < 1 ∨ 4611686018427387904 < o) := by omega
      have e1 : newE o = 0 := by unfold newE; rw [if_neg hno]
      have e2 : newL o = ⟨o, 0, 0, [], 0⟩ := by unfold newL; rw [if_neg hno]
      rw [e1, e2]
      clear e1 e2 hno
      --[c
      go_enter Try.func12, Try.ntmps12
      go_wp2
      refine bodyPost_ret (results_lk2 Try.results12 _ _ w.heap.size _ _ _ _ _ _ _ rfl rfl (heap_new w _)) rfl ?_
      exact ⟨_, rfl, ⟨_, rfl, Row.nil _⟩, box_below w _⟩
      --]c
set_option maxRecDepth 20000 in
set_option maxHeartbeats 2000000 in
theorem rsendL_any (v : Value) (l : Lk) (x : Int) (w : World) (hn : l.sent.length ≤ 1000) (sv : SeesL w v l) :
    Calls Try.prog 18 #[v, .int .i64 x] w fun e w' => ∃ v', e = .returned (.tuple #[v', .int .i64 (sendE l)]) ∧ SeesL w' v' (sendL l x) ∧ Below w.heap.size w w' := by
  obtain ⟨vs, rfl, sl⟩ := sv
  obtain ⟨so, sc, rfl⟩ := sl.slice
  by_cases h8 : l.sent.length = 8
  · have hf : fullL l = true := by unfold fullL; rw [h8]; rfl
    have e1 : sendE l = 7 := by unfold sendE; rw [if_pos hf]
    have e2 : sendL l x = l := by unfold sendL; rw [if_pos hf]
    rw [e1, e2]
    have h8' : (l.sent.length : Int) = 8 := by omega
    have d8 : decide ((l.sent.length : Int) = 8) = true := decide_eq_true h8'
    have sl1 := fun u h => sl.below (w' := u) h
    have hh := heaps2' w (.cells #[.int .i64 l.own, .int .i64 l.other, .int .i64 l.first, .slice so l.sent.length sc, .int .i64 l.next] 24) (.cells #[.int .i64 l.own, .int .i64 l.other, .int .i64 l.first, .slice so l.sent.length sc, .int .i64 l.next] 24)
    have bb := bt (box_below w (.cells #[.int .i64 l.own, .int .i64 l.other, .int .i64 l.first, .slice so l.sent.length sc, .int .i64 l.next] 24)) (box_below _ (.cells #[.int .i64 l.own, .int .i64 l.other, .int .i64 l.first, .slice so l.sent.length sc, .int .i64 l.next] 24))
    have hsl : Hid (SeesI ((w.alloc (.cells #[.int .i64 l.own, .int .i64 l.other, .int .i64 l.first, .slice so l.sent.length sc, .int .i64 l.next] 24)).alloc (.cells #[.int .i64 l.own, .int .i64 l.other, .int .i64 l.first, .slice so l.sent.length sc, .int .i64 l.next] 24)) (.slice so l.sent.length sc) l.sent) := sl.below bb
    have hl2 : Hid (l.sent.length = 8) := h8
    have d8' : ((l.sent.length : Int) == 8) = true := by rw [h8']; rfl
    clear e1 e2 hf sl sl1 h8 h8'
    obtain ⟨n, hn'⟩ : ∃ n, l.sent.length = n := ⟨_, rfl⟩
    rw [hn'] at hh bb hsl d8 d8' ⊢
    clear hn'
    --[d
    go_enter Try.func18, Try.ntmps18
    go_wp2
    refine bodyPost_ret (results_lk2 Try.results18 _ _ (w.heap.size + 1) _ _ _ _ _ _ _ rfl rfl hh.2) rfl ?_
    exact ⟨_, rfl, ⟨_, rfl, hsl.out⟩, bb⟩
    --]d
  · have hf : ¬ fullL l = true := by unfold fullL; rw [decide_eq_false h8]; simp
    have e1 : sendE l = 0 := by unfold sendE; rw [if_neg hf]
    have e2 : sendL l x = { l with sent := l.sent ++ [x] } := by unfold sendL; rw [if_neg hf]
    rw [e1, e2]
    have d8 : decide ((l.sent.length : Int) = 8) = false := decide_eq_false (by omega)
    have d8' : ((l.sent.length : Int) == 8) = false := by simp; omega
    obtain ⟨V, hV⟩ : ∃ V, ((w.alloc (.cells #[.int .i64 l.own, .int .i64 l.other, .int .i64 l.first, .slice so l.sent.length sc, .int .i64 l.next] 24)).alloc (.cells #[.int .i64 0, .int .i64 0, .int .i64 0, .slice none 0 0, .int .i64 0] 24)).alloc (.cells #[.int .i64 l.own, .int .i64 l.other, .int .i64 l.first, .slice so l.sent.length sc, .int .i64 l.next] 24) = V := ⟨_, rfl⟩
    obtain ⟨hB, hC, hD⟩ := heaps3' w (.cells #[.int .i64 l.own, .int .i64 l.other, .int .i64 l.first, .slice so l.sent.length sc, .int .i64 l.next] 24) (.cells #[.int .i64 0, .int .i64 0, .int .i64 0, .slice none 0 0, .int .i64 0] 24) (.cells #[.int .i64 l.own, .int .i64 l.other, .int .i64 l.first, .slice so l.sent.length sc, .int .i64 l.next] 24)
    have bV : Below w.heap.size w V := by rw [← hV]; exact bt (bt (box_below _ _) (box_below _ _)) (box_below _ _)
    rw [hV] at hB hC hD
    obtain ⟨B, hBe⟩ : ∃ B, w.heap.size = B := ⟨_, rfl⟩
    rw [hBe] at hB hC hD bV ⊢
    have HBe : Hid (w.heap.size = B) := hBe
    have zD : B + 1 + 1 < V.heap.size := lt_of_block hD
    obtain ⟨p1, p2, p3, p4, p5⟩ := five_cells hB
    have HC : Hid (V.heap[B + 1]? = _) := hC
    have HD : Hid (V.heap[B + 1 + 1]? = _) := hD
    have hnil := own_nil64 V V.heap.size rfl
    have sV := sl.below (w' := V) (by rw [hBe]; exact bV)
    have sV' := sV.below (box_below V (.cells #[] 2))
    clear e1 e2 hf sl hB hC hD h8
    obtain ⟨n, hn'⟩ : ∃ n, l.sent.length = n := ⟨_, rfl⟩
    have HN : Hid (l.sent.length = n) := hn'
    rw [hn'] at hn d8 d8' hV sV sV' p4 ⊢
    have HD' : Hid (V.heap[B + 1 + 1]? = some (.cells #[.int .i64 l.own, .int .i64 l.other, .int .i64 l.first, .slice so n sc, .int .i64 l.next] 24 (0, 0))) := by have := HD.out; rw [hn'] at this; exact this
    clear hn' HD
    have q4 := ((box_below V (.cells #[] 2)).cell (block_lt_of_cell p4)).trans p4
    --[e
    go_enter Try.func18, Try.ntmps18
    go_upto_region 5 with (first
      | (have _ := ho2; at_builtin; go_must (refine app64 rfl _ _ rfl V.heap.size _ (0 + l.sent.length) _ rfl (ho2.alloc _) (le_alloc b2.size _) _ [x] rfl (one64 w2 x) (by rw [HN.out]; simp; omega) ?_); intro v3 w3 ho3 hg3; have b3 : Below V.heap.size V w3 := (b2.alloc b2.size _).grown hg3 (le_alloc b2.size _) (fun k e => (ho2.lt k e).1); obtain ⟨g3, c3, rfl⟩ := own_any ho3; obtain ⟨k1, k2, k3, k4, k5⟩ := five_cells ((b3.block _ zD).trans HD'.out); have k6 := not_frozen5 ((b3.block _ zD).trans HD'.out) 3)
      | (at_builtin; go_must (refine app64 rfl _ _ rfl V.heap.size (.slice (some ⟨V.heap.size, 0, none⟩) 0 0) 0 [] rfl hnil (box_below V _).size _ l.sent rfl sV' (by rw [HN.out]; omega) ?_); intro v2 w2 ho2 hg2; have b2 : Below V.heap.size V w2 := (box_below V _).grown hg2 (box_below V _).size (fun k e => by cases e; exact Nat.le_refl _)))
    have zC : B + 1 < V.heap.size := by omega
    have ho4 : w3.ownsRow V.heap.size 2 1 (.slice g3 (l.sent.length + 1) c3) (l.sent.length + 1) ((l.sent ++ [x]).map vw) := by simpa using ho3
    have s3 : SeesI w3 (.slice g3 (l.sent.length + 1) c3) (l.sent ++ [x]) := SeesI.own ho4
    have n3 : New V.heap.size (.slice g3 (l.sent.length + 1) c3) := fun k e => (ho4.lt k e).1
    obtain ⟨N3, hv3⟩ : ∃ N3, l.sent.length + 1 = N3 := ⟨_, rfl⟩
    rw [hv3] at s3 n3 ⊢
    have HU := set_five3 ((b3.block _ zD).trans HD'.out) (.slice g3 N3 c3)
    have HUC := (heap_setCell_other w3 ⟨B + 1 + 1, 3, none⟩ (B + 1) (.slice g3 N3 c3) (by simp)).trans ((b3.block _ zC).trans HC.out)
    have sU := s3.grown n3 (gb_setC5 w3 (B + 1 + 1) 3 (.slice g3 N3 c3)) (fun k e => by cases e; exact zD)
    have bU : Below B w (w3.setCell ⟨B + 1 + 1, 3, none⟩ (.slice g3 N3 c3)) := (bV.trans (b3.mono (by omega))).grown (gb_setC5 w3 (B + 1 + 1) 3 (.slice g3 N3 c3)) (by have := b3.size; omega) (fun k e => by cases e; omega)
    have zU : V.heap.size ≤ (w3.setCell ⟨B + 1 + 1, 3, none⟩ (.slice g3 N3 c3)).heap.size := Nat.le_trans b3.size (gb_setC5 w3 (B + 1 + 1) 3 (.slice g3 N3 c3)).size
    obtain ⟨u, hu⟩ : ∃ u, w3.setCell ⟨B + 1 + 1, 3, none⟩ (.slice g3 N3 c3) = u := ⟨_, rfl⟩
    rw [hu] at HU HUC sU bU zU ⊢
    clear hu hv3
    obtain ⟨m1, m2, m3, m4, m5⟩ := five_cells HU
    obtain ⟨r1, r2, r3, r4, r5⟩ := five_cells HUC
    have f0 := not_frozen5 HUC 0
    have f1 := not_frozen5 HUC 1
    have f2 := not_frozen5 HUC 2
    have f3 := not_frozen5 HUC 3
    have f4 := not_frozen5 HUC 4
    have HUC' : Hid (u.heap[B + 1]? = _) := HUC
    clear HU HUC
    go_wp2
    refine bodyPost_ret (results_lk2 Try.results18 _ _ (B + 1) _ _ _ _ _ _ _ rfl rfl (set_all5 HUC'.out _ _ _ _ _)) rfl ?_
    exact ⟨_, rfl, ⟨_, rfl, sU.grown n3 (gb_all5 u (B + 1) _ _ _ _ _) (fun k e => by cases e; exact zC)⟩, bU.grown (gb_all5 u (B + 1) _ _ _ _ _) (by omega) (fun k e => by cases e; omega)⟩
    --]e
end Go.Proofs.Ytbhgffbmeaomkaa.Gr
