/-
  Ends: the code's own row, and an end in memory of its own.
-/
import Derived.Test.YtbhgffbmeaomkaaLW
import Derived.Test.YtbhgffbmeaomkaaDCo
import Derived.Lib.MinMax
import Derived.RangeFuncBox
import Derived.Deep.Cut
namespace Go.Proofs.Ytbhgffbmeaomkaa.Gr
open Go.RowKit Go.Sort Lm
set_option linter.unusedVariables false

/-- an end whose words lie in memory of their own -/
def OwnL (B : Nat) (w : World) (v : Value) (l : Lk) : Prop := ∃ vs, v = .agg #[.int .i64 l.own, .int .i64 l.other, .int .i64 l.first, vs, .int .i64 l.next] ∧ SeesI w vs l.sent ∧ New B vs
/-- a packet whose words lie in memory of their own -/
def OwnP (B : Nat) (w : World) (v : Value) (p : Pk) : Prop := ∃ vs, v = .agg #[.int .i64 p.frm, .int .i64 p.to, .int .i64 p.place, vs, .int .i64 p.wait] ∧ SeesI w vs p.words ∧ New B vs
theorem OwnL.sees {B : Nat} {w : World} {v : Value} {l : Lk} (h : OwnL B w v l) : SeesL w v l := by
  obtain ⟨vs, e, h1, _⟩ := h
  exact ⟨vs, e, h1⟩
theorem OwnP.sees {B : Nat} {w : World} {v : Value} {l : Pk} (h : OwnP B w v l) : SeesP w v l := by
  obtain ⟨vs, e, h1, _⟩ := h
  exact ⟨vs, e, h1⟩
set_option maxRecDepth 20000 in
set_option maxHeartbeats 400000 in
theorem behind_any (v : Value) (xs : List Int) (n : Int) (w : World) (h0 : 0 ≤ n) (hn : xs.length ≤ 1000) (sv : SeesI w v xs) :
    Calls Try.prog 29 #[v, .int .i64 n] w fun e w' => ∃ v', e = .returned v' ∧ SeesI w' v' (xs.drop n.toNat) ∧ New w.heap.size v' ∧ Below w.heap.size w w' := by
  obtain ⟨so, sc, rfl⟩ := sv.slice
  obtain ⟨F, hF⟩ : ∃ F, min n.toNat xs.length = F := ⟨_, rfl⟩
  have hmin : min n (xs.length : Int) = (F : Int) := by omega
  have hFl : F ≤ xs.length := by omega
  have hdr : xs.drop n.toNat = xs.drop F := by
    by_cases h : n.toNat ≤ xs.length
    · have : F = n.toNat := by omega
      rw [this]
    · rw [List.drop_eq_nil_of_le (by omega), List.drop_eq_nil_of_le (by omega)]
  rw [hdr]
  have hsc := sv.le.1
  have sd := sv.seg hFl (Nat.le_refl _)
  have htk : (xs.drop F).take (xs.length - F) = xs.drop F := List.take_of_length_le (by rw [List.length_drop]; omega)
  rw [htk] at sd
  have hdl : (xs.drop F).length = xs.length - F := List.length_drop
  obtain ⟨T, hT⟩ : ∃ T, xs.drop F = T := ⟨_, rfl⟩
  rw [hT] at sd hdl ⊢
  obtain ⟨N, hN⟩ : ∃ N, xs.length = N := ⟨_, rfl⟩
  rw [hN] at hn hmin hFl hsc hdl sd ⊢
  obtain ⟨M, hM⟩ : ∃ M, N - F = M := ⟨_, rfl⟩
  have HM : Hid (T.length = M) := by rw [← hM]; exact hdl
  have g1 : (F : Int) ≤ (N : Int) := by omega
  have g2 : (N : Int) ≤ (sc : Int) := by omega
  have g3 : (0 : Int) ≤ (F : Int) := by omega
  have g4 : (F : Int) ≤ (sc : Int) := by omega
  have g5 : Hid ((N : Int) - (F : Int) = (M : Int)) := (by omega : (N : Int) - (F : Int) = (M : Int))
  have g7 : Hid (N - F = M) := hM
  have hM2 : M ≤ 1000 := by omega
  obtain ⟨fz, hfz⟩ : ∃ fz, w.heap.size = fz := ⟨_, rfl⟩
  have HF : Hid (w.heap.size = fz) := hfz
  rw [hfz]
  have sD := fun (u : World) (h : Below w.heap.size w u) => sd.below h
  clear hF hdr htk hN hT hdl sv sd hfz hM
  go_enter Try.func29, Try.ntmps29
  go_wp2_with (first
    | (at_make; refine make64 rfl _ _ rfl M (congrArg (Value.int .i64) g5.out) (congrArg (Value.int .i64) g5.out) (by omega) ?_; intro w2 ho2 b2; rw [HF.out] at ho2)
    | (have _ := b2; (refine wpList_copyO rfl _ _ _ _ rfl 2 under22 (by kernel_rfl) _ _ _ _ _ _ rfl rfl ho2 0 (T.map vw) (by simp [HM.out, g7.out]) (fun hp => ⟨by rw [HF.out], sees_src (sD _ b2) hp⟩) (by simp [HM.out]) (ws_one T) ?_); intro w3 ho3 g3))
  all_goals
    have e3 : splice (List.map vw (List.replicate M 0)) 0 (List.map vw T) = T.map vw := splice_all _ _ (by simp [HM.out])
    rw [e3] at ho3
    have hr : w3.ownsRow fz 2 1 (.slice (some ⟨fz, 0, none⟩) M M) M (T.map vw) := ho3
    rw [HF.out]
    go_ret
    refine ⟨_, rfl, SeesI.own hr, fun k e => (hr.lt k e).1, ?_⟩
    rw [← HF.out]
    exact b2.grown g3 b2.size (fun k e => by cases e; exact Nat.le_of_eq HF.out)

set_option maxRecDepth 20000 in
set_option maxHeartbeats 400000 in
theorem alone_any (v : Value) (l : Lk) (w : World) (hn : l.sent.length ≤ 1000) (sv : SeesL w v l) :
    Calls Try.prog 27 #[v] w fun e w' => ∃ v', e = .returned v' ∧ OwnL w.heap.size w' v' l ∧ Below w.heap.size w w' := by
  obtain ⟨vs, rfl, sl⟩ := sv
  obtain ⟨so, sc, rfl⟩ := sl.slice
  obtain ⟨V, hV⟩ : ∃ V, (w.alloc (.cells #[.int .i64 l.own, .int .i64 l.other, .int .i64 l.first, .slice so l.sent.length sc, .int .i64 l.next] 24)).alloc (.cells #[.int .i64 0, .int .i64 0, .int .i64 0, .slice none 0 0, .int .i64 0] 24) = V := ⟨_, rfl⟩
  obtain ⟨hB, hC⟩ := heaps2' w (.cells #[.int .i64 l.own, .int .i64 l.other, .int .i64 l.first, .slice so l.sent.length sc, .int .i64 l.next] 24) (.cells #[.int .i64 0, .int .i64 0, .int .i64 0, .slice none 0 0, .int .i64 0] 24)
  have bV : Below w.heap.size w V := by rw [← hV]; exact bt (box_below _ _) (box_below _ _)
  rw [hV] at hB hC
  have cK := behind_any _ l.sent 0 V (Int.le_refl _) hn (sl.below bV)
  have e0 : l.sent.drop (0 : Int).toNat = l.sent := rfl
  rw [e0] at cK
  clear e0
  obtain ⟨B, hBe⟩ : ∃ B, w.heap.size = B := ⟨_, rfl⟩
  rw [hBe] at hB hC bV ⊢
  have HBe : Hid (w.heap.size = B) := hBe
  have zC : B + 1 < V.heap.size := lt_of_block hC
  obtain ⟨p1, p2, p3, p4, p5⟩ := five_cells hB
  have HB : Hid (V.heap[B]? = _) := hB
  have HC : Hid (V.heap[B + 1]? = _) := hC
  clear hB hC sl
  obtain ⟨n, hn'⟩ : ∃ n, l.sent.length = n := ⟨_, rfl⟩
  rw [hn'] at hn hV cK p4 ⊢
  have HB' : Hid (V.heap[B]? = some (.cells #[.int .i64 l.own, .int .i64 l.other, .int .i64 l.first, .slice so n sc, .int .i64 l.next] 24 (0, 0))) := by have := HB.out; rw [hn'] at this; exact this
  clear hn' HB
  go_enter Try.func27, Try.ntmps27
  go_upto_region 2 with (go_at_call 29; go_must (refine cK.mono ?_); rintro e w1 ⟨v1, rfl, s1, n1, b1⟩; obtain ⟨g1, c1, rfl⟩ := s1.slice; obtain ⟨_, _, _, k4, _⟩ := five_cells (keep b1 HB'.out); have k6 := not_frozen5 (keep b1 HB'.out) 3)
  obtain ⟨N3, hv3⟩ : ∃ N3, l.sent.length = N3 := ⟨_, rfl⟩
  rw [hv3] at s1 n1 ⊢
  have hz := b1.size
  have HU := set_five3 (keep b1 HB'.out) (.slice g1 N3 c1)
  have HUC := (heap_setCell_other w1 ⟨B, 3, none⟩ (B + 1) (.slice g1 N3 c1) (by simp)).trans (keep b1 HC.out)
  have sU := s1.grown n1 (gb_setC5 w1 B 3 (.slice g1 N3 c1)) (fun k e => by cases e; omega)
  have bU : Below B w (w1.setCell ⟨B, 3, none⟩ (.slice g1 N3 c1)) := (bV.trans (b1.mono (by omega))).grown (gb_setC5 w1 B 3 (.slice g1 N3 c1)) (by omega) (fun k e => by cases e; omega)
  have zU : V.heap.size ≤ (w1.setCell ⟨B, 3, none⟩ (.slice g1 N3 c1)).heap.size := Nat.le_trans b1.size (gb_setC5 w1 B 3 (.slice g1 N3 c1)).size
  obtain ⟨u, hu⟩ : ∃ u, w1.setCell ⟨B, 3, none⟩ (.slice g1 N3 c1) = u := ⟨_, rfl⟩
  rw [hu] at HU HUC sU bU zU ⊢
  clear hu hv3
  obtain ⟨m1, m2, m3, m4, m5⟩ := five_cells HU
  obtain ⟨r1, r2, r3, r4, r5⟩ := five_cells HUC
  have f0 := not_frozen5 HUC 0
  have f1 := not_frozen5 HUC 1
  have f2 := not_frozen5 HUC 2
  have f3 := not_frozen5 HUC 3
  have f4 := not_frozen5 HUC 4
  have HUC' : Hid (u.heap[B + 1]? = _) := HUC
  clear HU HUC
  go_wp2
  refine bodyPost_ret (results_lk Try.results27 _ _ (B + 1) _ _ _ _ _ _ rfl (set_all5 HUC'.out _ _ _ _ _)) rfl ?_
  exact ⟨_, rfl, ⟨_, rfl, sU.grown n1 (gb_all5 u (B + 1) _ _ _ _ _) (fun k e => by cases e; exact zC), n1.mono (by omega)⟩, bU.grown (gb_all5 u (B + 1) _ _ _ _ _) (by omega) (fun k e => by cases e; omega)⟩
/-- a number is one of those from lo to hi -/
def inB (lo hi x : Int) : Bool := decide (lo ≤ x) && decide (x ≤ hi)
theorem rightL_in (l : Lk) : rightL l = (inB 1 4611686018427387904 l.own && inB 0 4611686018427387904 l.other && inB 0 4611686018427387904 l.first && inB 0 4611686018427387904 l.next && decide (l.sent.length ≤ 8)) := by
  unfold rightL inB
  simp only [Bool.and_assoc]
set_option maxRecDepth 20000 in
set_option maxHeartbeats 400000 in
theorem between_any (lo hi : Int) (w : World) :
    Calls Try.prog 25 #[.int .i64 lo, .int .i64 hi] w fun e w' => ∃ a b, e = .returned (.func (.func 30) #[] #[.pointer (some ⟨a, 0, none⟩), .pointer (some ⟨b, 0, none⟩)]) ∧ Boxed w' a 2 (.int .i64 lo) ∧ Boxed w' b 2 (.int .i64 hi) ∧ Below w.heap.size w w' := by
  go_enter Try.func25, Try.ntmps25
  go_wp2
  go_ret
  obtain ⟨hB, hC⟩ := heaps2' w (.cells #[.int .i64 lo] 2) (.cells #[.int .i64 hi] 2)
  exact ⟨_, _, rfl, hB, hC, bt (box_below _ _) (box_below _ _)⟩
set_option maxRecDepth 20000 in
set_option maxHeartbeats 400000 in
theorem in_any (x lo hi : Int) (a b : Nat) (w : World) (ha : w.cell? ⟨a, 0, none⟩ = some (.int .i64 lo)) (hb : w.cell? ⟨b, 0, none⟩ = some (.int .i64 hi)) :
    Calls Try.prog 30 #[.int .i64 x, .pointer (some ⟨a, 0, none⟩), .pointer (some ⟨b, 0, none⟩)] w fun e w' => e = .returned (.bool (inB lo hi x)) ∧ w = w' := by
  obtain ⟨E, hE⟩ : ∃ E, inB lo hi x = E := ⟨_, rfl⟩
  have HE : Hid (inB lo hi x = E) := hE
  rw [hE]
  clear hE
  by_cases h : lo ≤ x
  · by_cases h2 : x ≤ hi
    · go_enter Try.func30, Try.ntmps30
      go_wp2
      go_ret
      exact ⟨by rw [← HE.out]; simp [inB, h, h2], rfl⟩
    · go_enter Try.func30, Try.ntmps30
      go_wp2
      go_ret
      exact ⟨by rw [← HE.out]; simp [inB, h, h2], rfl⟩
  · go_enter Try.func30, Try.ntmps30
    go_wp2
    go_ret
    exact ⟨by rw [← HE.out]; unfold inB; rw [decide_eq_false (by omega)]; rfl, rfl⟩
end Go.Proofs.Ytbhgffbmeaomkaa.Gr
