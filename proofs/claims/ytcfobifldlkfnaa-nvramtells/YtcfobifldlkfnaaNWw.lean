/-
  A record is written: the document's Write.
-/
import Derived.Test.YtcfobifldlkfnaaNTr
namespace Go.Proofs.Ytcfobifldlkfnaa.Gr
open Go.RowKit Go.Sort Qm Nm
set_option linter.unusedVariables false

theorem rtornN (v vw' : Value) (s : Nv) (ws : List Int) (D : Int) (w : World) (hna : s.a.length ≤ 1000) (hnb : s.b.length ≤ 1000) (hn : ws.length ≤ 1000) (sv : SeesN w v s) (sw : SeesI w vw' ws) :
    Calls Try.prog 17 #[v, vw', .int .i64 D] w fun e w' => ∃ v', e = .returned (.tuple #[v', .int .i64 (errS s ws)]) ∧ SeesN w' v' (tornS s ws D) ∧ Below w.heap.size w w' := by
  obtain ⟨va, vb', rfl, sa, sb⟩ := sv
  refine (rtorn_any va vb' vw' s ws D w hna hnb hn sa sb sw).mono ?_
  rintro e w' ⟨x, y, rfl, sx, sy, _, _, b⟩
  exact ⟨_, rfl, ⟨_, _, rfl, sx, sy⟩, b⟩
theorem sees_one {w : World} {v : Value} {xs ys : List Int} (h : SeesI w v xs) (k : SeesI w v ys) : xs = ys := by
  obtain ⟨ao, cap, rfl⟩ := h.slice
  have hl : xs.length = ys.length := k.le.2
  apply eqI_of_get hl
  intro i hi
  obtain ⟨ad, e1, _, c1⟩ := h.at i hi
  obtain ⟨ad', e2, _, c2⟩ := k.at i (by omega)
  rw [e1] at e2
  cases e2
  rw [c1] at c2
  injection c2 with c3
  injection c3
/-- a row that lay there, or is new, is left by a write between them -/
theorem row_left {B : Nat} {w u : World} {x va : Value} {l la : List Int} (hb : Below B w u) (hB : B ≤ u.heap.size) (h1 : ∀ q, Below B w q → SeesI q va la) (h2 : x = va ∨ New (B + 1 + 1) x) (h3 : SeesI u x l) (x' y' z' u' : Value) :
    SeesI ((((u.setCell ⟨B + 1, 0, none⟩ x').setCell ⟨B + 1, 1, none⟩ y').setCell ⟨B + 1, 2, none⟩ z').setCell ⟨B + 1, 3, none⟩ u') x l := by
  rcases h2 with h2 | h2
  · subst h2
    have e := sees_one h3 (h1 u hb)
    rw [e]
    exact h1 _ (hb.grown (gb_all4 u (B + 1) x' y' z' u') hB (fun k e => by cases e; omega))
  · exact SeesI.grown h3 h2 (gb_all4 u (B + 1) x' y' z' u') (fun k e => by cases e; omega)
set_option maxRecDepth 20000 in
set_option maxHeartbeats 2000000 in
theorem rwrite_any (v vw' : Value) (s : Nv) (ws : List Int) (w : World) (hna : s.a.length ≤ 1000) (hnb : s.b.length ≤ 1000) (hn : ws.length ≤ 1000) (sv : SeesN w v s) (sw : SeesI w vw' ws) :
    Calls Try.prog 15 #[v, vw'] w fun e w' => ∃ v', e = .returned (.tuple #[v', .int .i64 (errS s ws)]) ∧ SeesN w' v' (writeS s ws) ∧ Below w.heap.size w w' := by
  obtain ⟨va, vb', rfl, sa, sb⟩ := sv
  obtain ⟨ao, acap, rfl⟩ := sa.slice
  obtain ⟨bo, bcap, rfl⟩ := sb.slice
  obtain ⟨wo, wcap, rfl⟩ := sw.slice
  obtain ⟨W, hW⟩ : ∃ W, (w.alloc (.cells #[.slice ao s.a.length acap, .int .i64 s.c, .slice bo s.b.length bcap, .int .i64 s.d] 27)).alloc (.cells #[.slice none 0 0, .int .i64 0, .slice none 0 0, .int .i64 0] 27) = W := ⟨_, rfl⟩
  have bW : Below w.heap.size w W := by rw [← hW]; exact bt (box_below _ _) (box_below _ _)
  obtain ⟨hB, hC⟩ := heaps2 w (.cells #[.slice ao s.a.length acap, .int .i64 s.c, .slice bo s.b.length bcap, .int .i64 s.d] 27) (.cells #[.slice none 0 0, .int .i64 0, .slice none 0 0, .int .i64 0] 27)
  rw [hW] at hB hC
  have sA : Hid (∀ u, Below w.heap.size w u → SeesI u (.slice ao s.a.length acap) s.a) := fun (u : World) h => sa.below h
  have sB : Hid (∀ u, Below w.heap.size w u → SeesI u (.slice bo s.b.length bcap) s.b) := fun (u : World) h => sb.below h
  have cT := rtorn_any _ _ _ s ws (3 + (ws.length : Int)) W hna hnb hn (sa.below bW) (sb.below bW) (sw.below bW)
  have eT := torn_write s ws (3 + (ws.length : Int)) (Int.le_refl _)
  rw [eT] at cT
  obtain ⟨B, hBe⟩ : ∃ B, w.heap.size = B := ⟨_, rfl⟩
  have HBe : Hid (w.heap.size = B) := hBe
  rw [hBe] at hB hC bW sA sB ⊢
  obtain ⟨p1, p2, p3, p4⟩ := four_cells hB
  have HC : Hid (W.heap[B + 1]? = _) := hC
  have hwsz : B + 1 + 1 ≤ W.heap.size := lt_of_block hC
  clear hB hC sa sb sw eT
  generalize errS s ws = ER at *
  obtain ⟨NS, hNS⟩ : ∃ NS, writeS s ws = NS := ⟨_, rfl⟩
  rw [hNS] at cT ⊢
  clear hNS
  have hn' : (ws.length : Int) ≤ 1000 := by omega
  generalize ws.length = n at *
  go_enter Try.func15, Try.ntmps15
  go_wp2_with (go_at_call 17; go_must (refine cT.mono ?_); rintro e w2 ⟨x, y, rfl, sx, sy, ox, oy, b2⟩; obtain ⟨xo, xcap, rfl⟩ := sx.slice; obtain ⟨yo, ycap, rfl⟩ := sy.slice; have hC2 := keep b2 HC.out; obtain ⟨t1, t2, t3, t4⟩ := four_cells hC2; have f0 := not_frozen hC2 0; have f1 := not_frozen hC2 1; have f2 := not_frozen hC2 2; have f3 := not_frozen hC2 3; have HX1 : Hid (_) := sx; have HX2 : Hid (_) := sy; have HO1 : Hid (_) := ox; have HO2 : Hid (_) := oy; have HC2 : Hid (_) := hC2; clear sx sy ox oy hC2)
  refine bodyPost_ret (results_nv2 Try.results15 _ _ (B + 1) _ _ _ _ _ _ rfl rfl (set_all4 HC2.out _ _ _ _)) rfl ?_
  have z2 := b2.size
  have bu : Below B w w2 := bW.trans (b2.mono (by omega))
  have hg := gb_all4 w2 (B + 1) (.slice xo NS.a.length xcap) (.int .i64 NS.c) (.slice yo NS.b.length ycap) (.int .i64 NS.d)
  have hfin := bu.grown hg (by omega) (fun k e => by cases e; omega)
  exact ⟨_, rfl, ⟨_, _, rfl, row_left bu (by omega) sA.out (HO1.out.imp id fun h => h.mono (by omega)) HX1.out _ _ _ _, row_left bu (by omega) sB.out (HO2.out.imp id fun h => h.mono (by omega)) HX2.out _ _ _ _⟩, hfin⟩
end Go.Proofs.Ytcfobifldlkfnaa.Gr
