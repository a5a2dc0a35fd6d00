/-
  A store in memory of its own; one where one slot is another one: the code's.
-/
import Derived.Test.YtcfobifldlkfnaaNN2
import Derived.Test.YtcfobifldlkfnaaNG
import Derived.Laws.ResultCell
namespace Go.Proofs.Ytcfobifldlkfnaa.Gr
open Go.RowKit Go.Sort Qm Nm
set_option linter.unusedVariables false

/-- what a store shows -/
def SeesN (w : World) (v : Value) (s : Nv) : Prop := ∃ va vb, v = .agg #[va, .int .i64 s.c, vb, .int .i64 s.d] ∧ SeesI w va s.a ∧ SeesI w vb s.b
/-- the same, of slices that lie in memory from b on -/
def SeesNew (b : Nat) (w : World) (v : Value) (s : Nv) : Prop := ∃ va vb, v = .agg #[va, .int .i64 s.c, vb, .int .i64 s.d] ∧ SeesI w va s.a ∧ SeesI w vb s.b ∧ New b va ∧ New b vb
theorem SeesNew.sees {b : Nat} {w : World} {v : Value} {s : Nv} (h : SeesNew b w v s) : SeesN w v s := by
  obtain ⟨va, vb, e, h1, h2, _, _⟩ := h
  exact ⟨va, vb, e, h1, h2⟩
theorem SeesN.below {w w' : World} {v : Value} {s : Nv} (h : SeesN w v s) (hb : Below w.heap.size w w') : SeesN w' v s := by
  obtain ⟨va, vb, e, h1, h2⟩ := h
  exact ⟨va, vb, e, h1.below hb, h2.below hb⟩
theorem gb_setC (w : World) (b k : Nat) (v : Value) : w.grownBy (w.setCell ⟨b, k, none⟩ v) (some b) :=
  ⟨rfl, rfl, rfl, by simp [World.setCell], fun j _ hn => heap_setCell_other w ⟨b, k, none⟩ j v (fun e => hn (by rw [e]))⟩
theorem set_four0 {w : World} {b : Nat} {x y z u : Value} {t : TypeId} (h : w.heap[b]? = some (.cells #[x, y, z, u] t (0, 0))) (v : Value) : (w.setCell ⟨b, 0, none⟩ v).heap[b]? = some (.cells #[v, y, z, u] t (0, 0)) := heap_setCell_same w b 0 _ t v h
theorem set_four1 {w : World} {b : Nat} {x y z u : Value} {t : TypeId} (h : w.heap[b]? = some (.cells #[x, y, z, u] t (0, 0))) (v : Value) : (w.setCell ⟨b, 1, none⟩ v).heap[b]? = some (.cells #[x, v, z, u] t (0, 0)) := heap_setCell_same w b 1 _ t v h
theorem set_four2 {w : World} {b : Nat} {x y z u : Value} {t : TypeId} (h : w.heap[b]? = some (.cells #[x, y, z, u] t (0, 0))) (v : Value) : (w.setCell ⟨b, 2, none⟩ v).heap[b]? = some (.cells #[x, y, v, u] t (0, 0)) := heap_setCell_same w b 2 _ t v h
theorem set_four3 {w : World} {b : Nat} {x y z u : Value} {t : TypeId} (h : w.heap[b]? = some (.cells #[x, y, z, u] t (0, 0))) (v : Value) : (w.setCell ⟨b, 3, none⟩ v).heap[b]? = some (.cells #[x, y, z, v] t (0, 0)) := heap_setCell_same w b 3 _ t v h
theorem not_frozen {w : World} {b : Nat} {cs : Array Value} {t : TypeId} (h : w.heap[b]? = some (.cells cs t (0, 0))) (k : Nat) : w.frozen? ⟨b, k, none⟩ = false := by simp [World.frozen?, h]

theorem set_all4 {w : World} {b : Nat} {x y z u : Value} {t : TypeId} (h : w.heap[b]? = some (.cells #[x, y, z, u] t (0, 0))) (x' y' z' u' : Value) :
    ((((w.setCell ⟨b, 0, none⟩ x').setCell ⟨b, 1, none⟩ y').setCell ⟨b, 2, none⟩ z').setCell ⟨b, 3, none⟩ u').heap[b]? = some (.cells #[x', y', z', u'] t (0, 0)) :=
  set_four3 (set_four2 (set_four1 (set_four0 h x') y') z') u'
theorem gb_all4 (w : World) (b : Nat) (x' y' z' u' : Value) : w.grownBy ((((w.setCell ⟨b, 0, none⟩ x').setCell ⟨b, 1, none⟩ y').setCell ⟨b, 2, none⟩ z').setCell ⟨b, 3, none⟩ u') (some b) :=
  gb_trans (gb_trans (gb_trans (gb_setC w b 0 x') (gb_setC _ b 1 y')) (gb_setC _ b 2 z')) (gb_setC _ b 3 u')
theorem heaps3 (w : World) (o1 o2 o3 : Obj) : (((w.alloc o1).alloc o2).alloc o3).heap[w.heap.size]? = some o1 ∧ (((w.alloc o1).alloc o2).alloc o3).heap[w.heap.size + 1]? = some o2 ∧ (((w.alloc o1).alloc o2).alloc o3).heap[w.heap.size + 1 + 1]? = some o3 := by
  have h1 := heap_old (heap_old (heap_new w o1) o2) o3
  have h2 := heap_old (heap_new (w.alloc o1) o2) o3
  have h3 := heap_new ((w.alloc o1).alloc o2) o3
  have z1 : (w.alloc o1).heap.size = w.heap.size + 1 := by simp
  have z2 : ((w.alloc o1).alloc o2).heap.size = w.heap.size + 1 + 1 := by simp
  rw [z1] at h2
  rw [z2] at h3
  exact ⟨h1, h2, h3⟩
theorem heaps2 (w : World) (o1 o2 : Obj) : ((w.alloc o1).alloc o2).heap[w.heap.size]? = some o1 ∧ ((w.alloc o1).alloc o2).heap[w.heap.size + 1]? = some o2 := by
  have h1 := heap_old (heap_new w o1) o2
  have h2 := heap_new (w.alloc o1) o2
  have z1 : (w.alloc o1).heap.size = w.heap.size + 1 := by simp
  rw [z1] at h2
  exact ⟨h1, h2⟩
/-- a result is stored in its variable -/
theorem SeesNew.stored {b B : Nat} {w : World} {x y : Value} {s : Nv} (hx : SeesI w x s.a) (hy : SeesI w y s.b) (nx : New b x) (ny : New b y) (hB : B < b) (x' y' z' u' : Value) :
    SeesI ((((w.setCell ⟨B, 0, none⟩ x').setCell ⟨B, 1, none⟩ y').setCell ⟨B, 2, none⟩ z').setCell ⟨B, 3, none⟩ u') x s.a ∧ SeesI ((((w.setCell ⟨B, 0, none⟩ x').setCell ⟨B, 1, none⟩ y').setCell ⟨B, 2, none⟩ z').setCell ⟨B, 3, none⟩ u') y s.b :=
  ⟨SeesI.grown hx nx (gb_all4 w B x' y' z' u') (fun k e => by cases e; exact hB), SeesI.grown hy ny (gb_all4 w B x' y' z' u') (fun k e => by cases e; exact hB)⟩
theorem undNv : ∃ fs, Try.prog.underlying 27 = some (.struct fs) := by
  refine ⟨((Try.prog.underlying 27).getD .bool |> fun d => match d with | .struct fs => fs | _ => #[]), ?_⟩
  kernel_rfl
theorem sizeNv : (Try.prog.info? 27).map (·.size) = some 4 := by kernel_rfl
theorem results_nv {fn : Func} {p : Tmp} (h : fn.results = #[.cell p 27]) (tmps : Array Value) (w : World) (g : Nat) (t : TypeId) (x y z u : Value) (hp : tmps.getD p undef = .pointer (some ⟨g, 0, none⟩)) (hg : w.heap[g]? = some (.cells #[x, y, z, u] t (0, 0))) :
    (results fn tmps).run Try.prog w = .ok (.agg #[x, y, z, u]) w := by
  obtain ⟨fs, hu⟩ := undNv
  exact results_cell_row h tmps w g t _ _ _ hp hg hu rfl sizeNv
theorem results_nv2 {fn : Func} {p q : Tmp} (h : fn.results = #[.cell p 27, .tmp q]) (tmps : Array Value) (w : World) (g : Nat) (t : TypeId) (x y z u v : Value) (hp : tmps.getD p undef = .pointer (some ⟨g, 0, none⟩)) (hq : tmps.getD q undef = v) (hg : w.heap[g]? = some (.cells #[x, y, z, u] t (0, 0))) :
    (results fn tmps).run Try.prog w = .ok (.tuple #[.agg #[x, y, z, u], v]) w := by
  obtain ⟨fs, hu⟩ := undNv
  rw [results_cell_tmp h, hp, hq]
  simp [asAddr, run_loadVar_row w g t 27 _ _ _ hg hu rfl sizeNv, Result.andThen]

set_option maxRecDepth 20000 in
set_option maxHeartbeats 2000000 in
theorem nown_any (v : Value) (s : Nv) (w : World) (hna : s.a.length ≤ 1000) (hnb : s.b.length ≤ 1000) (sv : SeesN w v s) :
    Calls Try.prog 29 #[v] w fun e w' => ∃ v', e = .returned v' ∧ SeesNew w.heap.size w' v' s ∧ Below w.heap.size w w' := by
  obtain ⟨va, vb', rfl, sa, sb⟩ := sv
  obtain ⟨A, c, Bw, d⟩ := s
  simp only at hna hnb sa sb ⊢
  obtain ⟨ao, acap, hae⟩ := sa.slice
  obtain ⟨bo, bcap, hbe⟩ := sb.slice
  subst hae
  subst hbe
  obtain ⟨va, hva⟩ : ∃ va, Value.slice ao A.length acap = va := ⟨_, rfl⟩
  obtain ⟨vb', hvb⟩ : ∃ vb', Value.slice bo Bw.length bcap = vb' := ⟨_, rfl⟩
  rw [hva] at sa ⊢
  rw [hvb] at sb ⊢
  have hB := heap_old (heap_new w (.cells #[va, .int .i64 c, vb', .int .i64 d] 25)) (.cells #[.slice none 0 0, .int .i64 0, .slice none 0 0, .int .i64 0] 27)
  have hC := heap_new (w.alloc (.cells #[va, .int .i64 c, vb', .int .i64 d] 25)) (.cells #[.slice none 0 0, .int .i64 0, .slice none 0 0, .int .i64 0] 27)
  have hz : (w.alloc (.cells #[va, .int .i64 c, vb', .int .i64 d] 25)).heap.size = w.heap.size + 1 := by simp
  rw [hz] at hC
  obtain ⟨W, hW⟩ : ∃ W, (w.alloc (.cells #[va, .int .i64 c, vb', .int .i64 d] 25)).alloc (.cells #[.slice none 0 0, .int .i64 0, .slice none 0 0, .int .i64 0] 27) = W := ⟨_, rfl⟩
  have bW : Below w.heap.size w W := by rw [← hW]; exact bt (box_below _ _) (box_below _ _)
  have hWs : W.heap.size = w.heap.size + 2 := by rw [← hW]; simp
  rw [hW] at hB hC
  have HSA : Hid (∀ u, Below w.heap.size w u → SeesI u va A) := fun u h => sa.below h
  have HSB : Hid (∀ u, Below w.heap.size w u → SeesI u vb' Bw) := fun u h => sb.below h
  have cC := fun (u : World) (x : Value) (ws : List Int) (hl : ws.length ≤ 1000) (h : SeesI u x ws) => clone64 x ws (by omega) u h
  obtain ⟨B, hBe⟩ : ∃ B, w.heap.size = B := ⟨_, rfl⟩
  have HBe : Hid (w.heap.size = B) := hBe
  rw [hBe] at hB hC bW HSA HSB hWs ⊢
  have HW : Hid (W.heap.size = B + 2) := hWs
  subst hva
  subst hvb
  clear hWs hz sa sb
  go_enter Try.func29, Try.ntmps29
  go_wp2
  clear hW hBe
  go_loopw [4] (fun i wr => ∃ k : Nat, k ≤ 2 ∧ i = .int .i64 k ∧ ∃ x y, wr.heap[B]? = some (.cells #[x, .int .i64 c, y, .int .i64 d] 25 (0, 0)) ∧ wr.heap[B + 1]? = some (.cells #[.slice none 0 0, .int .i64 0, .slice none 0 0, .int .i64 0] 27 (0, 0)) ∧
    (k < 2 → y = .slice bo Bw.length bcap) ∧ (k < 1 → x = .slice ao A.length acap) ∧ SeesI wr x A ∧ SeesI wr y Bw ∧ (0 < k → New (B + 2) x) ∧ (1 < k → New (B + 2) y) ∧ Below B w wr) (fun i _ => 2 - (intOf i).toNat)
  case atStart => exact ⟨0, by omega, rfl, _, _, hB, hC, fun _ => rfl, fun _ => rfl, HSA.out _ bW, HSB.out _ bW, fun h => absurd h (by omega), fun h => absurd h (by omega), bW⟩
  case round =>
    clear hB hC
    obtain ⟨k, hk, rfl, x, y, hB, hC, hy, hx, sx, sy, hnew, hnew2, hbl⟩ := hrel
    have hBs := lt_of_block hB
    have hCs := lt_of_block hC
    obtain ⟨r1, r2, r3, r4⟩ := four_cells hB
    rcases (by omega : k = 0 ∨ k = 1 ∨ k = 2) with rfl | rfl | rfl
    · obtain rfl := hy (by omega)
      obtain rfl := hx (by omega)
      clear hy hx hnew hnew2
      have HC : Hid (wr.heap[B + 1]? = _) := hC
      have HB : Hid (wr.heap[B]? = _) := hB
      have HSx : Hid (SeesI wr _ A) := sx
      clear hB hC sx sy
      --[a
      go_wp2_with (go_at_call 26; go_must (refine (cC _ _ A hna HSx.out).mono ?_); rintro e w2 ⟨v2, rfl, ho2, b2⟩; obtain ⟨g2, c2, rfl⟩ := own_any ho2; have hB2 := keep b2 HB.out; obtain ⟨t1, t2, t3, t4⟩ := four_cells hB2; have hf2 := not_frozen hB2 0)
      generalize hv2 : Value.slice g2 A.length c2 = V at *
      have hne : B + 1 ≠ B := by omega
      have n2 : New wr.heap.size V := New.own ho2
      have q1 : SeesI (w2.setCell ⟨B, 0, none⟩ V) V A := SeesI.grown (Row.own ho2) n2 (gb_setC w2 B 0 V) (fun k e => by cases e; exact hBs)
      have q2 := set_four0 hB2 V
      have q3 : (w2.setCell ⟨B, 0, none⟩ V).heap[B + 1]? = _ := (heap_setCell_other w2 ⟨B, 0, none⟩ (B + 1) V hne).trans (keep b2 HC.out)
      have q4 : Below B w (w2.setCell ⟨B, 0, none⟩ V) := (hbl.trans (b2.mono (by omega))).grown (gb_setC w2 B 0 V) (by have := b2.size; omega) (fun k e => by cases e; exact Nat.le_refl _)
      go_roundw
      case rel => exact ⟨1, by omega, rfl, V, _, q2, q3, fun _ => rfl, fun h => absurd h (by omega), q1, HSB.out _ q4, fun _ => n2.mono (by omega), fun h => absurd h (by omega), q4⟩
      case measure => simp [intOf]
      --]a
    · obtain rfl := hy (by omega)
      have n1 := hnew (by omega)
      clear hy hx hnew hnew2
      have HC : Hid (wr.heap[B + 1]? = _) := hC
      have HB : Hid (wr.heap[B]? = _) := hB
      have HSx : Hid (SeesI wr x A) := sx
      have HSy : Hid (SeesI wr _ Bw) := sy
      clear hB hC sx sy
      --[b
      go_wp2_with (go_at_call 26; go_must (refine (cC _ _ Bw hnb HSy.out).mono ?_); rintro e w2 ⟨v2, rfl, ho2, b2⟩; obtain ⟨g2, c2, rfl⟩ := own_any ho2; have hB2 := keep b2 HB.out; obtain ⟨t1, t2, t3, t4⟩ := four_cells hB2; have hf2 := not_frozen hB2 2)
      generalize hv2 : Value.slice g2 Bw.length c2 = V at *
      have hne : B + 1 ≠ B := by omega
      have n2 : New wr.heap.size V := New.own ho2
      have q1 : SeesI (w2.setCell ⟨B, 2, none⟩ V) V Bw := SeesI.grown (Row.own ho2) n2 (gb_setC w2 B 2 V) (fun k e => by cases e; exact hBs)
      have q1' : SeesI (w2.setCell ⟨B, 2, none⟩ V) x A := SeesI.grown (HSx.out.below b2) n1 (gb_setC w2 B 2 V) (fun k e => by cases e; omega)
      have q2 := set_four2 hB2 V
      have q3 : (w2.setCell ⟨B, 2, none⟩ V).heap[B + 1]? = _ := (heap_setCell_other w2 ⟨B, 2, none⟩ (B + 1) V hne).trans (keep b2 HC.out)
      have q4 : Below B w (w2.setCell ⟨B, 2, none⟩ V) := (hbl.trans (b2.mono (by omega))).grown (gb_setC w2 B 2 V) (by have := b2.size; omega) (fun k e => by cases e; exact Nat.le_refl _)
      go_roundw
      case rel => exact ⟨2, by omega, rfl, x, V, q2, q3, fun h => absurd h (by omega), fun h => absurd h (by omega), q1', q1, fun _ => n1, fun _ => n2.mono (by omega), q4⟩
      case measure => simp [intOf]
      --]b
    · have n1 := hnew (by omega)
      have n2 := hnew2 (by omega)
      clear hy hx hnew hnew2
      obtain ⟨xo, xcap, rfl⟩ := sx.slice
      obtain ⟨yo, ycap, rfl⟩ := sy.slice
      have HSx : Hid (SeesI wr _ A) := sx
      have HSy : Hid (SeesI wr _ Bw) := sy
      have f0 := not_frozen hC 0
      have f1 := not_frozen hC 1
      have f2 := not_frozen hC 2
      have f3 := not_frozen hC 3
      obtain ⟨z1, z2, z3, z4⟩ := four_cells hC
      have HC : Hid (wr.heap[B + 1]? = _) := hC
      clear hB sx sy
      --[c
      go_wp2
      refine bodyPost_ret (results_nv Try.results29 _ _ (B + 1) _ _ _ _ _ rfl (set_all4 HC.out _ _ _ _)) rfl ?_
      have hg := gb_all4 wr (B + 1) (.slice xo A.length xcap) (.int .i64 c) (.slice yo Bw.length ycap) (.int .i64 d)
      exact ⟨_, rfl, ⟨_, _, rfl, SeesI.grown HSx.out n1 hg (fun k e => by cases e; omega), SeesI.grown HSy.out n2 hg (fun k e => by cases e; omega), n1.mono (by omega), n2.mono (by omega)⟩, hbl.grown hg (by omega) (fun k e => by cases e; omega)⟩
      --]c
end Go.Proofs.Ytcfobifldlkfnaa.Gr
