/- Parts of the proof. -/
import Derived.ArgAppend
import Derived.Test.YtoefekkdjcflmaaGreatDoorM24
import Derived.Test.YtoefekkdjcflmaaGreatDoorM27
namespace Go.Proofs.YtoefekkdjcflmaaGreatDoor.Et
open Go.RowKit Go.Sort Go.Proofs.YtoefekkdjcflmaaGreatDoor.Qm
def rwF (xs : List Int) (k : Nat) : Value := .int .i64 (ge xs k)
theorem Wk.sees {w : World} {b n : Nat} {xs : List Int} (h : Wk n w b (rwF xs)) (hn : xs.length = n) (cap : Nat) (hcp : n ≤ cap) : Sees w (.slice (some ⟨b, 0, none⟩) xs.length cap) xs := by
  refine ⟨_, ⟨cap, by omega⟩, rfl, fun k hk => ⟨_, rfl, h.lt, ?_⟩⟩
  have hc := h.cell (k := k) (by omega) rfl
  have e : (⟨b, 0, none⟩ : Addr).add k = ⟨b, k, none⟩ := by
    unfold Addr.add
    split
    · rename_i e0; subst e0; rfl
    · simp
  rw [e]; exact hc
set_option maxRecDepth 20000 in
set_option maxHeartbeats 400000 in
theorem clone_row (v : Value) (xs : List Int) (hn : xs.length = 3) (w : World) (hs : Sees w v xs) :
    Calls Tryz.prog 85 #[v] w fun e b => ∃ g cap, e = .returned (.slice (some ⟨g, 0, none⟩) 3 cap) ∧ Wk 3 b g (rwF xs) ∧ w.heap.size ≤ g ∧ 3 ≤ cap ∧ Below w.heap.size w b := by
  obtain ⟨ao, cap, rfl, hcs⟩ := id hs
  obtain ⟨ad, rfl, _⟩ := hcs 0 (by omega)
  clear hcs
  obtain ⟨i0, hi, hz0, hz1, hz2⟩ := info_parts Tryz.info33
  have hv := fun o => sees_vals (hs.alloc o) rfl
  have HE : Hid (∀ (b : World) (v : Value), b.ownsRow w.heap.size 22 1 v xs.length (xs.map (Value.int .i64)) → ∃ g cap, v = .slice (some ⟨g, 0, none⟩) 3 cap ∧ Wk 3 b g (rwF xs) ∧ w.heap.size ≤ g ∧ 3 ≤ cap) := fun b v h => by
    have hc := fun g hg => h.cells (g := g) hg
    rcases h.2 with ⟨rfl, h0⟩ | ⟨g, cap, cur, rfl, hb, hg, h3, h4, h5, h6⟩
    · omega
    · refine ⟨g, cap, by rw [hn], ⟨cur, _, hg, by omega, fun k hk => ?_⟩, hb, by omega⟩
      have h7 := hc g rfl k (.int .i64 (ge xs k)) (by rw [List.getElem?_map]; unfold ge; rw [List.getD_eq_getElem?_getD, List.getElem?_eq_getElem (by omega)]; rfl)
      have e : (⟨g, 0, none⟩ : Addr).add k = ⟨g, k, none⟩ := by
        unfold Addr.add
        split
        · rename_i e0; subst e0; rfl
        · simp
      rw [e] at h7
      unfold rwF
      simpa [World.cell?, hg] using h7
  have hl : (xs.map (Value.int .i64)).length = xs.length := by simp
  have ho := vals_one xs
  have h100 : xs.length ≤ 100 := by omega
  generalize xs.map (Value.int .i64) = vals at hv hl HE ho
  obtain ⟨n, hn'⟩ : ∃ n, xs.length = n := ⟨_, rfl⟩
  rw [hn'] at hl hs HE h100 ⊢
  clear hn' hn
  have HL : Hid (vals.length = n * 1) := by rw [Nat.mul_one]; exact hl
  have hnil := fun v => run_nil22 (some ad) n cap v
  have h0 : (w.alloc (.cells #[] 22)).ownsRow w.heap.size 22 1 (.slice (some ⟨w.heap.size, 0, none⟩) 0 0) 0 [] := ⟨rfl, .inr ⟨_, 0, #[], rfl, Nat.le_refl _, heap_new _ _, Nat.le_refl _, Nat.zero_le _, rfl, rfl⟩⟩
  clear hl
  go_enter Tryz.func85, Tryz.ntmps85
  go_wp2_with (at_builtin; go_must (refine wpList_append_own _ rfl _ _ 27 rfl w.heap.size 22 i0 (.int .i64 0) 1 8 Tryz.under22 hi hz0 hz1 hz2 rfl (by decide) _ _ _ rfl h0 ad n cap vals rfl HL.out (hv _) ho (by unfold maxLen; omega) (by omega) (by simp) ?_); intro v2 w2 hown2 hg2 hnil2)
  have b2 : Below w.heap.size w w2 := (box_below w _).trans (((Below.refl _ _)).grown hg2 (by simp) (fun m e => by cases e; exact Nat.le_refl _))
  obtain ⟨g, cap', h3, h4, h5, h6⟩ := HE.out w2 v2 (by simpa using hown2)
  clear hown2 hg2 hnil2
  subst h3
  go_wp2
  go_ret
  exact ⟨g, cap', rfl, h4, h5, h6, b2⟩
def StB (B : Nat) (w : World) (W : Nat) (s : Sg) : Prop := ∃ f, Stf w W s f ∧ SlB B f
theorem St.toB {w : World} {W : Nat} {s : Sg} (h : St w W s) : StB w.heap.size w W s := let ⟨f, hf⟩ := h; ⟨f, hf, hf.lts⟩
theorem StB.st {B : Nat} {w : World} {W : Nat} {s : Sg} (h : StB B w W s) : St w W s := let ⟨f, hf, _⟩ := h; ⟨f, hf⟩
theorem StB.below {B : Nat} {w w' : World} {W : Nat} {s : Sg} (h : StB B w W s) (hb : Below w.heap.size w w') : StB B w' W s := let ⟨f, hf, hl⟩ := h; ⟨f, hf.below hb, hl⟩
theorem StB.newer {B : Nat} {w w' : World} {W : Nat} {s : Sg} (h : StB B w W s) (hW : W < B) (hm : Mod (fun q => B ≤ q) w w') : StB B w' W s := let ⟨f, hf, hl⟩ := h; ⟨f, hf.newer hl hW hm, hl⟩
theorem keep_B (B W : Nat) (b : Bool) (s : Sg) (w : World) (h : StB B w W s) :
    Calls Tryz.prog 61 #[.pointer (some ⟨W, 0, none⟩), .bool b] w fun e w' => e = .returned (.tuple #[]) ∧ StB B w' W { s with sat := s.sat || b } ∧ Mod (fun b => b = W) w w' := by
  obtain ⟨f, hf, hl⟩ := h
  refine (keep_f W b s f w hf).mono ?_
  rintro e w' ⟨rfl, h1, h2⟩
  exact ⟨rfl, ⟨_, h1, hl.up (by omega) _⟩, h2⟩
set_option maxHeartbeats 1000000 in
theorem inStep_B (B W : Nat) (n : Int) (s : Sg) (w : World) (h : StB B w W s) :
    Calls Tryz.prog 109 #[.pointer (some ⟨W, 0, none⟩), .int .i64 n] w fun e w' => e = .returned (.int .i64 (mul n (s.c 0))) ∧ StB B w' W { s with sat := s.sat || mulB n (s.c 0) } ∧ Mod (fun b => b = W) w w' := by
  have h0 := h
  obtain ⟨f, hf, _⟩ := h
  have c0 := hf.wk.cell (k := 0) (by decide) (hf.c 0 (by decide))
  clear hf
  have hM := mul_any n (s.c 0) w
  obtain ⟨z, hz⟩ : ∃ z, mul n (s.c 0) = z := ⟨_, rfl⟩
  obtain ⟨m, hm⟩ : ∃ m, mulB n (s.c 0) = m := ⟨_, rfl⟩
  rw [hz, hm] at hM ⊢
  obtain ⟨d, hd⟩ : ∃ d, s.c 0 = d := ⟨_, rfl⟩
  rw [hd] at hM c0
  clear hz hm hd
  go_enter Tryz.func109, Tryz.ntmps109
  go_wp2_with (first
    | (have _ := b1; go_at_call 61; go_must (refine (keep_B B W m s _ (h0.below b1)).mono ?_); rintro e w2 ⟨rfl, s2, m2⟩)
    | (go_at_call 99; go_must (refine hM.mono ?_); rintro e w1 ⟨rfl, b1⟩))
  go_ret
  exact ⟨rfl, s2, (Mod.of b1).trans m2⟩
theorem Mod.over {M : Nat → Prop} {w a b : World} {D : Nat} (h : Mod M w a) (k : Mod (fun q => q = D) a b) (hD : w.heap.size ≤ D) : Mod M w b :=
  ⟨k.os.trans h.os, k.tape.trans h.tape, k.output.trans h.output, Nat.le_trans h.size k.size, fun i hi hn => (k.block i (Nat.lt_of_lt_of_le hi h.size) (by omega)).trans (h.block i hi hn)⟩
def qsL (s : Sg) : List Int := dia (ge [0, mul (s.c 1) (s.c 0), mul (s.c 2) (s.c 0)]) 3
theorem qs_out (s : Sg) : outB [0, mul (s.c 1) (s.c 0), mul (s.c 2) (s.c 0)] 3 = false := by
  have h1 := cl_bd (mulv (s.c 1) (s.c 0))
  have h2 := cl_bd (mulv (s.c 2) (s.c 0))
  unfold mul
  generalize cl (mulv (s.c 1) (s.c 0)) = x at h1 ⊢
  generalize cl (mulv (s.c 2) (s.c 0)) = y at h2 ⊢
  simp [outB, ge, anyB, ob]
  omega
set_option maxRecDepth 20000 in
set_option maxHeartbeats 2000000 in
theorem noise_any (W : Nat) (s : Sg) (w : World) (h : St w W s) :
    Calls Tryz.prog 66 #[.pointer (some ⟨W, 0, none⟩)] w fun e b => ∃ v, e = .returned (.agg #[.int .i64 3, .int .i64 3, v]) ∧ Sees b v (qsL s) ∧ (∀ q, v.ownBlock = some q → q ≠ W) ∧
      St b W { s with sat := s.sat || mulB (s.c 1) (s.c 0) || mulB (s.c 2) (s.c 0) } ∧ Mod (fun b => b = W) w b := by
  have hlW := h.lt
  have hb0 := box_below w (.cells #[.int .i64 0, .int .i64 0, .slice none 0 0] 29)
  have hn0 := heap_new w (.cells #[.int .i64 0, .int .i64 0, .slice none 0 0] 29)
  have h1 := h.toB.below hb0
  go_enter Tryz.func66, Tryz.ntmps66
  go_wp2
  obtain ⟨w0, hw0⟩ : ∃ w0, w.alloc (.cells #[.int .i64 0, .int .i64 0, .slice none 0 0] 29) = w0 := ⟨_, rfl⟩
  rw [hw0] at hb0 hn0 h1 ⊢
  have hW0 : W < w0.heap.size := h1.st.lt
  clear hw0
  refine no1_region (W := W) (acc := s.c 1) (bias := s.c 2) (z1 := mul (s.c 1) (s.c 0)) (z2 := mul (s.c 2) (s.c 0)) (qs := qsL s)
    (J := fun b b' v => StB w.heap.size v W { s with sat := s.sat || (b && mulB (s.c 1) (s.c 0)) || (b' && mulB (s.c 2) (s.c 0)) }) (fun k hk => by rw [hk]; exact hW0) (by simp only [Bool.false_and, Bool.or_false]; exact h1.below (Below.refl _ _).drew)
    (fun b b' v v' hv hm => hv.newer hlW (hm.mono fun q _ hq => Nat.le_trans hb0.size hq)) (fun b b' v hv => by obtain ⟨f, hf, _⟩ := hv; exact hf.wk.cell (by decide) (hf.c 1 (by decide))) (fun b b' v hv => by obtain ⟨f, hf, _⟩ := hv; exact hf.wk.cell (by decide) (hf.c 2 (by decide)))
    (fun v hv => (inStep_B _ W (s.c 1) _ v hv).mono (by rintro e b ⟨rfl, g1, g2⟩; refine ⟨rfl, ?_, g2⟩; simp only [Bool.false_and, Bool.or_false, Bool.true_and] at g1 ⊢; exact g1))
    (fun v hv => (inStep_B _ W (s.c 2) _ v hv).mono (by rintro e b ⟨rfl, g1, g2⟩; refine ⟨rfl, ?_, g2⟩; simp only [Bool.false_and, Bool.or_false, Bool.true_and] at g1 ⊢; exact g1))
    (fun v u hu => diag_any u _ (by simp) (by simp) (qs_out s) v hu) (by unfold qsL; rw [dia_len]; decide) ?_
  intro vs D ao ac wa ma hJ eD hBD hbD sD nD
  unfold no1Fr
  rw [eD]
  clear eD
  simp only [Bool.true_and] at hJ
  have hR := (ma.block w.heap.size (lt_of_block hn0) (by omega)).trans hn0
  obtain ⟨d0, d1, d2, _⟩ := mat_cells hbD
  obtain ⟨x0, x1, x2, y0, y1, y2⟩ := mat_cells hR
  have hsz := ma.size
  have hRl : w.heap.size < w0.heap.size := lt_of_block hn0
  have hlD := sD.lt (by unfold qsL; rw [dia_len]; decide)
  have hne : ∀ k, (Value.slice ao (qsL s).length ac).ownBlock = some k → k ≠ w.heap.size := fun k hk => by have := nD k hk; omega
  have hneW : ∀ k, (Value.slice ao (qsL s).length ac).ownBlock = some k → k ≠ W := fun k hk => by have := nD k hk; omega
  go_wp2
  refine bodyPost_ret (v := .agg #[.int .i64 3, .int .i64 3, .slice ao (qsL s).length ac]) (by simp [results, Tryz.results66, go_sem, x0, x1, x2]) rfl ?_
  exact ⟨_, rfl, seesMat sD hne _ _ _, hneW, (hJ.newer hlW ((modMat _ _ _).mono fun q _ hq => by omega)).st, Mod.over ((Mod.of hb0).trans ma) (modMat _ _ _) (Nat.le_refl _)⟩
def spX (xs : List Int) (a d : Int) : List Int := [ge xs 0, add (ge xs 1) (mul a d), ge xs 2]
def spB (xs : List Int) (a d : Int) : Bool := addB (ge xs 1) (mul a d)
theorem ge_spX (xs : List Int) (a d : Int) (k : Nat) (hk : k < 3) : rwF (spX xs a d) k = up (rwF xs) 1 (.int .i64 (add (ge xs 1) (mul a d))) k := by
  rcases (by omega : k = 0 ∨ k = 1 ∨ k = 2) with rfl | rfl | rfl <;> rfl
theorem Wk.congr {n : Nat} {w : World} {W : Nat} {f g : Nat → Value} (h : Wk n w W f) (e : ∀ k, k < n → g k = f k) : Wk n w W g := by
  obtain ⟨cs, t, h1, h2, h3⟩ := h
  exact ⟨cs, t, h1, h2, fun k hk => by rw [e k hk]; exact h3 k hk⟩
theorem six_free {w : World} {b : Nat} {x y z u v t : Value} {T : TypeId} (h : w.heap[b]? = some (.cells #[x, y, z, u, v, t] T (0, 0))) (k : Nat) : w.frozen? ⟨b, k, none⟩ = false := by
  simp [World.frozen?, h]
theorem set_at2 {w : World} {b : Nat} {x y z u v t : Value} {T : TypeId} (h : w.heap[b]? = some (.cells #[x, y, z, u, v, t] T (0, 0))) (z' : Value) : (w.setCell ⟨b, 2, none⟩ z').heap[b]? = some (.cells #[x, y, z', u, v, t] T (0, 0)) := by
  rw [heap_setCell_same w b 2 _ T z' h]; rfl
set_option maxRecDepth 20000 in
set_option maxHeartbeats 4000000 in
theorem spedUp_any (B W : Nat) (s : Sg) (vx vp : Value) (xs : List Int) (a : Int) (w : World) (h : StB B w W s) (hB : B ≤ w.heap.size) (hWB : W < B) (sx : Sees w vx xs) (xl : xs.length = 3) (hvp : ∃ ao n c, vp = .slice ao n c) :
    Calls Tryz.prog 68 #[.pointer (some ⟨W, 0, none⟩), .agg #[.int .i64 3, .int .i64 1, vx, .int .i64 3, .int .i64 3, vp], .int .i64 a] w fun e b =>
      ∃ g cap, e = .returned (.agg #[.int .i64 3, .int .i64 1, .slice (some ⟨g, 0, none⟩) 3 cap, .int .i64 3, .int .i64 3, vp]) ∧ Sees b (.slice (some ⟨g, 0, none⟩) 3 cap) (spX xs a (s.c 0)) ∧ w.heap.size ≤ g ∧
        StB B b W { s with sat := s.sat || mulB a (s.c 0) || spB xs a (s.c 0) } ∧ Mod (fun b => b = W) w b := by
  obtain ⟨ao, n, c, rfl⟩ := hvp
  obtain ⟨xo, xc, rfl⟩ := sx.slice
  rw [xl] at sx ⊢
  obtain ⟨g1, g2⟩ := allocs2 w (.cells #[.int .i64 3, .int .i64 1, .slice xo 3 xc, .int .i64 3, .int .i64 3, .slice ao n c] 31) (.cells #[.int .i64 0, .int .i64 0, .slice none 0 0, .int .i64 0, .int .i64 0, .slice none 0 0] 31)
  have bW := ball2 w (.cells #[.int .i64 3, .int .i64 1, .slice xo 3 xc, .int .i64 3, .int .i64 3, .slice ao n c] 31) (.cells #[.int .i64 0, .int .i64 0, .slice none 0 0, .int .i64 0, .int .i64 0, .slice none 0 0] 31)
  have kC := clone_row _ xs xl _ (sx.below bW)
  obtain ⟨V, hV⟩ : ∃ V, (w.alloc (.cells #[.int .i64 3, .int .i64 1, .slice xo 3 xc, .int .i64 3, .int .i64 3, .slice ao n c] 31)).alloc (.cells #[.int .i64 0, .int .i64 0, .slice none 0 0, .int .i64 0, .int .i64 0, .slice none 0 0] 31) = V := ⟨_, rfl⟩
  have HV : Hid (_ = V) := hV
  rw [hV] at g1 g2 bW kC
  have hVs : w.heap.size + 2 ≤ V.heap.size := by rw [← hV]; simp
  rw [← hV] at kC
  clear hV sx
  go_enter Tryz.func68, Tryz.ntmps68
  go_wp2_with (go_at_call 85; go_must (refine kC.mono ?_); rintro e w1 ⟨g, cap, rfl, hg, hgn, hcp, b1⟩; have HCP : Hid (3 ≤ cap) := hcp; clear hcp; rw [HV.out] at hgn b1; have k1 := keep b1 g1; have k2 := keep b1 g2; obtain ⟨c0, c1, c2, c3, c4, c5⟩ := six_cells k1; have z2 := six_free k1 2)
  have b01 : Below w.heap.size w w1 := bt bW b1
  have k1' := set_at2 k1 (.slice (some ⟨g, 0, none⟩) 3 cap)
  have hs1 : Mod (fun q => q = w.heap.size) w1 (w1.setCell ⟨w.heap.size, 2, none⟩ (.slice (some ⟨g, 0, none⟩) 3 cap)) := mod_set
  have k2' := (hs1.block (w.heap.size + 1) (lt_of_block k2) (by omega)).trans k2
  have hg' := hg.mod hs1 (by omega)
  have h1 := (h.below b01).newer hWB (hs1.mono fun q _ hq => by omega)
  have m1 : Mod (fun b => b = W) w (w1.setCell ⟨w.heap.size, 2, none⟩ (.slice (some ⟨g, 0, none⟩) 3 cap)) := Mod.over (Mod.of b01) hs1 (Nat.le_refl _)
  have hz1 : w1.heap.size ≤ (w1.setCell ⟨w.heap.size, 2, none⟩ (.slice (some ⟨g, 0, none⟩) 3 cap)).heap.size := hs1.size
  have hb1s := b1.size
  generalize w1.setCell ⟨w.heap.size, 2, none⟩ (.slice (some ⟨g, 0, none⟩) 3 cap) = w2 at k1' k2' hg' h1 m1 hz1 ⊢
  clear hg k1 k2 c0 c1 c2 c3 c4 c5 z2 hs1
  have hBw : B ≤ w2.heap.size := by omega
  refine sp2_region (W := W) (D4 := w.heap.size) (g := g) (cap := cap) (x := a) (y := ge xs 1) (z := mul a (s.c 0)) (u := add (ge xs 1) (mul a (s.c 0))) (m := spB xs a (s.c 0))
    (J := fun b v => StB B v W { s with sat := s.sat || (b && mulB a (s.c 0)) }) (fun k hk => by rw [hk]; omega) (by simp only [Bool.false_and, Bool.or_false]; exact h1.below (Below.refl _ _).drew) (fun b v v' hv hm => hv.newer hWB (hm.mono fun q _ hq => by omega))
    (fun v hv => (six_cells ((hv.block _ (lt_of_block k1') (by omega)).trans k1')).2.2.1) (fun v hv => (hg'.mod hv (by omega)).cell (by decide) rfl)
    (fun v hv => (inStep_B _ W a _ v hv).mono (by rintro e b ⟨rfl, q1, q2⟩; refine ⟨rfl, ?_, q2⟩; simp only [Bool.false_and, Bool.or_false, Bool.true_and] at q1 ⊢; exact q1))
    (fun v => (add_any _ _ v).mono (by rintro e b ⟨rfl, rfl⟩; exact ⟨rfl, Below.refl _ _⟩)) ?_
  intro vs w3 m3 hJ e7 e8
  unfold sp2Fr
  rw [e7, e8]
  clear e7 e8
  simp only [Bool.true_and] at hJ
  have k31 := (m3.block _ (lt_of_block k1') (by omega)).trans k1'
  have k32 := (m3.block _ (lt_of_block k2') (by omega)).trans k2'
  have hg3 := hg'.mod m3 (by omega)
  go_wp2_with (go_at_call 61; go_must (refine (keep_B B W (spB xs a (s.c 0)) _ _ hJ).mono ?_); rintro e w4 ⟨rfl, h4, m4⟩; have k41 := (m4.block _ (lt_of_block k31) (by omega)).trans k31; have k42 := (m4.block _ (lt_of_block k32) (by omega)).trans k32; have hg4 := hg3.mod m4 (by omega); obtain ⟨c0, c1, c2, c3, c4, c5⟩ := six_cells k41; obtain ⟨e0, e1, e2, e3, e4, e5⟩ := six_cells k42; have q0 := six_free k42 0; have q1 := six_free k42 1; have q2 := six_free k42 2; have q3 := six_free k42 3; have q4 := six_free k42 4; have q5 := six_free k42 5; have hgc := hg4.cell (k := 1) (by decide) rfl; have hgf := hg4.frozen 1)
  have hg1 : g ≠ w.heap.size + 1 := by omega
  have hg2 : w.heap.size + 1 ≠ g := by omega
  have m5 : Mod (fun q => q = g) w4 (w4.setCell ⟨g, 1, none⟩ (.int .i64 (add (ge xs 1) (mul a (s.c 0))))) := mod_set
  have hg5 := (hg4.set 1 (.int .i64 (add (ge xs 1) (mul a (s.c 0))))).congr (ge_spX xs a (s.c 0))
  have h5 := h4.newer hWB (m5.mono fun q _ hq => by omega)
  have k52 := (m5.block _ (lt_of_block k42) (by omega)).trans k42
  obtain ⟨e0', e1', e2', e3', e4', e5'⟩ := six_cells k52
  have m05 : Mod (fun b => b = W) w (w4.setCell ⟨g, 1, none⟩ (.int .i64 (add (ge xs 1) (mul a (s.c 0))))) := Mod.over ((m1.trans m3).trans m4) m5 (by omega)
  generalize w4.setCell ⟨g, 1, none⟩ (.int .i64 (add (ge xs 1) (mul a (s.c 0)))) = w5 at hg5 h5 k52 e0' e1' e2' e3' e4' e5' m05 ⊢
  refine bodyPost_ret (v := .agg #[.int .i64 3, .int .i64 1, .slice (some ⟨g, 0, none⟩) 3 cap, .int .i64 3, .int .i64 3, .slice ao n c]) (by simp [results, Tryz.results68, go_sem, e0', e1', e2', e3', e4', e5']) rfl ?_
  refine ⟨g, cap, rfl, (hg5.sees rfl cap HCP.out).six (fun k hk => ?_) _ _ _ _ _ _, by omega, h5.newer hWB ((mod_six _ _ _ _ _ _).mono fun q _ hq => by omega), Mod.over m05 (mod_six _ _ _ _ _ _) (by omega)⟩
  rw [← Option.some.inj hk]; exact hg1
set_option linter.unusedVariables false
theorem op_ixVec {a : Act} {w : World} {K : Act → World → Prop} {Q : Exit → Act → World → Prop} {o : Oper} {s t b i : Nat} (hi : i < 3) (hop : o.op = Op.indexAddr 37 (Operand.tmp s) (Operand.tmp t)) (he : a.tmps[s]?.getD undef = .pointer (some ⟨b, 48, none⟩)) (ht : a.tmps[t]?.getD undef = .int .i64 (i : Nat)) (hk : K (a.put o.dst (.pointer (some ⟨b, 48 + i, none⟩))) w) : o.wp Tryz.prog a w K Q := by
  rcases (by omega : i = 0 ∨ i = 1 ∨ i = 2) with rfl | rfl | rfl
  all_goals
    unfold Oper.wp
    simp [execOp, hop, go_sem, he, ht]
    exact hk
theorem op_ixAx {a : Act} {w : World} {K : Act → World → Prop} {Q : Exit → Act → World → Prop} {o : Oper} {s t b i : Nat} (hi : i < 3) (hop : o.op = Op.indexAddr 32 (Operand.tmp s) (Operand.tmp t)) (he : a.tmps[s]?.getD undef = .pointer (some ⟨b, 23, none⟩)) (ht : a.tmps[t]?.getD undef = .int .i64 (i : Nat)) (hk : K (a.put o.dst (.pointer (some ⟨b, 23 + 6 * i, none⟩))) w) : o.wp Tryz.prog a w K Q := by
  rcases (by omega : i = 0 ∨ i = 1 ∨ i = 2) with rfl | rfl | rfl
  all_goals
    unfold Oper.wp
    simp [execOp, hop, go_sem, he, ht]
    exact hk
theorem op_ixOff {a : Act} {w : World} {K : Act → World → Prop} {Q : Exit → Act → World → Prop} {o : Oper} {s t b i : Nat} (hi : i < 4) (hop : o.op = Op.indexAddr 33 (Operand.tmp s) (Operand.tmp t)) (he : a.tmps[s]?.getD undef = .pointer (some ⟨b, 43, none⟩)) (ht : a.tmps[t]?.getD undef = .int .i64 (i : Nat)) (hk : K (a.put o.dst (.pointer (some ⟨b, 43 + i, none⟩))) w) : o.wp Tryz.prog a w K Q := by
  rcases (by omega : i = 0 ∨ i = 1 ∨ i = 2 ∨ i = 3) with rfl | rfl | rfl | rfl
  all_goals
    unfold Oper.wp
    simp [execOp, hop, go_sem, he, ht]
    exact hk
set_option linter.unusedVariables false
theorem enters_sped : ∀ (args : Array Value) (a : World), Sem.run Tryz.prog (callFunc 68 args) a = Result.ok (Next.enter 68 args) a := by
  intro args a; simp [callFunc, Tryz.func68, go_sem]; rfl
def pr6Ops : Array Oper := #[
 ⟨some 33, .move (.tmp 0), 96, "est.go:134", #[], none⟩,
 ⟨some 34, .move (.tmp 4), 3, "est.go:134", #[], none⟩,
 ⟨some 35, .move (.tmp 0), 96, "est.go:134", #[], none⟩,
 ⟨some 36, .load 31 (.tmp 6), 31, "est.go:134", #[], none⟩,
 ⟨some 37, .move (.tmp 0), 96, "est.go:134", #[], none⟩,
 ⟨some 38, .move (.tmp 4), 3, "est.go:134", #[], none⟩,
 ⟨some 39, .nilCheck (.tmp 37), 0, "est.go:134", #[eD 4], none⟩,
 ⟨some 40, .fieldAddr 66 (.tmp 39) 3, 0, "est.go:134", #[eD 6], none⟩,
 ⟨some 41, .indexAddr 37 (.tmp 40) (.tmp 38), 0, "est.go:134", #[eD 7, eD 5], none⟩,
 ⟨some 42, .load 22 (.tmp 41), 22, "est.go:134", #[eD 8], none⟩,
 ⟨some 43, .call ⟨.value (.func 68), #[.tmp 35, .tmp 36, .tmp 42], #[96, 31, 22]⟩, 31, "est.go:134", #[eD 2, eD 3, eD 9], none⟩,
 ⟨some 44, .nilCheck (.tmp 33), 0, "est.go:134", #[eD 0], none⟩,
 ⟨some 45, .fieldAddr 66 (.tmp 44) 2, 0, "est.go:134", #[eD 11], none⟩,
 ⟨some 46, .fieldAddr 35 (.tmp 45) 1, 0, "est.go:134", #[eD 12], none⟩,
 ⟨some 47, .indexAddr 32 (.tmp 46) (.tmp 34), 0, "est.go:134", #[eD 13, eD 1, eP 0, eP 1, eP 2, eP 3, eP 4, eP 5, eP 6, eP 7, eP 8, eP 9, eP 10], none⟩,
 ⟨none, .store 31 (.tmp 47) (.tmp 43), 0, "est.go:134", #[eD 14, eD 10, eC 10, eP 0, eP 1, eP 2, eP 3, eP 4, eP 5, eP 6, eP 7, eP 8, eP 9, eP 10], none⟩]
def pr6Dst (i : Nat) : Nat := [33, 34, 35, 36, 37, 38, 39, 40, 41, 42, 43, 44, 45, 46, 47, 1015].getD i 0
def pr6Fr (W : Nat) (D6 : Nat) (i : Nat) (u1 u2 u3 u5 u7 u8 u9 u10 u11 u12 u13 u14 u15 u16 u17 u18 u19 u20 u21 u22 u23 u24 u25 u26 u27 u28 u29 u30 u31 u32 u48 : Value) (vs : Nat → Value) : Act := ⟨#[.pointer (some ⟨W, 0, none⟩), u1, u2, u3, .int .i64 (i : Nat), u5, .pointer (some ⟨D6, 0, none⟩), u7, u8, u9, u10, u11, u12, u13, u14, u15, u16, u17, u18, u19, u20, u21, u22, u23, u24, u25, u26, u27, u28, u29, u30, u31, u32, vs 33, vs 34, vs 35, vs 36, vs 37, vs 38, vs 39, vs 40, vs 41, vs 42, vs 43, vs 44, vs 45, vs 46, vs 47, u48], []⟩
def pr6T (W : Nat) (i : Nat) (vx : Value) (po : Option Addr) (pn : Nat) (pc : Nat) (x : Int) (ys : List Int) : Nat → Value → Value → (Nat → Prop) → World → Prop
  | 0, v, _, _, _ => v = .pointer (some ⟨W, 0, none⟩)
  | 1, v, _, _, _ => v = .int .i64 (i : Nat)
  | 2, v, _, _, _ => v = .pointer (some ⟨W, 0, none⟩)
  | 3, v, _, _, _ => v = .agg #[.int .i64 3, .int .i64 1, vx, .int .i64 3, .int .i64 3, .slice po pn pc]
  | 4, v, _, _, _ => v = .pointer (some ⟨W, 0, none⟩)
  | 5, v, _, _, _ => v = .int .i64 (i : Nat)
  | 6, v, _, _, _ => v = .pointer (some ⟨W, 0, none⟩)
  | 7, v, _, _, _ => v = .pointer (some ⟨W, 48, none⟩)
  | 8, v, _, _, _ => v = .pointer (some ⟨W, 48 + i, none⟩)
  | 9, v, _, _, _ => v = .int .i64 x
  | 10, v, _, S, w => TV1 0 W (fun s => .agg #[.int .i64 3, .int .i64 1, s, .int .i64 3, .int .i64 3, .slice po pn pc]) ys v S w
  | 11, v, _, _, _ => v = .pointer (some ⟨W, 0, none⟩)
  | 12, v, _, _, _ => v = .pointer (some ⟨W, 19, none⟩)
  | 13, v, _, _, _ => v = .pointer (some ⟨W, 23, none⟩)
  | 14, v, _, _, _ => v = .pointer (some ⟨W, 23 + 6 * i, none⟩)
  | 15, _, _, _, _ => True
  | _, _, _, _, _ => True
set_option maxRecDepth 40000 in
set_option maxHeartbeats 1600000 in
theorem pr6_region {Q : Exit → Act → World → Prop} {w0 : World} {W : Nat} {D6 : Nat} {i : Nat} {vx : Value} {po : Option Addr} {pn : Nat} {pc : Nat} {x : Int} {ys : List Int} {J : Bool → Bool → World → Prop} {u1 u2 u3 u5 u7 u8 u9 u10 u11 u12 u13 u14 u15 u16 u17 u18 u19 u20 u21 u22 u23 u24 u25 u26 u27 u28 u29 u30 u31 u32 u48 u33 u34 u35 u36 u37 u38 u39 u40 u41 u42 u43 u44 u45 u46 u47 : Value}
    (hsh : ∀ k, k = W → k < w0.heap.size) (hJ0 : J false false w0.drew) (hi3 : i < 3)
    (hD : ∀ w, Mod (fun k => k = W) w0 w → w.cell? ⟨D6, 0, none⟩ = some (.int .i64 3) ∧ w.cell? ⟨D6, 0 + 1, none⟩ = some (.int .i64 1) ∧ w.cell? ⟨D6, 0 + 2, none⟩ = some vx ∧ w.cell? ⟨D6, 0 + 3, none⟩ = some (.int .i64 3) ∧ w.cell? ⟨D6, 0 + 4, none⟩ = some (.int .i64 3) ∧ w.cell? ⟨D6, 0 + 5, none⟩ = some (.slice po pn pc))
    (la : ∀ b b' w, J b b' w → w.cell? ⟨W, 48 + i, none⟩ = some (.int .i64 x))
    (hc : ∀ w, J false false w → Mod (fun k => k = W) w0 w → Calls Tryz.prog 68 #[.pointer (some ⟨W, 0, none⟩), .agg #[.int .i64 3, .int .i64 1, vx, .int .i64 3, .int .i64 3, .slice po pn pc], .int .i64 x] w fun e b => ∃ v, e = .returned (.agg #[.int .i64 3, .int .i64 1, v, .int .i64 3, .int .i64 3, .slice po pn pc]) ∧ Sees b v ys ∧ New w.heap.size v ∧ J true false b ∧ Mod (fun b => b = W) w b) (z_ys : 0 < ys.length)
    (hst : ∀ w v, J true false w → Mod (fun k => k = W) w0 w → Sees w v ys → (∀ q, v.ownBlock = some q → W < q) → (∃ x0 x1 x2 x3 x4 x5, w.cell? ⟨W, 23 + 6 * i, none⟩ = some x0 ∧ w.cell? ⟨W, 23 + 6 * i + 1, none⟩ = some x1 ∧ w.cell? ⟨W, 23 + 6 * i + 2, none⟩ = some x2 ∧ w.cell? ⟨W, 23 + 6 * i + 3, none⟩ = some x3 ∧ w.cell? ⟨W, 23 + 6 * i + 4, none⟩ = some x4 ∧ w.cell? ⟨W, 23 + 6 * i + 5, none⟩ = some x5) ∧ (∀ k, w.frozen? ⟨W, k, none⟩ = false) ∧ J true true ((((((w.setCell ⟨W, 23 + 6 * i, none⟩ (.int .i64 3)).setCell ⟨W, 23 + 6 * i + 1, none⟩ (.int .i64 1)).setCell ⟨W, 23 + 6 * i + 2, none⟩ v).setCell ⟨W, 23 + 6 * i + 3, none⟩ (.int .i64 3)).setCell ⟨W, 23 + 6 * i + 4, none⟩ (.int .i64 3)).setCell ⟨W, 23 + 6 * i + 5, none⟩ (.slice po pn pc)))
    (hQ : ∀ vs  w, Mod (fun k => k = W) w0 w → J true true w → Q .normal (pr6Fr W D6 i u1 u2 u3 u5 u7 u8 u9 u10 u11 u12 u13 u14 u15 u16 u17 u18 u19 u20 u21 u22 u23 u24 u25 u26 u27 u28 u29 u30 u31 u32 u48 vs) w) :
    (Code.region 6 pr6Ops true).wp Tryz.prog Q (pr6Fr W D6 i u1 u2 u3 u5 u7 u8 u9 u10 u11 u12 u13 u14 u15 u16 u17 u18 u19 u20 u21 u22 u23 u24 u25 u26 u27 u28 u29 u30 u31 u32 u48 (fun k => if k = 33 then u33 else if k = 34 then u34 else if k = 35 then u35 else if k = 36 then u36 else if k = 37 then u37 else if k = 38 then u38 else if k = 39 then u39 else if k = 40 then u40 else if k = 41 then u41 else if k = 42 then u42 else if k = 43 then u43 else if k = 44 then u44 else if k = 45 then u45 else if k = 46 then u46 else if k = 47 then u47 else undef)) w0 := by
  refine wp_region_sh (by kernel_rfl) (by decide) pr6Dst (by decide) (pr6Fr W D6 i u1 u2 u3 u5 u7 u8 u9 u10 u11 u12 u13 u14 u15 u16 u17 u18 u19 u20 u21 u22 u23 u24 u25 u26 u27 u28 u29 u30 u31 u32 u48) (fun k => if k = 33 then u33 else if k = 34 then u34 else if k = 35 then u35 else if k = 36 then u36 else if k = 37 then u37 else if k = 38 then u38 else if k = 39 then u39 else if k = 40 then u40 else if k = 41 then u41 else if k = 42 then u42 else if k = 43 then u43 else if k = 44 then u44 else if k = 45 then u45 else if k = 46 then u46 else if k = 47 then u47 else undef) (fun i => i) (by decide) (fun k => k = W) hsh (fun L w => J (L 10) (L 15) w) hJ0
    (fun _ _ => False) (fun s j h => h.elim) (fun s s2 j h => h.elim) (pr6T W i vx po pn pc x ys) ?_ ?_ ?_
  · intro i v u S w w' hi h hw hw' hz hS
    have hi' : i < 16 := hi
    rcases (by omega : i = 0 ∨ i = 1 ∨ i = 2 ∨ i = 3 ∨ i = 4 ∨ i = 5 ∨ i = 6 ∨ i = 7 ∨ i = 8 ∨ i = 9 ∨ i = 10 ∨ i = 11 ∨ i = 12 ∨ i = 13 ∨ i = 14 ∨ i = 15) with rfl | rfl | rfl | rfl | rfl | rfl | rfl | rfl | rfl | rfl | rfl | rfl | rfl | rfl | rfl | rfl
    · exact h
    · exact h
    · exact h
    · exact h
    · exact h
    · exact h
    · exact h
    · exact h
    · exact h
    · exact h
    · exact TV1.stab (show TV1 0 W (fun s => .agg #[.int .i64 3, .int .i64 1, s, .int .i64 3, .int .i64 3, .slice po pn pc]) ys v S w from h) (agr_zero hz hS)
    · exact h
    · exact h
    · exact h
    · exact h
    · exact h
  · intro i hi L vs w S hb hI hL hpr hsu hp hbd hkl _
    have hi' : i < 16 := hi
    rcases (by omega : i = 0 ∨ i = 1 ∨ i = 2 ∨ i = 3 ∨ i = 4 ∨ i = 5 ∨ i = 6 ∨ i = 7 ∨ i = 8 ∨ i = 9 ∨ i = 10 ∨ i = 11 ∨ i = 12 ∨ i = 13 ∨ i = 14 ∨ i = 15) with rfl | rfl | rfl | rfl | rfl | rfl | rfl | rfl | rfl | rfl | rfl | rfl | rfl | rfl | rfl | rfl
    · exact wpOp_of _ rfl rfl (op_move rfl rfl ⟨_, fun _ => False, rfl, rfl, fun _ h => h.elim, fun h => h.elim fun _ h9 => h9.elim, Mod.refl _ _, hI⟩)
    · exact wpOp_of _ rfl rfl (op_move rfl rfl ⟨_, fun _ => False, rfl, rfl, fun _ h => h.elim, fun h => h.elim fun _ h9 => h9.elim, Mod.refl _ _, hI⟩)
    · exact wpOp_of _ rfl rfl (op_move rfl rfl ⟨_, fun _ => False, rfl, rfl, fun _ h => h.elim, fun h => h.elim fun _ h9 => h9.elim, Mod.refl _ _, hI⟩)
    · exact wpOp_of _ rfl rfl (op_ldTrack rfl rfl ((hD w hb).1) ((hD w hb).2.1) ((hD w hb).2.2.1) ((hD w hb).2.2.2.1) ((hD w hb).2.2.2.2.1) ((hD w hb).2.2.2.2.2) ⟨_, fun _ => False, rfl, rfl, fun _ h => h.elim, fun h => h.elim fun _ h9 => h9.elim, Mod.refl _ _, hI⟩)
    · exact wpOp_of _ rfl rfl (op_move rfl rfl ⟨_, fun _ => False, rfl, rfl, fun _ h => h.elim, fun h => h.elim fun _ h9 => h9.elim, Mod.refl _ _, hI⟩)
    · exact wpOp_of _ rfl rfl (op_move rfl rfl ⟨_, fun _ => False, rfl, rfl, fun _ h => h.elim, fun h => h.elim fun _ h9 => h9.elim, Mod.refl _ _, hI⟩)
    · have h4 : vs 37 = .pointer (some ⟨W, 0, none⟩) := hp 4 (by decide) (fun _ h9 => h9.elim)
      exact wpOp_of _ rfl rfl (op_nil rfl h4 ⟨_, fun _ => False, rfl, rfl, fun _ h => h.elim, fun h => h.elim fun _ h9 => h9.elim, Mod.refl _ _, hI⟩)
    · have h6 : vs 39 = .pointer (some ⟨W, 0, none⟩) := hp 6 (by decide) (fun _ h9 => h9.elim)
      exact wpOp_of _ rfl rfl (op_fwork3 rfl h6 ⟨_, fun _ => False, rfl, rfl, fun _ h => h.elim, fun h => h.elim fun _ h9 => h9.elim, Mod.refl _ _, hI⟩)
    · have h7 : vs 40 = .pointer (some ⟨W, 48, none⟩) := hp 7 (by decide) (fun _ h9 => h9.elim)
      have h5 : vs 38 = .int .i64 (i : Nat) := hp 5 (by decide) (fun _ h9 => h9.elim)
      exact wpOp_of _ rfl rfl (op_ixVec hi3 rfl h7 h5 ⟨_, fun _ => False, rfl, rfl, fun _ h => h.elim, fun h => h.elim fun _ h9 => h9.elim, Mod.refl _ _, hI⟩)
    · have h8 : vs 41 = .pointer (some ⟨W, 48 + i, none⟩) := hp 8 (by decide) (fun _ h9 => h9.elim)
      exact wpOp_of _ rfl rfl (op_ldQ rfl h8 (la _ _ w hI) ⟨_, fun _ => False, rfl, rfl, fun _ h => h.elim, fun h => h.elim fun _ h9 => h9.elim, Mod.refl _ _, hI⟩)
    · have h2 : vs 35 = .pointer (some ⟨W, 0, none⟩) := hp 2 (by decide) (fun _ h9 => h9.elim)
      have h3 : vs 36 = .agg #[.int .i64 3, .int .i64 1, vx, .int .i64 3, .int .i64 3, .slice po pn pc] := hp 3 (by decide) (fun _ h9 => h9.elim)
      have h9 : vs 42 = .int .i64 x := hp 9 (by decide) (fun _ h9 => h9.elim)
      have hJ : J false false w := by
        have h : J (L 10) (L 15) w := hI
        rw [hL, hsu 15 (by decide) (by decide)] at h; exact h
      exact wpOp_of _ rfl rfl (op_call_ttt enters_sped rfl h2 h3 h9 (hc w hJ hb) (by rintro e b ⟨v, rfl, s', n', j', m'⟩; have hl := s'.lt z_ys; obtain ⟨so, sc, rfl⟩ := s'.slice; exact ⟨_, rfl, _, fun q => (Value.slice so ys.length sc).ownBlock = some q, rfl, ⟨so, sc, rfl, s', fun q hq => .inl hq⟩, fun q hq => .inr ⟨n' q hq, hl q hq⟩, fun h => h.elim fun _ h9 => h9.elim, m'.mono fun q _ hq => .inl hq, (by show J true (L 15) b; rw [hsu 15 (by decide) (by decide)]; exact j')⟩))
    · have h0 : vs 33 = .pointer (some ⟨W, 0, none⟩) := hp 0 (by decide) (fun _ h9 => h9.elim)
      exact wpOp_of _ rfl rfl (op_nil rfl h0 ⟨_, fun _ => False, rfl, rfl, fun _ h => h.elim, fun h => h.elim fun _ h9 => h9.elim, Mod.refl _ _, hI⟩)
    · have h11 : vs 44 = .pointer (some ⟨W, 0, none⟩) := hp 11 (by decide) (fun _ h9 => h9.elim)
      exact wpOp_of _ rfl rfl (op_fwork2 rfl h11 ⟨_, fun _ => False, rfl, rfl, fun _ h => h.elim, fun h => h.elim fun _ h9 => h9.elim, Mod.refl _ _, hI⟩)
    · have h12 : vs 45 = .pointer (some ⟨W, 19, none⟩) := hp 12 (by decide) (fun _ h9 => h9.elim)
      exact wpOp_of _ rfl rfl (op_fEst1 rfl h12 ⟨_, fun _ => False, rfl, rfl, fun _ h => h.elim, fun h => h.elim fun _ h9 => h9.elim, Mod.refl _ _, hI⟩)
    · have h13 : vs 46 = .pointer (some ⟨W, 23, none⟩) := hp 13 (by decide) (fun _ h9 => h9.elim)
      have h1 : vs 34 = .int .i64 (i : Nat) := hp 1 (by decide) (fun _ h9 => h9.elim)
      exact wpOp_of _ rfl rfl (op_ixAx hi3 rfl h13 h1 ⟨_, fun _ => False, rfl, rfl, fun _ h => h.elim, fun h => h.elim fun _ h9 => h9.elim, Mod.refl _ _, hI⟩)
    · have h14 : vs 47 = .pointer (some ⟨W, 23 + 6 * i, none⟩) := hp 14 (by decide) (fun _ h9 => h9.elim)
      obtain ⟨o10, p10, h10, s10, k10⟩ : TV1 0 W (fun s => .agg #[.int .i64 3, .int .i64 1, s, .int .i64 3, .int .i64 3, .slice po pn pc]) ys (vs 43) (S 10) w := hp 10 (by decide) (fun _ h9 => h9.elim)
      have hJ : J true false w := by
        have h : J (L 10) (L 15) w := hI
        rw [hL, hpr 10 (by decide)] at h; exact h
      obtain ⟨⟨x0, x1, x2, x3, x4, x5, y0, y1, y2, y3, y4, y5⟩, ef, ej⟩ := hst w _ hJ hb s10 (fun q hq => (k10 q hq).elim (fun h => by have h1 := (hbd 10 (by decide) q h).2; have h2 := hsh W rfl; omega) (fun h => absurd h.1 (Nat.not_lt_zero _)))
      exact wpOp_of _ rfl rfl (op_stTrackAt rfl rfl h14 h10 y0 y1 y2 y3 y4 y5 (ef _) (ef _) (ef _) (ef _) (ef _) (ef _) ⟨undef, fun _ => False, rfl, trivial, fun _ h => h.elim, fun h => h.elim fun _ h9 => h9.elim, (((((mod_set.trans mod_set).trans mod_set).trans mod_set).trans mod_set).trans mod_set).mono fun q _ hq => .inl hq, (by show J (L 10) true _; rw [hpr 10 (by decide)]; exact ej)⟩)
  · intro vs w S L hall hI hb hSz hT
    have hIe : J true true w := by
      have hI' : J (L 10) (L 15) w := hI
      rw [hall 10 (by decide), hall 15 (by decide)] at hI'
      exact hI'
    exact hQ vs  w hb hIe 
end Go.Proofs.YtoefekkdjcflmaaGreatDoor.Et

