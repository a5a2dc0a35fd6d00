/-
  Texts joined, in the order in which they stand on one another: RInn KCopy RegW2.
-/
import Derived.Test.YtiniobcknmaigaaGreatG05
import Derived.Test.YtiniobcknmaigaaGreatG08
import Derived.Test.YtiniobcknmaigaaGreatG15
import Derived.Test.YtiniobcknmaigaaGreatG21
import Derived.Deep.DeepMust
import Derived.Laws.Cover3
/-
  The contracts of the document's Same of tracks, and of Innov.
-/
namespace Go.Proofs.YtiniobcknmaigaaGreat
open Go.RowKit Go.Sort Qm

theorem six_cells {w : World} {b : Nat} {x y z u v t : Value} {T : TypeId} (h : w.heap[b]? = some (.cells #[x, y, z, u, v, t] T (0, 0))) :
    w.cell? ⟨b, 0, none⟩ = some x ∧ w.cell? ⟨b, 1, none⟩ = some y ∧ w.cell? ⟨b, 2, none⟩ = some z ∧ w.cell? ⟨b, 3, none⟩ = some u ∧ w.cell? ⟨b, 4, none⟩ = some v ∧ w.cell? ⟨b, 5, none⟩ = some t := by
  simp [World.cell?, h]
theorem six_free {w : World} {b : Nat} {x y z u v t : Value} {T : TypeId} (h : w.heap[b]? = some (.cells #[x, y, z, u, v, t] T (0, 0))) :
    w.frozen? ⟨b, 0, none⟩ = false ∧ w.frozen? ⟨b, 1, none⟩ = false ∧ w.frozen? ⟨b, 2, none⟩ = false ∧ w.frozen? ⟨b, 3, none⟩ = false ∧ w.frozen? ⟨b, 4, none⟩ = false ∧ w.frozen? ⟨b, 5, none⟩ = false := by
  simp [World.frozen?, h]
theorem Sees.first {w : World} {v : Value} {xs : List Int} (h : Sees w v xs) (hl : xs.length = 1) : ∃ a cap, v = .slice (some a) 1 cap ∧ a.block < w.heap.size ∧ w.cell? a = some (.int .i64 (ge xs 0)) := by
  obtain ⟨ao, cap, rfl, hc⟩ := h
  obtain ⟨ad, rfl, h1, h2⟩ := hc 0 (by omega)
  have e : ad.add 0 = ad := by
    obtain ⟨b, o, m⟩ := ad
    cases m <;> simp [Addr.add]
  rw [e] at h2
  exact ⟨ad, cap, by rw [hl], h1, h2⟩

theorem old_cell' {w : World} {a : Addr} {v : Value} (h : w.cell? a = some v) (hb : a.block < w.heap.size) (x : Obj) : (w.alloc x).cell? a = some v :=
  (((Below.refl _ _).alloc (Nat.le_refl _) x).cell (p := a) hb).trans h
namespace Qm
def inY (n : Nat) (xs hs : List Int) (z : Int) : Int := sub z (ge (prd 1 n 1 hs xs) 0)
def inS (n : Nat) (ps hs : List Int) (r : Int) : Int := add (ge (midL 1 n hs ps) 0) r
def inF (n : Nat) (xs ps hs : List Int) (z r : Int) : Bool := prdB 1 n 1 hs xs || subB z (ge (prd 1 n 1 hs xs) 0) || midB 1 n hs ps || addB (ge (midL 1 n hs ps) 0) r
end Qm

set_option maxRecDepth 20000 in
set_option maxHeartbeats 1600000 in
theorem rinnov_not (R1 C1 R2 C2 rh ch : Int) (n1 c1 n2 c2 n3 c3 : Nat) (xo po ho : Option Addr) (z r : Int) (h : ¬ (rh = 1 ∧ ch = R1) ∨ r ≤ 0) (w : World) :
    Calls Tryz.prog 12 #[.agg #[.int .i64 R1, .int .i64 C1, .slice xo n1 c1, .int .i64 R2, .int .i64 C2, .slice po n2 c2], .agg #[.int .i64 rh, .int .i64 ch, .slice ho n3 c3], .int .i64 z, .int .i64 r] w fun e b =>
      e = .returned (.tuple #[.int .i64 0, .int .i64 0, .bool false, .int .i64 (if rh = 1 ∧ ch = R1 then 1 else 9)]) ∧ Below w.heap.size w b := by
  have bW := ball2 w (.cells #[.int .i64 R1, .int .i64 C1, .slice xo n1 c1, .int .i64 R2, .int .i64 C2, .slice po n2 c2] 26) (.cells #[.int .i64 rh, .int .i64 ch, .slice ho n3 c3] 24)
  by_cases h1 : rh = 1
  · subst h1
    by_cases h2 : ch = R1
    · subst h2
      have hr : r ≤ 0 := by
        rcases h with h | h
        · exact absurd ⟨rfl, rfl⟩ h
        · exact h
      rw [if_pos ⟨rfl, rfl⟩]
      clear h
      go_enter Tryz.func12, Tryz.ntmps12
      go_wp2
      refine bodyPost_ret (v := .tuple #[.int .i64 0, .int .i64 0, .bool false, .int .i64 1]) (by simp [results, Tryz.results12, go_sem]) rfl ?_
      exact ⟨rfl, bW⟩
    · rw [if_neg (fun g => h2 g.2)]
      have h3 : (ch == R1) = false := by simpa using h2
      clear h
      go_enter Tryz.func12, Tryz.ntmps12
      go_wp2
      refine bodyPost_ret (v := .tuple #[.int .i64 0, .int .i64 0, .bool false, .int .i64 9]) (by simp [results, Tryz.results12, go_sem]) rfl ?_
      exact ⟨rfl, bW⟩
  · rw [if_neg (fun g => h1 g.1)]
    have h3 : (rh == 1) = false := by simpa using h1
    clear h
    go_enter Tryz.func12, Tryz.ntmps12
    go_wp2
    refine bodyPost_ret (v := .tuple #[.int .i64 0, .int .i64 0, .bool false, .int .i64 9]) (by simp [results, Tryz.results12, go_sem]) rfl ?_
    exact ⟨rfl, bW⟩

set_option maxRecDepth 20000 in
set_option maxHeartbeats 1600000 in
theorem rinnov_any (n : Nat) (n1 : 1 ≤ n) (hn : n ≤ 8) (vx vp vh : Value) (xs ps hs : List Int) (hx : xs.length = n * 1) (hp : ps.length = n * n) (hh : hs.length = 1 * n) (z r : Int) (hr : 0 < r) (w : World) (sx : Sees w vx xs) (sp : Sees w vp ps) (sh : Sees w vh hs) :
    Calls Tryz.prog 12 #[.agg #[.int .i64 n, .int .i64 1, vx, .int .i64 n, .int .i64 n, vp], .agg #[.int .i64 1, .int .i64 n, vh], .int .i64 z, .int .i64 r] w fun e b =>
      e = .returned (.tuple #[.int .i64 (inY n xs hs z), .int .i64 (inS n ps hs r), .bool (inF n xs ps hs z r), .int .i64 0]) ∧ Below w.heap.size w b := by
  obtain ⟨xo, xcap, rfl⟩ := sx.slice
  obtain ⟨po, pcap, rfl⟩ := sp.slice
  obtain ⟨ho, hcap, rfl⟩ := sh.slice
  obtain ⟨W, hW⟩ : ∃ W, (w.alloc (.cells #[.int .i64 n, .int .i64 1, .slice xo xs.length xcap, .int .i64 n, .int .i64 n, .slice po ps.length pcap] 26)).alloc (.cells #[.int .i64 1, .int .i64 n, .slice ho hs.length hcap] 24) = W := ⟨_, rfl⟩
  obtain ⟨x1, x2⟩ := allocs2 w (.cells #[.int .i64 n, .int .i64 1, .slice xo xs.length xcap, .int .i64 n, .int .i64 n, .slice po ps.length pcap] 26) (.cells #[.int .i64 1, .int .i64 n, .slice ho hs.length hcap] 24)
  have bW := ball2 w (.cells #[.int .i64 n, .int .i64 1, .slice xo xs.length xcap, .int .i64 n, .int .i64 n, .slice po ps.length pcap] 26) (.cells #[.int .i64 1, .int .i64 n, .slice ho hs.length hcap] 24)
  rw [hW] at x1 x2 bW
  have k1 : Calls Tryz.prog 24 #[.agg #[.int .i64 1, .int .i64 n, .slice ho hs.length hcap], .agg #[.int .i64 n, .int .i64 1, .slice xo xs.length xcap]] W fun e b =>
      ∃ v, e = .returned (.tuple #[.agg #[.int .i64 1, .int .i64 1, v], .bool (prdB 1 n 1 hs xs), .int .i64 0]) ∧ Sees b v (prd 1 n 1 hs xs) ∧ New W.heap.size v ∧ Below W.heap.size W b := rmul_mat 1 n 1 (by omega) (by omega) n1 hn (by omega) (by omega) _ _ hs xs hh hx W (sh.below bW) (sx.below bW)
  have k2 : ∀ v, Below W.heap.size W v → Calls Tryz.prog 25 #[.agg #[.int .i64 1, .int .i64 n, .slice ho hs.length hcap], .agg #[.int .i64 n, .int .i64 n, .slice po ps.length pcap]] v fun e b =>
      ∃ v', e = .returned (.tuple #[.agg #[.int .i64 1, .int .i64 1, v'], .bool (midB 1 n hs ps)]) ∧ Sees b v' (midL 1 n hs ps) ∧ New v.heap.size v' ∧ Below v.heap.size v b := fun v hv => rmid_any 1 n (by omega) (by omega) n1 hn _ _ hs ps hh hp v ((sh.below bW).below hv) ((sp.below bW).below hv)
  have l1 := prd_len 1 n 1 hs xs
  have l2 := midL_len 1 n hs ps
  unfold inY inS inF
  obtain ⟨al, has⟩ : ∃ al, prd 1 n 1 hs xs = al := ⟨_, rfl⟩
  obtain ⟨ms, hms⟩ : ∃ ms, midL 1 n hs ps = ms := ⟨_, rfl⟩
  obtain ⟨A, hA⟩ : ∃ A, prdB 1 n 1 hs xs = A := ⟨_, rfl⟩
  obtain ⟨M, hM⟩ : ∃ M, midB 1 n hs ps = M := ⟨_, rfl⟩
  rw [has, hA] at k1
  rw [has] at l1
  simp only [hms, hM] at k2
  rw [hms] at l2
  rw [has, hms, hA, hM]
  obtain ⟨a0, ha0⟩ : ∃ a, ge al 0 = a := ⟨_, rfl⟩
  obtain ⟨m0, hm0⟩ : ∃ a, ge ms 0 = a := ⟨_, rfl⟩
  rw [ha0, hm0]
  obtain ⟨B, hB⟩ : ∃ B, subB z a0 = B := ⟨_, rfl⟩
  have hsub := fun w => rsub_any z a0 w
  have hadd := fun w => radd_any m0 r w
  rw [hB]
  simp only [hB] at hsub
  rw [← hW] at k1
  have HW : Hid (_ = W) := hW
  have L1 : Hid (al.length = 1) := l1
  have L2 : Hid (ms.length = 1) := l2
  have HA : Hid (ge al 0 = a0) := ha0
  have HM : Hid (ge ms 0 = m0) := hm0
  clear hW has hms hA hM hB hx hp hh l1 l2 ha0 hm0
  obtain ⟨c0, c1, c2, c3, c4, c5⟩ := six_cells x1
  obtain ⟨q0, q1, q2, _⟩ := mat_cells x2
  have h1 : (1 : Int) * 1 = 1 := rfl
  cases A <;> cases B <;> cases M
  all_goals
    go_enter Tryz.func12, Tryz.ntmps12
    go_wp2_with (first
      | (go_at_call 24; refine k1.mono ?_; rintro e wa ⟨v1, rfl, s1, _, b1⟩; rw [HW.out] at b1; obtain ⟨ad, ac, rfl, hab, hac⟩ := s1.first L1.out; rw [HA.out] at hac; have hcA := old_cell' hac hab (.cells #[.int .i64 1, .int .i64 1, .slice (some ad) 1 ac] 24); have kb1 := bt b1 (box_below wa (.cells #[.int .i64 1, .int .i64 1, .slice (some ad) 1 ac] 24)); obtain ⟨d0, d1, d2, d3, d4, d5⟩ := six_cells (keep kb1 x1); obtain ⟨e0, e1, e2, _⟩ := mat_cells (keep kb1 x2))
      | (go_at_call 42; refine (hsub _).mono ?_; rintro e wb ⟨rfl, rfl⟩)
      | (go_at_call 25; refine (k2 _ kb1).mono ?_; rintro e wc ⟨v2, rfl, s2, _, b2⟩; obtain ⟨bd, bc, rfl, hbb, hbc⟩ := s2.first L2.out; rw [HM.out] at hbc; have hcB := old_cell' hbc hbb (.cells #[.int .i64 1, .int .i64 1, .slice (some bd) 1 bc] 24))
      | (go_at_call 43; refine (hadd _).mono ?_; rintro e wd ⟨rfl, rfl⟩))
    refine bodyPost_ret (v := .tuple #[.int .i64 (sub z a0), .int .i64 (add m0 r), .bool _, .int .i64 0]) (by simp [results, Tryz.results12, go_sem]; rfl) rfl ?_
    first
      | exact ⟨rfl, bt (bt bW kb1) (bt b2 (box_below _ _))⟩
end Go.Proofs.YtiniobcknmaigaaGreat

/-
  The contracts of slices.Clone, of numbers, and of the code's copied and passes.
-/
namespace Go.Proofs.YtiniobcknmaigaaGreat
open Go.RowKit Go.Sort Qm

theorem sees_vals {w : World} {ao : Option Addr} {cap : Nat} {xs : List Int} {ad : Addr} (h : Sees w (.slice ao xs.length cap) xs) (ha : ao = some ad) : ∀ (j : Nat) (u : Value), (xs.map (Value.int .i64))[j]? = some u → w.cell? (ad.add j) = some u := by
  intro j u hj
  obtain ⟨ao', cap', e, hc⟩ := h
  rw [List.getElem?_map] at hj
  obtain ⟨x, hx, rfl⟩ := Option.map_eq_some_iff.1 hj
  obtain ⟨hl, hg⟩ := List.getElem?_eq_some_iff.1 hx
  obtain ⟨ad', e2, _, h3⟩ := hc j hl
  injection e with e3
  rw [ha, e2] at e3
  injection e3 with e4
  rw [e4, h3]
  unfold ge
  rw [List.getD_eq_getElem?_getD, hx]; rfl
theorem run_nil22 (a : Option Addr) (l c : Nat) (w : World) : Sem.run Tryz.prog (binOp BinOp.eql 22 (.slice a l c) (.slice none 0 0)) w = .ok (.bool a.isNone) w := by
  have h := run_equal_slice_nil (P := Tryz.prog) (w := w) 22 27 a l c Tryz.under22
  simp [binOp, go_sem, h]
theorem vals_one (xs : List Int) : ∀ u ∈ xs.map (Value.int .i64), u.oneCell' = true := by
  intro u hu
  obtain ⟨x, _, rfl⟩ := List.mem_map.1 hu
  rfl
set_option maxRecDepth 20000 in
set_option maxHeartbeats 400000 in
theorem clone_nil (w : World) :
    Calls Tryz.prog 46 #[.slice none 0 0] w fun e b => ∃ v', e = .returned v' ∧ Sees b v' [] ∧ New w.heap.size v' ∧ Below w.heap.size w b := by
  have hnil := fun v => run_nil22 none 0 0 v
  go_enter Tryz.func46, Tryz.ntmps46
  go_wp2
  go_ret
  exact ⟨_, rfl, ⟨none, 0, rfl, fun k hk => by simp at hk⟩, fun k hk => (by cases hk), Below.refl _ _⟩
set_option maxRecDepth 20000 in
set_option maxHeartbeats 400000 in
theorem clone_at (ad : Addr) (cap : Nat) (xs : List Int) (hn : xs.length ≤ 100) (w : World) (hs : Sees w (.slice (some ad) xs.length cap) xs) :
    Calls Tryz.prog 46 #[.slice (some ad) xs.length cap] w fun e b => ∃ v', e = .returned v' ∧ Sees b v' xs ∧ New w.heap.size v' ∧ Below w.heap.size w b := by
  obtain ⟨i0, hi, hz0, hz1, hz2⟩ := info_parts Tryz.info33
  have hv := fun o => sees_vals (hs.alloc o) rfl
  have HE : Hid (∀ (b : World) (v : Value), b.ownsRow w.heap.size 27 1 v xs.length (xs.map (Value.int .i64)) → Sees b v xs ∧ New w.heap.size v) := fun b v h => ⟨Sees.own h, New.own h⟩
  have hl : (xs.map (Value.int .i64)).length = xs.length := by simp
  have ho := vals_one xs
  generalize xs.map (Value.int .i64) = vals at hv hl HE ho
  obtain ⟨n, hn'⟩ : ∃ n, xs.length = n := ⟨_, rfl⟩
  rw [hn'] at hn hl hs HE ⊢
  clear hn'
  have HL : Hid (vals.length = n * 1) := by rw [Nat.mul_one]; exact hl
  have hnil := fun v => run_nil22 (some ad) n cap v
  have h0 : (w.alloc (.cells #[] 27)).ownsRow w.heap.size 27 1 (.slice (some ⟨w.heap.size, 0, none⟩) 0 0) 0 [] := ⟨rfl, .inr ⟨_, 0, #[], rfl, Nat.le_refl _, heap_new _ _, Nat.le_refl _, Nat.zero_le _, rfl, rfl⟩⟩
  clear hl
  go_enter Tryz.func46, Tryz.ntmps46
  go_wp2_with (at_builtin; go_must (refine wpList_append_own _ rfl _ _ 22 rfl w.heap.size 27 i0 (.int .i64 0) 1 8 Tryz.under22 hi hz0 hz1 hz2 rfl (by decide) _ _ _ rfl h0 ad n cap vals rfl HL.out (hv _) ho (by unfold maxLen; omega) (by omega) (by simp) ?_); intro v2 w2 hown2 hg2 hnil2)
  have b2 : Below w.heap.size w w2 := (box_below w _).trans (((Below.refl _ _)).grown hg2 (by simp) (fun m e => by cases e; exact Nat.le_refl _))
  have h3 := HE.out w2 v2 (by simpa using hown2)
  clear hown2 hg2 hnil2
  go_wp2
  go_ret
  exact ⟨_, rfl, h3.1, h3.2, b2⟩
theorem clone_any (v : Value) (xs : List Int) (h0 : 0 < xs.length) (hn : xs.length ≤ 100) (w : World) (hs : Sees w v xs) :
    Calls Tryz.prog 46 #[v] w fun e b => ∃ v', e = .returned v' ∧ Sees b v' xs ∧ New w.heap.size v' ∧ Below w.heap.size w b := by
  obtain ⟨ao, cap, rfl, hc⟩ := id hs
  obtain ⟨ad, rfl, _⟩ := hc 0 h0
  exact clone_at ad cap xs hn w hs
theorem enters_clone : ∀ (args : Array Value) (a : World), Sem.run Tryz.prog (callFunc 46 args) a = Result.ok (Next.enter 46 args) a := by
  intro args a
  simp [callFunc, Tryz.func46, go_sem]
  rfl

set_option maxRecDepth 20000 in
set_option maxHeartbeats 800000 in
theorem passes_any (N : Nat) (m : Bool) (y s gate : Int) (w : World) (hN : w.heap[N]? = some (.cells #[.bool m, .int .i64 0] 54 (0, 0))) :
    Calls Tryz.prog 28 #[.func (.func 18) #[.pointer (some ⟨N, 0, none⟩)] #[], .int .i64 y, .int .i64 s, .int .i64 gate] w fun e b => e = .returned (.bool (decide (mul y y ≤ mul gate s) && decide (0 < s))) ∧
      b.heap[N]? = some (.cells #[.bool (m || mulB y y || mulB gate s), .int .i64 0] 54 (0, 0)) ∧ w.grownBy b (some N) := by
  have HE := enters_keep
  have k1 := fun v => mul_any y y v
  have k2 := fun v => mul_any gate s v
  generalize mul y y = A at k1 ⊢
  generalize mul gate s = B at k2 ⊢
  generalize mulB y y = ma at k1 ⊢
  generalize mulB gate s = mb at k2 ⊢
  cases hA : decide (A ≤ B)
  all_goals
    go_enter Tryz.func28, Tryz.ntmps28
    go_wp2_with (first
      | (have _ := hg2; have _ := b3; go_at_call 18; go_must (refine (keep_any N (m || ma) mb _ (keep b3 hn2)).mono ?_); rintro e w4 ⟨rfl, hn4, hg4⟩)
      | (have _ := hg2; go_at_call 63; go_must (refine (k2 _).mono ?_); rintro e w3 ⟨rfl, b3⟩)
      | (have _ := b1; go_at_call 18; go_must (refine (keep_any N m ma _ (keep b1 hN)).mono ?_); rintro e w2 ⟨rfl, hn2, hg2⟩)
      | (go_at_call 63; go_must (refine (k1 _).mono ?_); rintro e w1 ⟨rfl, b1⟩))
    go_ret
    exact ⟨by simp, hn4, gb_trans (gb_trans (gb_trans (gb_below _ b1) hg2) (gb_below _ b3)) hg4⟩
end Go.Proofs.YtiniobcknmaigaaGreat

/-
  The same, where what is killed may stand ahead of others that do not use it.
-/
namespace Go.Proofs.YtiniobcknmaigaaGreat
open Go.RowKit Go.Sort Qm

theorem wp_region_own2 {P : Program} {id : Nat} {ops : Array Oper} {Q : Exit → Act → World → Prop} {w0 : World} (hm : P.follows .mixedOrders = true) (hlt : ∀ i, i < ops.size → ∀ k ∈ pres ops i, k < i)
    (dst : Nat → Nat) (inj : ∀ i, i < ops.size → ∀ j, j < ops.size → dst i = dst j → i = j) (fr : (Nat → Value) → Act) (vs0 : Nat → Value) (aux : Nat → Nat) (haux : ∀ i, i < ops.size → aux i = i ∨ aux i ∈ pres ops i)
    (Mo : Nat → Prop) (hMo : ∀ k, Mo k → k < w0.heap.size) (wr : Nat → Nat → Prop) (hwr : ∀ i k, wr i k → Mo k) (hwr1 : ∀ i j k, wr i k → wr j k → i = j)
    (kill : Nat → Nat → Prop) (hk1 : ∀ s j, kill s j → s < ops.size ∧ j ∈ pres ops s) (hk2 : ∀ s j, kill s j → ∀ i, i < ops.size → j ∈ pres ops i → i = s ∨ i ∈ pres ops s ∨ ∃ m ∈ pres ops s, i ∈ pres ops m)
    (T : Nat → Value → Value → (Nat → Prop) → World → Prop)
    (hstab : ∀ i v u S w w', i < ops.size → T i v u S w → Mod Mo w0 w → Mod Mo w0 w' → w.heap.size ≤ w'.heap.size → (∀ k, S k → w'.heap[k]? = w.heap[k]?) → T i v u S w')
    (hstep : ∀ i, i < ops.size → ∀ vs w (S : Nat → Nat → Prop), Mod Mo w0 w → (∀ k ∈ pres ops i, T k (vs (dst k)) (vs (dst (aux k))) (S k) w) → (∀ k ∈ pres ops i, ∀ b, S k b → b < w.heap.size ∧ ¬ wr i b) →
      (∀ k, Mo k → (∀ j, wr j k → j < ops.size ∧ (j = i ∨ i ∈ pres ops j)) → w.heap[k]? = w0.heap[k]?) → (∀ j, kill i j → ∀ k ∈ pres ops i, k ≠ j → ∀ b, S j b → ¬ S k b) → (∀ k, (∀ j, j < ops.size → dst j = k → i ∈ pres ops j ∨ j = i) → vs k = vs0 k) →
      wpOp P ops Q i (fun a' w' => ∃ v S', a' = fr (fun k => if k = dst i then v else vs k) ∧ T i v (if aux i = i then v else vs (dst (aux i))) S' w' ∧
        (∀ b, S' b → (∃ k ∈ pres ops i, (∀ s, kill s k → s = i) ∧ S k b) ∨ (w.heap.size ≤ b ∧ b < w'.heap.size) ∨ wr i b) ∧ ((∃ s, kill s i) → ∀ b, S' b → w.heap.size ≤ b ∨ wr i b) ∧ Mod (fun b => wr i b ∨ ∃ j, kill i j ∧ S j b) w w') (fr vs) w)
    (hend : ∀ vs w (S : Nat → Nat → Prop), Mod Mo w0 w → (∀ i, i < ops.size → (∀ s, ¬ kill s i) → T i (vs (dst i)) (vs (dst (aux i))) (S i) w) → Q .normal (fr vs) w) : (Code.region id ops true).wp P Q (fr vs0) w0 := by
  refine wp_region_L hm hlt (fun L a w => ∃ vs, ∃ S : Nat → Nat → Prop, a = fr vs ∧ Mod Mo w0 w ∧ (∀ i, i < ops.size → L i = true → (∀ s, kill s i → L s = false) → T i (vs (dst i)) (vs (dst (aux i))) (S i) w) ∧
    (∀ i, i < ops.size → L i = true → ∀ b, S i b → b < w.heap.size) ∧ (∀ i, i < ops.size → L i = true → ∀ b, S i b → b < w0.heap.size → ∃ j, L j = true ∧ wr j b) ∧
    (∀ k, Mo k → (∀ i, wr i k → L i = false) → w.heap[k]? = w0.heap[k]?) ∧
    (∀ j, j < ops.size → L j = true → (∃ s, kill s j) → (∀ s, kill s j → L s = false) → ∀ i, i < ops.size → L i = true → i ≠ j → ∀ b, S j b → ¬ S i b) ∧
    (∀ k, (∀ j, j < ops.size → dst j = k → L j = false) → vs k = vs0 k)) ?_ ?_ ?_
  · exact ⟨vs0, fun _ _ => False, rfl, Mod.of (Below.refl _ _).drew, fun i _ h => (by cases h), fun i _ h => (by cases h), fun i _ h => (by cases h), fun _ _ _ => rfl, fun i _ h => (by cases h), fun _ _ => rfl⟩
  · rintro L a w i hi ⟨vs, S, rfl, hb, hT, hlt', hold, hmo, hdis, hv⟩ hc hL hp
    have hin : ∀ k ∈ pres ops i, k < ops.size := fun k hk => Nat.lt_trans (hlt i hi k hk) hi
    have hlive : ∀ k ∈ pres ops i, ∀ s, kill s k → L s = false := fun k hk s hs => by
      rcases hk2 s k hs i hi hk with h | h | ⟨m, hm1, hm2⟩
      · rw [← h]; exact hL
      · cases hLs : L s with
        | false => rfl
        | true => have := hc s (hk1 s k hs).1 hLs i h; rw [hL] at this; cases this
      · cases hLs : L s with
        | false => rfl
        | true => have := hc m (Nat.lt_trans (hlt s (hk1 s k hs).1 m hm1) (hk1 s k hs).1) (hc s (hk1 s k hs).1 hLs m hm1) i hm2; rw [hL] at this; cases this
    have hnw : ∀ j, j < ops.size → L j = true → ∀ b, S j b → ¬ wr i b := fun j hj hLj b hb1 hb2 => by
      obtain ⟨j', h1, h2⟩ := hold j hj hLj b hb1 (hMo b (hwr i b hb2))
      rw [hwr1 j' i b h2 hb2, hL] at h1; cases h1
    refine wpOp_mono ?_ (hstep i hi vs w S hb (fun k hk => hT k (hin k hk) (hp k hk) (hlive k hk)) (fun k hk b hSb => ⟨hlt' k (hin k hk) (hp k hk) b hSb, hnw k (hin k hk) (hp k hk) b hSb⟩) (fun k hk hw => hmo k hk fun j hj => by
        rcases (hw j hj).2 with h1 | h1
        · rw [h1]; exact hL
        · cases hLj : L j with
          | false => rfl
          | true => have := hc j (hw j hj).1 hLj i h1; rw [hL] at this; cases this)
      (fun j hj k hk hkj => hdis j (hin j (hk1 i j hj).2) (hp j (hk1 i j hj).2) ⟨i, hj⟩ (hlive j (hk1 i j hj).2) k (hin k hk) (hp k hk) hkj) (fun k hk => hv k fun j hj hjk => ?_))
    · rintro a' w' ⟨v, S', rfl, hTv, hS, hSk, hmod⟩
      have hb' : Mod Mo w0 w' := by
        refine ⟨hmod.os.trans hb.os, hmod.tape.trans hb.tape, hmod.output.trans hb.output, Nat.le_trans hb.size hmod.size, fun k hk hno => ?_⟩
        rw [hmod.block k (Nat.lt_of_lt_of_le hk hb.size) ?_, hb.block k hk hno]
        rintro (h | ⟨j, hj, hSj⟩)
        · exact hno (hwr i k h)
        · obtain ⟨j', _, h2⟩ := hold j (hin j (hk1 i j hj).2) (hp j (hk1 i j hj).2) k hSj hk
          exact hno (hwr j' k h2)
      have hkeep : ∀ j, j < ops.size → L j = true → (∀ s, kill s j → L s = false) → ¬ kill i j → ∀ b, S j b → w'.heap[b]? = w.heap[b]? := by
        intro j hj hLj hlj hnk b hSb
        refine hmod.block b (hlt' j hj hLj b hSb) ?_
        rintro (h | ⟨j', hj', hSj'⟩)
        · exact hnw j hj hLj b hSb h
        · have hp' := (hk1 i j' hj').2
          have hne : j ≠ j' := fun e => hnk (e ▸ hj')
          exact hdis j' (hin j' hp') (hp j' hp') ⟨i, hj'⟩ (hlive j' hp') j hj hLj hne b hSj' hSb
      have hsz0 : w0.heap.size ≤ w.heap.size := hb.size
      refine ⟨fun k => if k = dst i then v else vs k, fun j => if j = i then S' else S j, rfl, hb', ?_, ?_, ?_, ?_, ?_, ?_⟩
      · intro j hj hLj hlj
        by_cases e : j = i
        · subst e
          simp only [if_true]
          by_cases ea : aux j = j
          · rw [if_pos ea] at hTv
            rw [ea, if_pos rfl]; exact hTv
          · rw [if_neg ea] at hTv
            have hne : dst (aux j) ≠ dst j := fun h => by
              rcases haux j hj with h1 | h1
              · exact ea h1
              · exact ea (inj _ (hin _ h1) j hj h)
            rw [if_neg hne]; exact hTv
        · simp only [if_neg e] at hLj ⊢
          have hd : dst j ≠ dst i := fun h => e (inj j hj i hi h)
          have hai : aux j ≠ i := fun h => by
            rcases haux j hj with h1 | h1
            · exact e (h1.symm.trans h)
            · have := hc j hj hLj _ h1; rw [h, hL] at this; cases this
          have haj : aux j < ops.size := by
            rcases haux j hj with h1 | h1
            · rw [h1]; exact hj
            · exact Nat.lt_trans (hlt j hj _ h1) hj
          have hda : dst (aux j) ≠ dst i := fun h => hai (inj _ haj i hi h)
          rw [if_neg hd, if_neg hda]
          have hlj' : ∀ s, kill s j → L s = false := fun s hs => by
            have := hlj s hs
            by_cases es : s = i
            · simp [es] at this
            · simpa [es] using this
          have hnk : ¬ kill i j := fun h => by have := hlj i h; simp at this
          exact hstab j _ _ _ w w' hj (hT j hj hLj hlj') hb hb' hmod.size (hkeep j hj hLj hlj' hnk)
      · intro j hj hLj b hSb
        by_cases e : j = i
        · subst e
          simp only [if_true] at hSb
          rcases hS b hSb with ⟨k, hk, _, h⟩ | h | h
          · exact Nat.lt_of_lt_of_le (hlt' k (hin k hk) (hp k hk) b h) hmod.size
          · exact h.2
          · exact Nat.lt_of_lt_of_le (hMo b (hwr _ b h)) (Nat.le_trans hsz0 hmod.size)
        · simp only [if_neg e] at hLj hSb
          exact Nat.lt_of_lt_of_le (hlt' j hj hLj b hSb) hmod.size
      · intro j hj hLj b hSb h0
        have up : (∃ j, L j = true ∧ wr j b) → ∃ j, (if j = i then true else L j) = true ∧ wr j b := fun ⟨j, h1, h2⟩ => ⟨j, by by_cases e : j = i <;> simp [e, h1], h2⟩
        by_cases e : j = i
        · subst e
          simp only [if_true] at hSb
          rcases hS b hSb with ⟨k, hk, _, h⟩ | h | h
          · exact up (hold k (hin k hk) (hp k hk) b h h0)
          · omega
          · exact ⟨j, by simp, h⟩
        · simp only [if_neg e] at hLj hSb
          exact up (hold j hj hLj b hSb h0)
      · intro k hk hno
        have hni : ¬ wr i k := fun h => by have := hno i h; simp at this
        rw [hmod.block k (Nat.lt_of_lt_of_le (hMo k hk) hsz0) ?_]
        · refine hmo k hk fun j hj => ?_
          have := hno j hj
          by_cases e : j = i
          · simp [e] at this
          · simpa [e] using this
        · rintro (h | ⟨j, hj, hSj⟩)
          · exact hni h
          · obtain ⟨j', h1, h2⟩ := hold j (hin j (hk1 i j hj).2) (hp j (hk1 i j hj).2) k hSj (hMo k hk)
            have := hno j' h2
            by_cases e : j' = i
            · simp [e] at this
            · simp [e, h1] at this
      · intro j hj hLj hks hlj i2 hi2 hL2 hne b hSj hS2
        by_cases e : j = i
        · subst e
          simp only [if_true] at hSj
          simp only [if_neg hne] at hL2 hS2
          rcases hSk hks b hSj with h1 | h1
          · have h2 := hlt' i2 hi2 hL2 b hS2
            omega
          · exact hnw i2 hi2 hL2 b hS2 h1
        · simp only [if_neg e] at hLj hSj
          have hlj' : ∀ s, kill s j → L s = false := fun s hs => by
            have := hlj s hs
            by_cases es : s = i
            · simp [es] at this
            · simpa [es] using this
          have hnk : ¬ kill i j := fun h => by have := hlj i h; simp at this
          by_cases e2 : i2 = i
          · subst e2
            simp only [if_true] at hS2
            rcases hS b hS2 with ⟨k, hk, hks', h⟩ | h | h
            · have hkj : k ≠ j := fun ek => by
                subst ek
                obtain ⟨s, hs⟩ := hks
                exact hnk (hks' s hs ▸ hs)
              exact hdis j hj hLj hks hlj' k (hin k hk) (hp k hk) hkj b hSj h
            · have := hlt' j hj hLj b hSj; omega
            · exact hnw j hj hLj b hSj h
          · simp only [if_neg e2] at hL2 hS2
            exact hdis j hj hLj hks hlj' i2 hi2 hL2 hne b hSj hS2
      · intro k hk
        have hki : k ≠ dst i := fun h => by have := hk i hi h.symm; simp at this
        simp only [if_neg hki]
        exact hv k fun j hj hjk => by
          have h := hk j hj hjk
          by_cases e : j = i
          · subst e; simp at h
          · simpa [e] using h
    · rcases hk j hj hjk with h1 | h1
      · cases hLj : L j with
        | false => rfl
        | true => have := hc j hj hLj i h1; rw [hL] at this; cases this
      · rw [h1]; exact hL
  · rintro L a w ⟨vs, S, rfl, hb, hT, _⟩ hall
    exact hend vs w S hb fun i hi hk => hT i hi (hall i hi) fun s hs => absurd hs (hk s)
end Go.Proofs.YtiniobcknmaigaaGreat
