/-
  Texts joined, in the order in which they stand on one another: KStep KReck KMake.
-/
import Derived.Test.YtiniobcknmaigaaGreatG05
import Derived.Test.YtiniobcknmaigaaGreatG14
/-
  The code's keep (a method value that writes its notes), and the steps' loop, reckoned.
-/
namespace Go.Proofs.YtiniobcknmaigaaGreat
open Go.RowKit Go.Sort Qm

theorem two_cells {w : World} {b : Nat} {x y : Value} {T : TypeId} (h : w.heap[b]? = some (.cells #[x, y] T (0, 0))) :
    w.cell? ⟨b, 0, none⟩ = some x ∧ w.cell? ⟨b, 1, none⟩ = some y ∧ w.frozen? ⟨b, 0, none⟩ = false ∧ w.frozen? ⟨b, 1, none⟩ = false := by
  simp [World.cell?, World.frozen?, h]
theorem put_two {w : World} {b : Nat} {x y x' y' : Value} {t : TypeId} (h : w.heap[b]? = some (.cells #[x, y] t (0, 0))) :
    ((w.setCell ⟨b, 0, none⟩ x').setCell ⟨b, 1, none⟩ y').heap[b]? = some (.cells #[x', y'] t (0, 0)) := by
  have h1 := heap_setCell_same w b 0 #[x, y] t x' h
  exact heap_setCell_same _ b 1 _ t y' h1
theorem gb_set {w w' : World} {N : Nat} (h : w.grownBy w' (some N)) (k : Nat) (v : Value) : w.grownBy (w'.setCell ⟨N, k, none⟩ v) (some N) :=
  ⟨h.os, h.tape, h.output, by simpa [World.setCell] using h.size, fun i hi hn => by rw [Below.heap_setCell _ _ _ _ (fun e => hn (by rw [e]))]; exact h.block i hi hn⟩

theorem enters_keep : ∀ (args : Array Value) (a : World), Sem.run Tryz.prog (callFunc 18 args) a = Result.ok (Next.enter 18 args) a := by
  intro args a
  simp [callFunc, Tryz.func18, go_sem]
  rfl
set_option maxHeartbeats 400000 in
theorem keep_any (N : Nat) (m b : Bool) (w : World) (hN : w.heap[N]? = some (.cells #[.bool m, .int .i64 0] 54 (0, 0))) :
    Calls Tryz.prog 18 #[.pointer (some ⟨N, 0, none⟩), .bool b, .int .i64 0] w fun e w' => e = .returned (.tuple #[]) ∧
      w'.heap[N]? = some (.cells #[.bool (m || b), .int .i64 0] 54 (0, 0)) ∧ w.grownBy w' (some N) := by
  obtain ⟨c0, c1, f0, f1⟩ := two_cells hN
  have e1 := put_two (x' := .bool (m || b)) (y' := .int .i64 0) hN
  have e2 := gb_set (gb_set (gb_refl w (some N)) 0 (.bool (m || b))) 1 (.int .i64 0)
  cases m
  all_goals
    simp only [Bool.false_or, Bool.true_or] at e1 e2 ⊢
    go_enter Tryz.func18, Tryz.ntmps18
    go_wp2
    refine bodyPost_end (v := .tuple #[]) (by simp [results, Tryz.results18, go_sem]) rfl ?_
    exact ⟨rfl, e1, e2⟩

theorem Sees.agree {w w' : World} {v : Value} {xs : List Int} (h : Sees w v xs) (hz : w.heap.size ≤ w'.heap.size) (hb : ∀ k, v.ownBlock = some k → w'.heap[k]? = w.heap[k]?) : Sees w' v xs := by
  obtain ⟨ao, cap, rfl, hc⟩ := h
  refine ⟨ao, cap, rfl, fun k hk => ?_⟩
  obtain ⟨ad, rfl, h1, h2⟩ := hc k hk
  refine ⟨ad, rfl, Nat.lt_of_lt_of_le h1 hz, ?_⟩
  rw [World.cell?_of_block (w := w) (by rw [add_block]; exact hb ad.block rfl)]; exact h2

/-- what the loop of reckoned keeps -/
structure RkI (w : World) (N : Nat) (m : Bool) (r c : Nat) (xs : List Int) (f : Prop) (wr : World) : Prop where
  mod : Mod (fun b => b = N) w wr
  size : w.heap.size + 2 ≤ wr.heap.size
  out : wr.heap[w.heap.size + 1]? = some (.cells #[.int .i64 0, .int .i64 0, .slice none 0 0] 24 (0, 0))
  note : wr.heap[N]? = some (.cells #[.bool m, .int .i64 0] 54 (0, 0))
  mat : ∃ ao cap, wr.heap[w.heap.size]? = some (.cells #[.int .i64 r, .int .i64 c, .slice ao xs.length cap] 24 (0, 0)) ∧ Sees wr (.slice ao xs.length cap) xs ∧ ∀ b, (Value.slice ao xs.length cap).ownBlock = some b → b ≠ N ∧ b ≠ w.heap.size ∧ b ≠ w.heap.size + 1 ∧ b < wr.heap.size ∧ (f → w.heap.size ≤ b)

theorem RkI.start {w : World} {N : Nat} {m : Bool} {r c : Nat} {xs : List Int} {ao : Option Addr} {cap : Nat} (hN : w.heap[N]? = some (.cells #[.bool m, .int .i64 0] 54 (0, 0)))
    (hs : Sees w (.slice ao xs.length cap) xs) (hne : ∀ b, (Value.slice ao xs.length cap).ownBlock = some b → b ≠ N ∧ b < w.heap.size) :
    RkI w N m r c xs False ((w.alloc (.cells #[.int .i64 r, .int .i64 c, .slice ao xs.length cap] 24)).alloc (.cells #[.int .i64 0, .int .i64 0, .slice none 0 0] 24)) := by
  have x := allocs2 w (.cells #[.int .i64 r, .int .i64 c, .slice ao xs.length cap] 24) (.cells #[.int .i64 0, .int .i64 0, .slice none 0 0] 24)
  have b := ball2 w (.cells #[.int .i64 r, .int .i64 c, .slice ao xs.length cap] 24) (.cells #[.int .i64 0, .int .i64 0, .slice none 0 0] 24)
  refine ⟨Mod.of b, by simp, x.2, keep b hN, ao, cap, x.1, hs.below b, fun k hk => ?_⟩
  have := hne k hk
  refine ⟨this.1, by omega, by omega, ?_, False.elim⟩
  have := b.size; omega

/-- a step: called, noted, and laid -/
theorem RkI.step {w wr wb wc : World} {N : Nat} {m m' : Bool} {r c r' c' : Nat} {xs ys : List Int} {f : Prop} {ao : Option Addr} {cap : Nat} (hNw : N < w.heap.size) (h : RkI w N m r c xs f wr) (hb : Below wr.heap.size wr wb)
    (hs : Sees wb (.slice ao ys.length cap) ys) (hn : New wr.heap.size (.slice ao ys.length cap)) (hl : ∀ b, (Value.slice ao ys.length cap).ownBlock = some b → b < wb.heap.size)
    (hg : (wb.alloc (.cells #[.int .i64 r', .int .i64 c', .slice ao ys.length cap] 24)).grownBy wc (some N)) (hN : wc.heap[N]? = some (.cells #[.bool m', .int .i64 0] 54 (0, 0))) :
    RkI w N m' r' c' ys True (((wc.setCell ⟨w.heap.size, 0, none⟩ (.int .i64 r')).setCell ⟨w.heap.size, 1, none⟩ (.int .i64 c')).setCell ⟨w.heap.size, 2, none⟩ (.slice ao ys.length cap)) := by
  obtain ⟨h1, h2, h3, h4, ao0, cap0, h5, _, _⟩ := h
  have hm : Mod (fun b => b = N) wr wc := (Mod.of (bt hb (box_below wb (.cells #[.int .i64 r', .int .i64 c', .slice ao ys.length cap] 24)))).trans (Mod.ofGb hg)
  have e5 : wc.heap[w.heap.size]? = some (.cells #[.int .i64 r, .int .i64 c, .slice ao0 xs.length cap0] 24 (0, 0)) := (hm.block _ (by omega) (by omega)).trans h5
  have hsz : wc.heap.size ≤ (((wc.setCell ⟨w.heap.size, 0, none⟩ (.int .i64 r')).setCell ⟨w.heap.size, 1, none⟩ (.int .i64 c')).setCell ⟨w.heap.size, 2, none⟩ (.slice ao ys.length cap)).heap.size := by simp [World.setCell]
  have hoff : ∀ k, k ≠ w.heap.size → (((wc.setCell ⟨w.heap.size, 0, none⟩ (.int .i64 r')).setCell ⟨w.heap.size, 1, none⟩ (.int .i64 c')).setCell ⟨w.heap.size, 2, none⟩ (.slice ao ys.length cap)).heap[k]? = wc.heap[k]? := by
    intro k hk
    rw [Below.heap_setCell _ _ _ _ hk, Below.heap_setCell _ _ _ _ hk, Below.heap_setCell _ _ _ _ hk]
  have hza : wb.heap.size ≤ wc.heap.size := Nat.le_trans (by simp) hg.size
  have hbl : ∀ b, (Value.slice ao ys.length cap).ownBlock = some b → b ≠ N ∧ b ≠ w.heap.size ∧ b ≠ w.heap.size + 1 ∧ b < wc.heap.size := fun b hb' => by
    have := hn b hb'; have := hl b hb'
    refine ⟨?_, ?_, ?_, ?_⟩ <;> omega
  refine ⟨?_, by have := hm.size; omega, ?_, ?_, ao, cap, put_mat e5, ?_, fun b hb' => ?_⟩
  · have h6 := h1.trans hm
    refine ⟨h6.os, h6.tape, h6.output, Nat.le_trans h6.size hsz, fun k hk hk' => ?_⟩
    rw [hoff k (by omega)]; exact h6.block k hk hk'
  · rw [hoff _ (by omega)]; exact (hm.block _ (by omega) (by omega)).trans h3
  · rw [hoff _ (by omega)]; exact hN
  · have hs1 : Sees wc (.slice ao ys.length cap) ys := (hs.alloc (.cells #[.int .i64 r', .int .i64 c', .slice ao ys.length cap] 24)).agree hg.size fun k hk => by
      have := hbl k hk; have := hl k hk
      exact hg.block k (by simp; omega) (fun e => (hbl k hk).1 (by injection e))
    exact hs1.agree hsz fun k hk => hoff k (hbl k hk).2.1
  · have := hbl b hb'
    have h9 := hn b hb'
    exact ⟨this.1, this.2.1, this.2.2.1, Nat.lt_of_lt_of_le this.2.2.2 hsz, fun _ => by omega⟩
end Go.Proofs.YtiniobcknmaigaaGreat

/-
  The contract of the code's reckoned: steps, one behind the other.
-/
namespace Go.Proofs.YtiniobcknmaigaaGreat
open Go.RowKit Go.Sort Qm

theorem RkI.imp {w wr : World} {N : Nat} {m : Bool} {r c : Nat} {xs : List Int} {f g : Prop} (h : RkI w N m r c xs f wr) (hg : g → f) : RkI w N m r c xs g wr := by
  obtain ⟨h1, h2, h3, h4, ao, cap, h5, h6, h7⟩ := h
  exact ⟨h1, h2, h3, h4, ao, cap, h5, h6, fun b hb => ⟨(h7 b hb).1, (h7 b hb).2.1, (h7 b hb).2.2.1, (h7 b hb).2.2.2.1, fun x => (h7 b hb).2.2.2.2 (hg x)⟩⟩

theorem RkI.ends {w wr : World} {N : Nat} {m : Bool} {r c : Nat} {xs ys : List Int} {f : Prop} {v : Value} (hNw : N < w.heap.size) (h : RkI w N m r c xs f wr) (hs : Sees wr v ys) (hv : ∀ b, v.ownBlock = some b → b ≠ w.heap.size + 1) (x y z : Value) :
    Sees (((wr.setCell ⟨w.heap.size + 1, 0, none⟩ x).setCell ⟨w.heap.size + 1, 1, none⟩ y).setCell ⟨w.heap.size + 1, 2, none⟩ z) v ys ∧
    (((wr.setCell ⟨w.heap.size + 1, 0, none⟩ x).setCell ⟨w.heap.size + 1, 1, none⟩ y).setCell ⟨w.heap.size + 1, 2, none⟩ z).heap[N]? = some (.cells #[.bool m, .int .i64 0] 54 (0, 0)) ∧
    w.grownBy (((wr.setCell ⟨w.heap.size + 1, 0, none⟩ x).setCell ⟨w.heap.size + 1, 1, none⟩ y).setCell ⟨w.heap.size + 1, 2, none⟩ z) (some N) := by
  have hsz : wr.heap.size ≤ (((wr.setCell ⟨w.heap.size + 1, 0, none⟩ x).setCell ⟨w.heap.size + 1, 1, none⟩ y).setCell ⟨w.heap.size + 1, 2, none⟩ z).heap.size := by simp [World.setCell]
  have hoff : ∀ k, k ≠ w.heap.size + 1 → (((wr.setCell ⟨w.heap.size + 1, 0, none⟩ x).setCell ⟨w.heap.size + 1, 1, none⟩ y).setCell ⟨w.heap.size + 1, 2, none⟩ z).heap[k]? = wr.heap[k]? := by
    intro k hk
    rw [Below.heap_setCell _ _ _ _ hk, Below.heap_setCell _ _ _ _ hk, Below.heap_setCell _ _ _ _ hk]
  refine ⟨hs.agree hsz fun k hk => hoff k (hv k hk), (hoff N (by omega)).trans h.note, ?_⟩
  have g := h.mod
  exact ⟨g.os, g.tape, g.output, Nat.le_trans g.size hsz, fun k hk hn => by rw [hoff k (by omega)]; exact g.block k hk fun e => hn (by rw [e])⟩

set_option maxRecDepth 20000 in
set_option maxHeartbeats 1600000 in
theorem kreck_any (k : Nat) (hk8 : k ≤ 8) (R C : Nat → Nat) (xs : Nat → List Int) (mb : Nat → Bool) (N : Nat) (m0 : Bool) (w : World) (F : Nat → Nat) (caps : Nat → Array Value) (bS : Nat) (sl : Value)
    (hN : w.heap[N]? = some (.cells #[.bool m0, .int .i64 0] 54 (0, 0))) (hst : ∀ i, i < k → w.cell? ⟨bS, i, none⟩ = some (.func (.func (F i)) #[] (caps i))) (hbN : bS ≠ N) (hbw : bS < w.heap.size)
    (hF : ∀ i, i < k → ∀ (args : Array Value) (a : World), Sem.run Tryz.prog (callFunc (F i) args) a = Result.ok (Next.enter (F i) args) a)
    (hcall : ∀ i, i < k → ∀ w', Mod (fun b => b = N) w w' → ∀ s, Sees w' s (xs i) → Calls Tryz.prog (F i) (#[.agg #[.int .i64 (R i), .int .i64 (C i), s]] ++ caps i) w' fun e b => ∃ s', e = .returned (.tuple #[.agg #[.int .i64 (R (i + 1)), .int .i64 (C (i + 1)), s'], .bool (mb i), .int .i64 0]) ∧ Sees b s' (xs (i + 1)) ∧ New w'.heap.size s' ∧ Below w'.heap.size w' b)
    (hpos : ∀ i, i ≤ k → 0 < (xs i).length) (hs : Sees w sl (xs 0)) (hne : ∀ b, sl.ownBlock = some b → b ≠ N) :
    Calls Tryz.prog 17 #[.func (.func 18) #[.pointer (some ⟨N, 0, none⟩)] #[], .agg #[.int .i64 (R 0), .int .i64 (C 0), sl], .slice (some ⟨bS, 0, none⟩) k k] w fun e b => ∃ s', e = .returned (.agg #[.int .i64 (R k), .int .i64 (C k), s']) ∧ Sees b s' (xs k) ∧ (0 < k → New w.heap.size s') ∧
      b.heap[N]? = some (.cells #[.bool (m0 || anyB mb k), .int .i64 0] 54 (0, 0)) ∧ w.grownBy b (some N) := by
  have hlt := hs.lt (hpos 0 (Nat.zero_le _))
  obtain ⟨ao, cap, rfl⟩ := hs.slice
  have hNw : N < w.heap.size := lt_of_block hN
  have H0 : RkI w N m0 (R 0) (C 0) (xs 0) False _ := RkI.start (r := R 0) (c := C 0) hN hs fun b hb => ⟨hne b hb, hlt b hb⟩
  clear hs hne hlt hN
  have HE := enters_keep
  obtain ⟨W, hW⟩ : ∃ W, (w.alloc (.cells #[.int .i64 (R 0), .int .i64 (C 0), .slice ao (xs 0).length cap] 24)).alloc (.cells #[.int .i64 0, .int .i64 0, .slice none 0 0] 24) = W := ⟨_, rfl⟩
  rw [hW] at H0
  go_enter Tryz.func17, Tryz.ntmps17
  go_wp2
  go_loopw [14] (fun i wr => ∃ a : Nat, a ≤ k ∧ i = .int .i64 a ∧ RkI w N (m0 || anyB mb a) (R a) (C a) (xs a) (0 < a) wr) (fun i _ => k - (intOf i).toNat)
  case atStart => exact ⟨0, Nat.zero_le _, rfl, by simpa [anyB] using H0⟩
  case round =>
    clear H0 hW
    obtain ⟨i, hi, rfl, hI⟩ := hrel
    obtain ⟨ro, rc, hm, hsee, hbl⟩ := hI.mat
    obtain ⟨d0, d1, d2, _⟩ := mat_cells hm
    by_cases hlt : i < k
    · have hci : wr.cell? ⟨bS, i, none⟩ = some (.func (.func (F i)) #[] (caps i)) := by
        rw [World.cell?_of_block (w := w) (hI.mod.block bS hbw hbN)]; exact hst i hlt
      have hFi := hF i hlt
      have hc1 := hcall i hlt wr hI.mod _ hsee
      have hp1 := hpos (i + 1) (by omega)
      have hI' : Hid (RkI w N (m0 || anyB mb i) (R i) (C i) (xs i) (0 < i) wr) := hI
      have hnote := hI.note
      obtain ⟨m, hm1⟩ : ∃ m, (m0 || anyB mb i) = m := ⟨_, rfl⟩
      have hm2 : (m0 || anyB mb (i + 1)) = (m || mb i) := by rw [← hm1]; simp [anyB, Bool.or_assoc]
      rw [hm1] at hnote hI'
      clear hI hcall hF hst hbl
      go_wp2_with (first
        | (have _ := bb; go_at_call 18; refine (keep_any N m (mb i) _ (heap_old (keep bb hnote) _)).mono ?_; rintro e wc ⟨rfl, hn2, hg2⟩; have hmc := (Mod.ofGb hg2).block wb.heap.size (by simp) (by have := lt_of_block hnote; have := bb.size; omega); rw [heap_new] at hmc; obtain ⟨g0, g1, g2, _⟩ := mat_cells hmc; have hST := RkI.step (r' := R (i + 1)) (c' := C (i + 1)) hNw hI'.out bb sb nb (fun b hb => sb.lt hp1 b hb) hg2 hn2; have hold := (bt bb (box_below wb (.cells #[.int .i64 (R (i + 1)), .int .i64 (C (i + 1)), .slice bo (xs (i + 1)).length bc] 24))); have hmw := ((Mod.of hold).trans (Mod.ofGb hg2)).block w.heap.size (lt_of_block hm) (by omega); rw [hm] at hmw; obtain ⟨l0, l1, l2, k0, k1, k2⟩ := mat_cells hmw)
        | (refine Calls.mono hc1 ?_; rintro e wb ⟨sb', rfl, sb, nb, bb⟩; obtain ⟨bo, bc, rfl⟩ := sb.slice))
      go_roundw
      case rel => exact ⟨i + 1, by omega, by go_num, by rw [hm2]; exact hST.imp (fun _ => trivial)⟩
      case measure => simp [intOf]; omega
    · have e : i = k := by omega
      subst e
      obtain ⟨o0, o1, o2, f0, f1, f2⟩ := mat_cells hI.out
      have HE2 := hI.ends hNw hsee (fun b hb => (hbl b hb).2.2.1) (.int .i64 (R i)) (.int .i64 (C i)) (.slice ro (xs i).length rc)
      have HN2 : 0 < i → New w.heap.size (.slice ro (xs i).length rc) := fun h0 b hb => (hbl b hb).2.2.2.2 h0
      clear hI
      go_wp2
      refine bodyPost_ret (v := .agg #[.int .i64 (R i), .int .i64 (C i), .slice ro (xs i).length rc]) (by simp [results, Tryz.results17, go_sem, o0, o1, o2]) rfl ?_
      exact ⟨_, rfl, HE2.1, HN2, HE2.2⟩
end Go.Proofs.YtiniobcknmaigaaGreat

/-
  The contracts of the code's steps (closures over a matrix, or a number), and of what makes them.
-/
namespace Go.Proofs.YtiniobcknmaigaaGreat
open Go.RowKit Go.Sort Qm

theorem enters_left : ∀ (args : Array Value) (a : World), Sem.run Tryz.prog (callFunc 48 args) a = Result.ok (Next.enter 48 args) a := by
  intro args a
  simp [callFunc, Tryz.func48, go_sem]
  rfl
set_option maxRecDepth 20000 in
set_option maxHeartbeats 800000 in
theorem left1_any (R N C : Nat) (r1 : 1 ≤ R) (hR : R ≤ 8) (n1 : 1 ≤ N) (hN : N ≤ 8) (c1 : 1 ≤ C) (hC : C ≤ 8) (A : Nat) (va vm : Value) (xs ys : List Int) (hx : xs.length = R * N) (hy : ys.length = N * C) (w : World) (hA : w.heap[A]? = some (.cells #[.int .i64 R, .int .i64 N, va] 24 (0, 0))) (sa : Sees w va xs) (sm : Sees w vm ys) :
    Calls Tryz.prog 48 #[.agg #[.int .i64 N, .int .i64 C, vm], .pointer (some ⟨A, 0, none⟩)] w fun e b => ∃ s', e = .returned (.tuple #[.agg #[.int .i64 R, .int .i64 C, s'], .bool (prdB R N C xs ys), .int .i64 0]) ∧ Sees b s' (prd R N C xs ys) ∧ New w.heap.size s' ∧ Below w.heap.size w b := by
  obtain ⟨ao, acap, rfl⟩ := sa.slice
  obtain ⟨mo, mcap, rfl⟩ := sm.slice
  obtain ⟨W, hW⟩ : ∃ W, (w.alloc (.cells #[.int .i64 N, .int .i64 C, .slice mo ys.length mcap] 24)).alloc (.cells #[.int .i64 0, .int .i64 0, .slice none 0 0] 24) = W := ⟨_, rfl⟩
  obtain ⟨x1, x2⟩ := allocs2 w (.cells #[.int .i64 N, .int .i64 C, .slice mo ys.length mcap] 24) (.cells #[.int .i64 0, .int .i64 0, .slice none 0 0] 24)
  have bW := ball2 w (.cells #[.int .i64 N, .int .i64 C, .slice mo ys.length mcap] 24) (.cells #[.int .i64 0, .int .i64 0, .slice none 0 0] 24)
  rw [hW] at x1 x2 bW
  obtain ⟨c0, c1', c2, _⟩ := mat_cells (keep bW hA)
  obtain ⟨d0, d1, d2, _⟩ := mat_cells x1
  have k1 := (mul_mat R N C r1 hR n1 hN c1 hC _ _ xs ys hx hy W (sa.below bW) (sm.below bW))
  have HW : Hid (_ = W) := hW
  have HWs : Hid (w.heap.size + 2 = W.heap.size) := by rw [← hW]; simp [Hid]
  generalize prd R N C xs ys = zs at k1 ⊢
  generalize prdB R N C xs ys = fl at k1 ⊢
  clear hx hy
  go_enter Tryz.func48, Tryz.ntmps48
  go_wp2_with (go_at_call 49; refine k1.mono ?_; rintro e wx ⟨vx, rfl, sx, nx, bx⟩; obtain ⟨xo, xc, rfl⟩ := sx.slice; obtain ⟨e0, e1, e2, f0, f1, f2⟩ := mat_cells (keep bx x2))
  refine bodyPost_ret (v := .tuple #[.agg #[.int .i64 R, .int .i64 C, .slice xo zs.length xc], .bool fl, .int .i64 0]) (by simp [results, Tryz.results48, go_sem, e0, e1, e2]) rfl ?_
  exact ⟨_, rfl, sx.put nx (lt_of_block x2) _ _ _, nx.mono bW.size, below_put (bt bW bx) (Nat.le_succ _) _ _ _⟩
theorem left_any (r c : Int) (ao : Option Addr) (n cap : Nat) (w : World) :
    Calls Tryz.prog 19 #[.agg #[.int .i64 r, .int .i64 c, .slice ao n cap]] w fun e b => e = .returned (.func (.func 48) #[] #[.pointer (some ⟨w.heap.size, 0, none⟩)]) ∧ b = w.alloc (.cells #[.int .i64 r, .int .i64 c, .slice ao n cap] 24) := by
  go_enter Tryz.func19, Tryz.ntmps19
  go_wp2
  go_ret
  exact ⟨rfl, rfl⟩
theorem enters_rght : ∀ (args : Array Value) (a : World), Sem.run Tryz.prog (callFunc 50 args) a = Result.ok (Next.enter 50 args) a := by
  intro args a
  simp [callFunc, Tryz.func50, go_sem]
  rfl
set_option maxRecDepth 20000 in
set_option maxHeartbeats 800000 in
theorem rght1_any (R N C : Nat) (r1 : 1 ≤ R) (hR : R ≤ 8) (n1 : 1 ≤ N) (hN : N ≤ 8) (c1 : 1 ≤ C) (hC : C ≤ 8) (A : Nat) (va vm : Value) (xs ys : List Int) (hx : xs.length = N * C) (hy : ys.length = R * N) (w : World) (hA : w.heap[A]? = some (.cells #[.int .i64 N, .int .i64 C, va] 24 (0, 0))) (sa : Sees w va xs) (sm : Sees w vm ys) :
    Calls Tryz.prog 50 #[.agg #[.int .i64 R, .int .i64 N, vm], .pointer (some ⟨A, 0, none⟩)] w fun e b => ∃ s', e = .returned (.tuple #[.agg #[.int .i64 R, .int .i64 C, s'], .bool (prdB R N C ys xs), .int .i64 0]) ∧ Sees b s' (prd R N C ys xs) ∧ New w.heap.size s' ∧ Below w.heap.size w b := by
  obtain ⟨ao, acap, rfl⟩ := sa.slice
  obtain ⟨mo, mcap, rfl⟩ := sm.slice
  obtain ⟨W, hW⟩ : ∃ W, (w.alloc (.cells #[.int .i64 R, .int .i64 N, .slice mo ys.length mcap] 24)).alloc (.cells #[.int .i64 0, .int .i64 0, .slice none 0 0] 24) = W := ⟨_, rfl⟩
  obtain ⟨x1, x2⟩ := allocs2 w (.cells #[.int .i64 R, .int .i64 N, .slice mo ys.length mcap] 24) (.cells #[.int .i64 0, .int .i64 0, .slice none 0 0] 24)
  have bW := ball2 w (.cells #[.int .i64 R, .int .i64 N, .slice mo ys.length mcap] 24) (.cells #[.int .i64 0, .int .i64 0, .slice none 0 0] 24)
  rw [hW] at x1 x2 bW
  obtain ⟨c0, c1', c2, _⟩ := mat_cells (keep bW hA)
  obtain ⟨d0, d1, d2, _⟩ := mat_cells x1
  have k1 := (mul_mat R N C r1 hR n1 hN c1 hC _ _ ys xs hy hx W (sm.below bW) (sa.below bW))
  have HW : Hid (_ = W) := hW
  have HWs : Hid (w.heap.size + 2 = W.heap.size) := by rw [← hW]; simp [Hid]
  generalize prd R N C ys xs = zs at k1 ⊢
  generalize prdB R N C ys xs = fl at k1 ⊢
  clear hx hy
  go_enter Tryz.func50, Tryz.ntmps50
  go_wp2_with (go_at_call 49; refine k1.mono ?_; rintro e wx ⟨vx, rfl, sx, nx, bx⟩; obtain ⟨xo, xc, rfl⟩ := sx.slice; obtain ⟨e0, e1, e2, f0, f1, f2⟩ := mat_cells (keep bx x2))
  refine bodyPost_ret (v := .tuple #[.agg #[.int .i64 R, .int .i64 C, .slice xo zs.length xc], .bool fl, .int .i64 0]) (by simp [results, Tryz.results50, go_sem, e0, e1, e2]) rfl ?_
  exact ⟨_, rfl, sx.put nx (lt_of_block x2) _ _ _, nx.mono bW.size, below_put (bt bW bx) (Nat.le_succ _) _ _ _⟩
theorem rght_any (r c : Int) (ao : Option Addr) (n cap : Nat) (w : World) :
    Calls Tryz.prog 20 #[.agg #[.int .i64 r, .int .i64 c, .slice ao n cap]] w fun e b => e = .returned (.func (.func 50) #[] #[.pointer (some ⟨w.heap.size, 0, none⟩)]) ∧ b = w.alloc (.cells #[.int .i64 r, .int .i64 c, .slice ao n cap] 24) := by
  go_enter Tryz.func20, Tryz.ntmps20
  go_wp2
  go_ret
  exact ⟨rfl, rfl⟩
theorem enters_plus : ∀ (args : Array Value) (a : World), Sem.run Tryz.prog (callFunc 57 args) a = Result.ok (Next.enter 57 args) a := by
  intro args a
  simp [callFunc, Tryz.func57, go_sem]
  rfl
set_option maxRecDepth 20000 in
set_option maxHeartbeats 800000 in
theorem plus1_any (R C : Nat) (r1 : 1 ≤ R) (hR : R ≤ 8) (c1 : 1 ≤ C) (hC : C ≤ 8) (A : Nat) (va vm : Value) (xs ys : List Int) (hx : xs.length = R * C) (hy : ys.length = R * C) (w : World) (hA : w.heap[A]? = some (.cells #[.int .i64 R, .int .i64 C, va] 24 (0, 0))) (sa : Sees w va xs) (sm : Sees w vm ys) :
    Calls Tryz.prog 57 #[.agg #[.int .i64 R, .int .i64 C, vm], .pointer (some ⟨A, 0, none⟩)] w fun e b => ∃ s', e = .returned (.tuple #[.agg #[.int .i64 R, .int .i64 C, s'], .bool (paiB addB xs ys), .int .i64 0]) ∧ Sees b s' (pai add xs ys) ∧ New w.heap.size s' ∧ Below w.heap.size w b := by
  obtain ⟨ao, acap, rfl⟩ := sa.slice
  obtain ⟨mo, mcap, rfl⟩ := sm.slice
  obtain ⟨W, hW⟩ : ∃ W, (w.alloc (.cells #[.int .i64 R, .int .i64 C, .slice mo ys.length mcap] 24)).alloc (.cells #[.int .i64 0, .int .i64 0, .slice none 0 0] 24) = W := ⟨_, rfl⟩
  obtain ⟨x1, x2⟩ := allocs2 w (.cells #[.int .i64 R, .int .i64 C, .slice mo ys.length mcap] 24) (.cells #[.int .i64 0, .int .i64 0, .slice none 0 0] 24)
  have bW := ball2 w (.cells #[.int .i64 R, .int .i64 C, .slice mo ys.length mcap] 24) (.cells #[.int .i64 0, .int .i64 0, .slice none 0 0] 24)
  rw [hW] at x1 x2 bW
  obtain ⟨c0, c1', c2, _⟩ := mat_cells (keep bW hA)
  obtain ⟨d0, d1, d2, _⟩ := mat_cells x1
  have k1 := (add_mat R C r1 hR c1 hC _ _ xs ys hx hy W (sa.below bW) (sm.below bW))
  have HW : Hid (_ = W) := hW
  have HWs : Hid (w.heap.size + 2 = W.heap.size) := by rw [← hW]; simp [Hid]
  generalize pai add xs ys = zs at k1 ⊢
  generalize paiB addB xs ys = fl at k1 ⊢
  clear hx hy
  go_enter Tryz.func57, Tryz.ntmps57
  go_wp2_with (go_at_call 58; refine k1.mono ?_; rintro e wx ⟨vx, rfl, sx, nx, bx⟩; obtain ⟨xo, xc, rfl⟩ := sx.slice; obtain ⟨e0, e1, e2, f0, f1, f2⟩ := mat_cells (keep bx x2))
  refine bodyPost_ret (v := .tuple #[.agg #[.int .i64 R, .int .i64 C, .slice xo zs.length xc], .bool fl, .int .i64 0]) (by simp [results, Tryz.results57, go_sem, e0, e1, e2]) rfl ?_
  exact ⟨_, rfl, sx.put nx (lt_of_block x2) _ _ _, nx.mono bW.size, below_put (bt bW bx) (Nat.le_succ _) _ _ _⟩
theorem plus_any (r c : Int) (ao : Option Addr) (n cap : Nat) (w : World) :
    Calls Tryz.prog 22 #[.agg #[.int .i64 r, .int .i64 c, .slice ao n cap]] w fun e b => e = .returned (.func (.func 57) #[] #[.pointer (some ⟨w.heap.size, 0, none⟩)]) ∧ b = w.alloc (.cells #[.int .i64 r, .int .i64 c, .slice ao n cap] 24) := by
  go_enter Tryz.func22, Tryz.ntmps22
  go_wp2
  go_ret
  exact ⟨rfl, rfl⟩
theorem enters_less : ∀ (args : Array Value) (a : World), Sem.run Tryz.prog (callFunc 103 args) a = Result.ok (Next.enter 103 args) a := by
  intro args a
  simp [callFunc, Tryz.func103, go_sem]
  rfl
set_option maxRecDepth 20000 in
set_option maxHeartbeats 800000 in
theorem less1_any (R C : Nat) (r1 : 1 ≤ R) (hR : R ≤ 8) (c1 : 1 ≤ C) (hC : C ≤ 8) (A : Nat) (va vm : Value) (xs ys : List Int) (hx : xs.length = R * C) (hy : ys.length = R * C) (w : World) (hA : w.heap[A]? = some (.cells #[.int .i64 R, .int .i64 C, va] 24 (0, 0))) (sa : Sees w va xs) (sm : Sees w vm ys) :
    Calls Tryz.prog 103 #[.agg #[.int .i64 R, .int .i64 C, vm], .pointer (some ⟨A, 0, none⟩)] w fun e b => ∃ s', e = .returned (.tuple #[.agg #[.int .i64 R, .int .i64 C, s'], .bool (paiB subB xs ys), .int .i64 0]) ∧ Sees b s' (pai sub xs ys) ∧ New w.heap.size s' ∧ Below w.heap.size w b := by
  obtain ⟨ao, acap, rfl⟩ := sa.slice
  obtain ⟨mo, mcap, rfl⟩ := sm.slice
  obtain ⟨W, hW⟩ : ∃ W, (w.alloc (.cells #[.int .i64 R, .int .i64 C, .slice mo ys.length mcap] 24)).alloc (.cells #[.int .i64 0, .int .i64 0, .slice none 0 0] 24) = W := ⟨_, rfl⟩
  obtain ⟨x1, x2⟩ := allocs2 w (.cells #[.int .i64 R, .int .i64 C, .slice mo ys.length mcap] 24) (.cells #[.int .i64 0, .int .i64 0, .slice none 0 0] 24)
  have bW := ball2 w (.cells #[.int .i64 R, .int .i64 C, .slice mo ys.length mcap] 24) (.cells #[.int .i64 0, .int .i64 0, .slice none 0 0] 24)
  rw [hW] at x1 x2 bW
  obtain ⟨c0, c1', c2, _⟩ := mat_cells (keep bW hA)
  obtain ⟨d0, d1, d2, _⟩ := mat_cells x1
  have k1 := (sub_mat R C r1 hR c1 hC _ _ xs ys hx hy W (sa.below bW) (sm.below bW))
  have HW : Hid (_ = W) := hW
  have HWs : Hid (w.heap.size + 2 = W.heap.size) := by rw [← hW]; simp [Hid]
  generalize pai sub xs ys = zs at k1 ⊢
  generalize paiB subB xs ys = fl at k1 ⊢
  clear hx hy
  go_enter Tryz.func103, Tryz.ntmps103
  go_wp2_with (go_at_call 104; refine k1.mono ?_; rintro e wx ⟨vx, rfl, sx, nx, bx⟩; obtain ⟨xo, xc, rfl⟩ := sx.slice; obtain ⟨e0, e1, e2, f0, f1, f2⟩ := mat_cells (keep bx x2))
  refine bodyPost_ret (v := .tuple #[.agg #[.int .i64 R, .int .i64 C, .slice xo zs.length xc], .bool fl, .int .i64 0]) (by simp [results, Tryz.results103, go_sem, e0, e1, e2]) rfl ?_
  exact ⟨_, rfl, sx.put nx (lt_of_block x2) _ _ _, nx.mono bW.size, below_put (bt bW bx) (Nat.le_succ _) _ _ _⟩
theorem less_any (r c : Int) (ao : Option Addr) (n cap : Nat) (w : World) :
    Calls Tryz.prog 68 #[.agg #[.int .i64 r, .int .i64 c, .slice ao n cap]] w fun e b => e = .returned (.func (.func 103) #[] #[.pointer (some ⟨w.heap.size, 0, none⟩)]) ∧ b = w.alloc (.cells #[.int .i64 r, .int .i64 c, .slice ao n cap] 24) := by
  go_enter Tryz.func68, Tryz.ntmps68
  go_wp2
  go_ret
  exact ⟨rfl, rfl⟩
end Go.Proofs.YtiniobcknmaigaaGreat
