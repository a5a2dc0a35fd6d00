/- Parts of the proof. -/
import Derived.StillTailTactics
import Derived.Test.YtoefekkdjcflmaaGreatDoorM09
import Derived.Test.YtoefekkdjcflmaaGreatDoorM11
namespace Go.Proofs.YtoefekkdjcflmaaGreatDoor
open Go.RowKit Go.Sort Qm
theorem enters73 : ∀ (args : Array Value) (a : World), Sem.run Tryz.prog (callFunc 174 args) a = Result.ok (Next.enter 174 args) a := by
  intro args a
  simp [callFunc, Tryz.func174, go_sem]
  rfl
theorem enters50 : ∀ (args : Array Value) (a : World), Sem.run Tryz.prog (callFunc 198 args) a = Result.ok (Next.enter 198 args) a := by
  intro args a
  simp [callFunc, Tryz.func198, go_sem]
  rfl
theorem enters53 : ∀ (args : Array Value) (a : World), Sem.run Tryz.prog (callFunc 140 args) a = Result.ok (Next.enter 140 args) a := by
  intro args a
  simp [callFunc, Tryz.func140, go_sem]
  rfl
namespace Qm
def dia (d : Nat → Int) (n : Nat) : List Int := tab (fun p => if p / n = p % n then d (p / n) else 0) (n * n)
end Qm
section
variable (H : Nat) (hH : ∀ (args : Array Value) (a : World), Sem.run Tryz.prog (callFunc H args) a = Result.ok (Next.enter H args) a) (caps : Array Value) (d : Nat → Int)
include hH
theorem diagonal1_any (i j : Nat) (T : Nat) (w : World) (hT : w.cell? ⟨T, 0, none⟩ = some (.func (.func H) #[] caps))
    (hc : Calls Tryz.prog H (#[.int .i64 i] ++ caps) w fun e b => e = .returned (.int .i64 (d i)) ∧ b = w) :
    Calls Tryz.prog 174 #[.int .i64 i, .int .i64 j, .pointer (some ⟨T, 0, none⟩)] w fun e w' => e = .returned (.int .i64 (if i = j then d i else 0)) ∧ w' = w := by
  by_cases h : i = j
  · rw [if_pos h]
    subst h
    go_enter Tryz.func174, Tryz.ntmps174
    go_wp2_with (refine Calls.mono hc ?_; rintro e w' ⟨rfl, rfl⟩)
    go_ret
    exact ⟨rfl, rfl⟩
  · rw [if_neg h]
    have e1 : ¬ ((i : Int) = (j : Int)) := by omega
    go_enter Tryz.func174, Tryz.ntmps174
    go_wp2
    go_ret
    exact ⟨rfl, rfl⟩
set_option maxHeartbeats 400000 in
theorem diagonal_any (n : Nat) (hn : n ≤ 8) (w : World) (hc : ∀ i a, i < n → Below w.heap.size w a → Calls Tryz.prog H (#[.int .i64 (i : Nat)] ++ caps) a fun e b => e = .returned (.int .i64 (d i)) ∧ b = a) :
    Calls Tryz.prog 139 #[.int .i64 n, .func (.func H) #[] caps] w fun e b => ∃ v, e = .returned (.agg #[.int .i64 n, .int .i64 n, v]) ∧ Sees b v (dia d n) ∧ New w.heap.size v ∧ Below w.heap.size w b := by
  obtain ⟨W, hW⟩ : ∃ W, (w.alloc (.cells #[.func (.func H) #[] caps] 163)).alloc (.cells #[.int .i64 0, .int .i64 0, .slice none 0 0] 29) = W := ⟨_, rfl⟩
  obtain ⟨x1, x2⟩ := allocs2 w (.cells #[.func (.func H) #[] caps] 163) (.cells #[.int .i64 0, .int .i64 0, .slice none 0 0] 29)
  have bW := ball2 w (.cells #[.func (.func H) #[] caps] 163) (.cells #[.int .i64 0, .int .i64 0, .slice none 0 0] 29)
  rw [hW] at x1 x2 bW
  have hf := fill_pure n n hn hn 174 enters73 #[.pointer (some ⟨w.heap.size, 0, none⟩)] (fun p => if p / n = p % n then d (p / n) else 0) W (by
    intro i j a hi hj hb
    have e1 : (i * n + j) % n = j := mod_of hj
    have e2 : (i * n + j) / n = i := div_of hj
    simp only [e1, e2]
    refine (diagonal1_any H hH caps d i j w.heap.size a (cell_of_one (keep hb x1)) (hc i a hi (bt bW hb))).mono ?_
    rintro e b ⟨rfl, rfl⟩
    exact ⟨rfl, Below.refl _ _⟩)
  change Calls Tryz.prog 161 _ W (fun e b => ∃ v, _ ∧ Sees b v (dia d n) ∧ _) at hf
  rw [← hW] at hf x1 x2 bW
  clear hc hH hW
  go_enter Tryz.func139, Tryz.ntmps139
  go_wp2_with (go_at_call 161; refine hf.mono ?_; rintro e w4 ⟨v4, rfl, s4, n4, b4⟩; obtain ⟨ao4, cap4, rfl⟩ := s4.slice; obtain ⟨f0, f1, f2, k0, k1, k2⟩ := mat_cells (keep b4 x2))
  refine bodyPost_ret (v := .agg #[.int .i64 n, .int .i64 n, .slice ao4 (dia d n).length cap4]) (by simp [results, Tryz.results139, go_sem, f0, f1, f2]) rfl ?_
  exact ⟨_, rfl, s4.put n4 (lt_of_block x2) _ _ _, n4.mono bW.size, below_put (bt bW b4) (by omega) _ _ _⟩
end
theorem eye1_any (i : Int) (w : World) : Calls Tryz.prog 198 (#[.int .i64 i] ++ #[]) w fun e b => e = .returned (.int .i64 16777216) ∧ b = w := by
  show Calls Tryz.prog 198 #[.int .i64 i] w _
  go_enter Tryz.func198, Tryz.ntmps198
  go_wp2
  go_ret
  exact ⟨rfl, rfl⟩
theorem diag1_any (i : Nat) (L : Nat) (v : Value) (xs : List Int) (w : World) (hi : i < xs.length) (hL : w.cell? ⟨L, 0, none⟩ = some v) (hs : Sees w v xs) :
    Calls Tryz.prog 140 (#[.int .i64 i] ++ #[.pointer (some ⟨L, 0, none⟩)]) w fun e b => e = .returned (.int .i64 (ge xs i)) ∧ b = w := by
  show Calls Tryz.prog 140 #[.int .i64 i, .pointer (some ⟨L, 0, none⟩)] w _
  obtain ⟨ao, cap, rfl, hc⟩ := hs
  obtain ⟨ad, rfl, _, hcell⟩ := hc i hi
  clear hc
  go_enter Tryz.func140, Tryz.ntmps140
  go_wp2
  go_ret
  exact ⟨rfl, rfl⟩
set_option maxHeartbeats 400000 in
theorem eye_any (n : Nat) (h1 : 1 ≤ n) (hn : n ≤ 8) (w : World) :
    Calls Tryz.prog 190 #[.int .i64 n] w fun e b => ∃ v, e = .returned (.tuple #[.agg #[.int .i64 n, .int .i64 n, v], .int .i64 0]) ∧ Sees b v (dia (fun _ => 16777216) n) ∧ New w.heap.size v ∧ Below w.heap.size w b := by
  have hk : cntB n = true := cntB_t (by omega) (by omega)
  have hd := fun W => diagonal_any 198 enters50 #[] (fun _ => 16777216) n hn W (fun i a _ _ => eye1_any i a)
  go_enter Tryz.func190, Tryz.ntmps190
  go_wp2_with (first
    | (go_at_call 137; refine (mayCount_any _ _).mono ?_; rintro e w' ⟨rfl, rfl⟩)
    | (go_at_call 139; refine (hd _).mono ?_; rintro e w4 ⟨v4, rfl, s4, n4, b4⟩; have r3 := heap_new w (.cells #[.int .i64 0, .int .i64 0, .slice none 0 0] 29); obtain ⟨ao4, cap4, rfl⟩ := s4.slice; obtain ⟨f0, f1, f2, k0, k1, k2⟩ := mat_cells (keep b4 r3)))
  refine bodyPost_ret (v := .tuple #[.agg #[.int .i64 n, .int .i64 n, .slice ao4 (dia (fun _ => 16777216) n).length cap4], .int .i64 0]) (by simp [results, Tryz.results190, go_sem, f0, f1, f2]) rfl ?_
  exact ⟨_, rfl, s4.put n4 (lt_of_block r3) _ _ _, n4.mono (box_below _ _).size, below_put (bt (box_below _ _) b4) (Nat.le_refl _) _ _ _⟩
set_option maxHeartbeats 400000 in
theorem diag_any (v : Value) (xs : List Int) (h1 : 1 ≤ xs.length) (hn : xs.length ≤ 8) (ho : outB xs xs.length = false) (w : World) (hs : Sees w v xs) :
    Calls Tryz.prog 84 #[v] w fun e b => ∃ v, e = .returned (.tuple #[.agg #[.int .i64 (xs.length : Nat), .int .i64 (xs.length : Nat), v], .int .i64 0]) ∧ Sees b v (dia (ge xs) xs.length) ∧ New w.heap.size v ∧ Below w.heap.size w b := by
  obtain ⟨ao, cap, rfl⟩ := hs.slice
  have hk : cntB (xs.length : Int) = true := cntB_t (by omega) (by omega)
  have bW := ball2 w (.cells #[.slice ao xs.length cap] 27) (.cells #[.int .i64 0, .int .i64 0, .slice none 0 0] 29)
  obtain ⟨x1, x2⟩ := allocs2 w (.cells #[.slice ao xs.length cap] 27) (.cells #[.int .i64 0, .int .i64 0, .slice none 0 0] 29)
  have hct := contains_any (.slice ao xs.length cap) xs _ (by omega) (hs.below bW)
  have hd := diagonal_any 140 enters53 #[.pointer (some ⟨w.heap.size, 0, none⟩)] (ge xs) xs.length hn _ (fun i a hi hb => diag1_any i w.heap.size (.slice ao xs.length cap) xs a hi (cell_of_one (keep hb x1)) (hs.below (bt bW hb)))
  rw [ho] at hct
  go_enter Tryz.func84, Tryz.ntmps84
  go_wp2_with (first
    | (go_at_call 137; refine (mayCount_any _ _).mono ?_; rintro e w' ⟨rfl, rfl⟩)
    | (go_at_call 41; refine hct.mono ?_; rintro e w' ⟨rfl, rfl⟩)
    | (go_at_call 139; refine hd.mono ?_; rintro e w4 ⟨v4, rfl, s4, n4, b4⟩; obtain ⟨ao4, cap4, rfl⟩ := s4.slice; obtain ⟨f0, f1, f2, k0, k1, k2⟩ := mat_cells (keep b4 x2)))
  refine bodyPost_ret (v := .tuple #[.agg #[.int .i64 (xs.length : Nat), .int .i64 (xs.length : Nat), .slice ao4 (dia (ge xs) xs.length).length cap4], .int .i64 0]) (by simp [results, Tryz.results84, go_sem, f0, f1, f2]) rfl ?_
  exact ⟨_, rfl, s4.put n4 (lt_of_block x2) _ _ _, n4.mono bW.size, below_put (bt bW b4) (by omega) _ _ _⟩
end Go.Proofs.YtoefekkdjcflmaaGreatDoor
namespace Go.Proofs.YtoefekkdjcflmaaGreatDoor
open Go.RowKit Go.Sort Qm
structure IsRight (r c : Int) (xs : List Int) (R C : Nat) : Prop where
  hr : r = R
  hc : c = C
  r1 : 1 ≤ R
  r8 : R ≤ 8
  c1 : 1 ≤ C
  c8 : C ≤ 8
  len : xs.length = R * C
  ins : AllIn xs
theorem right_of {r c : Int} {xs : List Int} (h : rightB r c xs = true) : ∃ R C, IsRight r c xs R C := by
  unfold rightB at h
  simp only [Bool.and_eq_true, Bool.not_eq_true'] at h
  obtain ⟨R, C, h1, h2, h3, h4, h5, h6, h7⟩ := laidB_in h.1
  refine ⟨R, C, h1, h2, h3, h4, h5, h6, h7, fun k => ?_⟩
  by_cases hk : k < xs.length
  · have := anyB_of h.2 k hk
    unfold ob at this
    simp only [Bool.or_eq_false_iff, decide_eq_false_iff_not] at this
    omega
  · have e : ge xs k = 0 := by unfold ge; rw [List.getD_eq_getElem?_getD, List.getElem?_eq_none (by omega)]; rfl
    rw [e]; omega
theorem pai_len (t : Int → Int → Int) (xs ys : List Int) : (pai t xs ys).length = xs.length := tab_len _ _
theorem prd_len (r n c : Nat) (xs ys : List Int) : (prd r n c xs ys).length = r * c := tab_len _ _
theorem two_cells {w : World} {b : Nat} {x y : Value} {T : TypeId} (h : w.heap[b]? = some (.cells #[x, y] T (0, 0))) :
    w.cell? ⟨b, 0, none⟩ = some x ∧ w.cell? ⟨b, 1, none⟩ = some y ∧ w.frozen? ⟨b, 0, none⟩ = false ∧ w.frozen? ⟨b, 1, none⟩ = false := by
  simp [World.cell?, World.frozen?, h]
theorem put_two {w : World} {b : Nat} {x y x' y' : Value} {t : TypeId} (h : w.heap[b]? = some (.cells #[x, y] t (0, 0))) :
    ((w.setCell ⟨b, 0, none⟩ x').setCell ⟨b, 1, none⟩ y').heap[b]? = some (.cells #[x', y'] t (0, 0)) := by
  have h1 := heap_setCell_same w b 0 #[x, y] t x' h
  exact heap_setCell_same _ b 1 _ t y' h1
theorem gb_set {w w' : World} {N : Nat} (h : w.grownBy w' (some N)) (k : Nat) (v : Value) : w.grownBy (w'.setCell ⟨N, k, none⟩ v) (some N) :=
  ⟨h.os, h.tape, h.output, by simpa [World.setCell] using h.size, fun i hi hn => by rw [Below.heap_setCell _ _ _ _ (fun e => hn (by rw [e]))]; exact h.block i hi hn⟩
theorem enters_keep : ∀ (args : Array Value) (a : World), Sem.run Tryz.prog (callFunc 112 args) a = Result.ok (Next.enter 112 args) a := by
  intro args a
  simp [callFunc, Tryz.func112, go_sem]
  rfl
set_option maxHeartbeats 400000 in
theorem keep_any (N : Nat) (m b : Bool) (w : World) (hN : w.heap[N]? = some (.cells #[.bool m, .int .i64 0] 141 (0, 0))) :
    Calls Tryz.prog 112 #[.pointer (some ⟨N, 0, none⟩), .bool b, .int .i64 0] w fun e w' => e = .returned (.tuple #[]) ∧
      w'.heap[N]? = some (.cells #[.bool (m || b), .int .i64 0] 141 (0, 0)) ∧ w.grownBy w' (some N) := by
  obtain ⟨c0, c1, f0, f1⟩ := two_cells hN
  have e1 := put_two (x' := .bool (m || b)) (y' := .int .i64 0) hN
  have e2 := gb_set (gb_set (gb_refl w (some N)) 0 (.bool (m || b))) 1 (.int .i64 0)
  cases m
  all_goals
    simp only [Bool.false_or, Bool.true_or] at e1 e2 ⊢
    go_enter Tryz.func112, Tryz.ntmps112
    go_wp2
    refine bodyPost_end (v := .tuple #[]) (by simp [results, Tryz.results112, go_sem]) rfl ?_
    exact ⟨rfl, e1, e2⟩
theorem Sees.agree {w w' : World} {v : Value} {xs : List Int} (h : Sees w v xs) (hz : w.heap.size ≤ w'.heap.size) (hb : ∀ k, v.ownBlock = some k → w'.heap[k]? = w.heap[k]?) : Sees w' v xs := by
  obtain ⟨ao, cap, rfl, hc⟩ := h
  refine ⟨ao, cap, rfl, fun k hk => ?_⟩
  obtain ⟨ad, rfl, h1, h2⟩ := hc k hk
  refine ⟨ad, rfl, Nat.lt_of_lt_of_le h1 hz, ?_⟩
  rw [World.cell?_of_block (w := w) (by rw [add_block]; exact hb ad.block rfl)]; exact h2
structure RkI (w : World) (N : Nat) (m : Bool) (r c : Nat) (xs : List Int) (f : Prop) (wr : World) : Prop where
  mod : Mod (fun b => b = N) w wr
  size : w.heap.size + 2 ≤ wr.heap.size
  out : wr.heap[w.heap.size + 1]? = some (.cells #[.int .i64 0, .int .i64 0, .slice none 0 0] 29 (0, 0))
  note : wr.heap[N]? = some (.cells #[.bool m, .int .i64 0] 141 (0, 0))
  mat : ∃ ao cap, wr.heap[w.heap.size]? = some (.cells #[.int .i64 r, .int .i64 c, .slice ao xs.length cap] 29 (0, 0)) ∧ Sees wr (.slice ao xs.length cap) xs ∧ ∀ b, (Value.slice ao xs.length cap).ownBlock = some b → b ≠ N ∧ b ≠ w.heap.size ∧ b ≠ w.heap.size + 1 ∧ b < wr.heap.size ∧ (f → w.heap.size ≤ b)
theorem RkI.start {w : World} {N : Nat} {m : Bool} {r c : Nat} {xs : List Int} {ao : Option Addr} {cap : Nat} (hN : w.heap[N]? = some (.cells #[.bool m, .int .i64 0] 141 (0, 0)))
    (hs : Sees w (.slice ao xs.length cap) xs) (hne : ∀ b, (Value.slice ao xs.length cap).ownBlock = some b → b ≠ N ∧ b < w.heap.size) :
    RkI w N m r c xs False ((w.alloc (.cells #[.int .i64 r, .int .i64 c, .slice ao xs.length cap] 29)).alloc (.cells #[.int .i64 0, .int .i64 0, .slice none 0 0] 29)) := by
  have x := allocs2 w (.cells #[.int .i64 r, .int .i64 c, .slice ao xs.length cap] 29) (.cells #[.int .i64 0, .int .i64 0, .slice none 0 0] 29)
  have b := ball2 w (.cells #[.int .i64 r, .int .i64 c, .slice ao xs.length cap] 29) (.cells #[.int .i64 0, .int .i64 0, .slice none 0 0] 29)
  refine ⟨Mod.of b, by simp, x.2, keep b hN, ao, cap, x.1, hs.below b, fun k hk => ?_⟩
  have := hne k hk
  refine ⟨this.1, by omega, by omega, ?_, False.elim⟩
  have := b.size; omega
theorem RkI.step {w wr wb wc : World} {N : Nat} {m m' : Bool} {r c r' c' : Nat} {xs ys : List Int} {f : Prop} {ao : Option Addr} {cap : Nat} (hNw : N < w.heap.size) (h : RkI w N m r c xs f wr) (hb : Below wr.heap.size wr wb)
    (hs : Sees wb (.slice ao ys.length cap) ys) (hn : New wr.heap.size (.slice ao ys.length cap)) (hl : ∀ b, (Value.slice ao ys.length cap).ownBlock = some b → b < wb.heap.size)
    (hg : (wb.alloc (.cells #[.int .i64 r', .int .i64 c', .slice ao ys.length cap] 29)).grownBy wc (some N)) (hN : wc.heap[N]? = some (.cells #[.bool m', .int .i64 0] 141 (0, 0))) :
    RkI w N m' r' c' ys True (((wc.setCell ⟨w.heap.size, 0, none⟩ (.int .i64 r')).setCell ⟨w.heap.size, 1, none⟩ (.int .i64 c')).setCell ⟨w.heap.size, 2, none⟩ (.slice ao ys.length cap)) := by
  obtain ⟨h1, h2, h3, h4, ao0, cap0, h5, _, _⟩ := h
  have hm : Mod (fun b => b = N) wr wc := (Mod.of (bt hb (box_below wb (.cells #[.int .i64 r', .int .i64 c', .slice ao ys.length cap] 29)))).trans (Mod.ofGb hg)
  have e5 : wc.heap[w.heap.size]? = some (.cells #[.int .i64 r, .int .i64 c, .slice ao0 xs.length cap0] 29 (0, 0)) := (hm.block _ (by omega) (by omega)).trans h5
  have hsz : wc.heap.size ≤ (((wc.setCell ⟨w.heap.size, 0, none⟩ (.int .i64 r')).setCell ⟨w.heap.size, 1, none⟩ (.int .i64 c')).setCell ⟨w.heap.size, 2, none⟩ (.slice ao ys.length cap)).heap.size := by simp [World.setCell]
  have hoff : ∀ k, k ≠ w.heap.size → (((wc.setCell ⟨w.heap.size, 0, none⟩ (.int .i64 r')).setCell ⟨w.heap.size, 1, none⟩ (.int .i64 c')).setCell ⟨w.heap.size, 2, none⟩ (.slice ao ys.length cap)).heap[k]? = wc.heap[k]? := by
    intro k hk
    rw [Below.heap_setCell _ _ _ _ hk, Below.heap_setCell _ _ _ _ hk, Below.heap_setCell _ _ _ _ hk]
  have hza : wb.heap.size ≤ wc.heap.size := Nat.le_trans (by simp) hg.size
  have hbl : ∀ b, (Value.slice ao ys.length cap).ownBlock = some b → b ≠ N ∧ b ≠ w.heap.size ∧ b ≠ w.heap.size + 1 ∧ b < wc.heap.size := fun b hb' => by
    have := hn b hb'; have := hl b hb'
    refine ⟨?_, ?_, ?_, ?_⟩ <;> omega
  refine ⟨?_, by have := hm.size; omega, ?_, ?_, ao, cap, put_mat e5, ?_, fun b hb' => ?_⟩
  · have h6 := h1.trans hm
    refine ⟨h6.os, h6.tape, h6.output, Nat.le_trans h6.size hsz, fun k hk hk' => ?_⟩
    rw [hoff k (by omega)]; exact h6.block k hk hk'
  · rw [hoff _ (by omega)]; exact (hm.block _ (by omega) (by omega)).trans h3
  · rw [hoff _ (by omega)]; exact hN
  · have hs1 : Sees wc (.slice ao ys.length cap) ys := (hs.alloc (.cells #[.int .i64 r', .int .i64 c', .slice ao ys.length cap] 29)).agree hg.size fun k hk => by
      have := hbl k hk; have := hl k hk
      exact hg.block k (by simp; omega) (fun e => (hbl k hk).1 (by injection e))
    exact hs1.agree hsz fun k hk => hoff k (hbl k hk).2.1
  · have := hbl b hb'
    have h9 := hn b hb'
    exact ⟨this.1, this.2.1, this.2.2.1, Nat.lt_of_lt_of_le this.2.2.2 hsz, fun _ => by omega⟩
end Go.Proofs.YtoefekkdjcflmaaGreatDoor
namespace Go.Proofs.YtoefekkdjcflmaaGreatDoor.Et
open Go.RowKit Go.Sort Qm
def Wk (n : Nat) (w : World) (W : Nat) (f : Nat → Value) : Prop := ∃ cs t, w.heap[W]? = some (.cells cs t (0, 0)) ∧ n ≤ cs.size ∧ ∀ k, k < n → cs[k]? = some (f k)
def up (f : Nat → Value) (k : Nat) (v : Value) (j : Nat) : Value := if j = k then v else f j
theorem up_at (f : Nat → Value) (k : Nat) (v : Value) : up f k v k = v := if_pos rfl
theorem up_ne {f : Nat → Value} {k : Nat} {v : Value} {j : Nat} (h : j ≠ k) : up f k v j = f j := if_neg h
theorem Wk.lt {n : Nat} {w : World} {W : Nat} {f : Nat → Value} (h : Wk n w W f) : W < w.heap.size := by
  obtain ⟨cs, t, h1, _⟩ := h
  exact lt_of_block h1
theorem Wk.cell {n : Nat} {w : World} {W : Nat} {f : Nat → Value} (h : Wk n w W f) {k : Nat} (hk : k < n) {v : Value} (hv : f k = v) : w.cell? ⟨W, k, none⟩ = some v := by
  obtain ⟨cs, t, h1, _, h3⟩ := h
  subst hv
  simp [World.cell?, h1, h3 k hk]
theorem Wk.frozen {n : Nat} {w : World} {W : Nat} {f : Nat → Value} (h : Wk n w W f) (k : Nat) : w.frozen? ⟨W, k, none⟩ = false := by
  obtain ⟨cs, t, h1, _, h3⟩ := h
  simp [World.frozen?, h1]
theorem Wk.set {n : Nat} {w : World} {W : Nat} {f : Nat → Value} (h : Wk n w W f) (k : Nat) (v : Value) : Wk n (w.setCell ⟨W, k, none⟩ v) W (up f k v) := by
  have hlt := h.lt
  obtain ⟨cs, t, h1, h2, h3⟩ := h
  refine ⟨cs.setIfInBounds k v, t, ?_, by simpa using h2, fun j hj => ?_⟩
  · have h1' := h1
    rw [Array.getElem?_eq_getElem hlt] at h1'
    have h1'' := Option.some.inj h1'
    simp [World.setCell, hlt, Array.getElem_modify, h1'']
  · by_cases e : j = k
    · subst e
      rw [up_at, Array.getElem?_setIfInBounds_self, if_pos (by omega)]
    · rw [up_ne e, Array.getElem?_setIfInBounds_ne (fun x => e x.symm)]
      exact h3 j hj
theorem Wk.mod {n : Nat} {w w' : World} {W : Nat} {f : Nat → Value} {M : Nat → Prop} (h : Wk n w W f) (hm : Mod M w w') (hM : ¬ M W) : Wk n w' W f := by
  have hlt := h.lt
  obtain ⟨cs, t, h1, h2, h3⟩ := h
  exact ⟨cs, t, (hm.block W hlt hM).trans h1, h2, h3⟩
theorem Wk.below {n : Nat} {w w' : World} {W : Nat} {f : Nat → Value} (h : Wk n w W f) (hb : Below w.heap.size w w') : Wk n w' W f := h.mod (Mod.of (M := fun _ => False) hb) (fun h => h)
theorem mod_set {w : World} {W k : Nat} {v : Value} : Mod (fun b => b = W) w (w.setCell ⟨W, k, none⟩ v) := Mod.ofGb (gb_set (gb_refl w (some W)) k v)
structure Ax (w : World) (W lo : Nat) (f : Nat → Value) (b : Nat) (xs ps : List Int) : Prop where
  r : f b = .int .i64 3
  c : f (b + 1) = .int .i64 1
  r' : f (b + 3) = .int .i64 3
  c' : f (b + 4) = .int .i64 3
  x : Sees w (f (b + 2)) xs
  p : Sees w (f (b + 5)) ps
  xl : xs.length = 3
  pl : ps.length = 9
  xn : ∀ k, (f (b + 2)).ownBlock = some k → k < lo ∨ W < k
  pn : ∀ k, (f (b + 5)).ownBlock = some k → k < lo ∨ W < k
theorem Ax.mod {w w' : World} {W lo : Nat} {f : Nat → Value} {b : Nat} {xs ps : List Int} (h : Ax w W lo f b xs ps) (hlo : lo ≤ W) (hm : Mod (fun b => b = W) w w') : Ax w' W lo f b xs ps := by
  have l1 := h.x.lt (by rw [h.xl]; decide)
  have l2 := h.p.lt (by rw [h.pl]; decide)
  exact ⟨h.r, h.c, h.r', h.c', h.x.agree hm.size fun k hk => hm.block k (l1 k hk) (by have := h.xn k hk; omega), h.p.agree hm.size fun k hk => hm.block k (l2 k hk) (by have := h.pn k hk; omega), h.xl, h.pl, h.xn, h.pn⟩
theorem Ax.up {w : World} {W lo : Nat} {f : Nat → Value} {b : Nat} {xs ps : List Int} (h : Ax w W lo f b xs ps) {k : Nat} (hk : k < b ∨ b + 5 < k) (v : Value) : Ax w W lo (up f k v) b xs ps := by
  have e0 : Et.up f k v b = f b := up_ne (by omega)
  have e1 : Et.up f k v (b + 1) = f (b + 1) := up_ne (by omega)
  have e2 : Et.up f k v (b + 2) = f (b + 2) := up_ne (by omega)
  have e3 : Et.up f k v (b + 3) = f (b + 3) := up_ne (by omega)
  have e4 : Et.up f k v (b + 4) = f (b + 4) := up_ne (by omega)
  have e5 : Et.up f k v (b + 5) = f (b + 5) := up_ne (by omega)
  exact ⟨by rw [e0]; exact h.r, by rw [e1]; exact h.c, by rw [e3]; exact h.r', by rw [e4]; exact h.c', by rw [e2]; exact h.x, by rw [e5]; exact h.p, h.xl, h.pl, by rw [e2]; exact h.xn, by rw [e5]; exact h.pn⟩
structure Sg where
  c : Nat → Int
  ms : Bool
  hb : Bool
  hg : Bool
  gy : Nat → Int
  ac : Nat → Int
  gn : Nat → Int
  br : Int
  tu : Nat → Int
  X : Nat → List Int
  P : Nat → List Int
  st : Int
  co : Int
  off : Nat → Int
  sat : Bool
  a : Nat → Int
  lo : Nat
def at' {α : Type} (f : Nat → α) (k : Nat) (v : α) (j : Nat) : α := if j = k then v else f j
structure Stf (w : World) (W : Nat) (s : Sg) (f : Nat → Value) : Prop where
  wk : Wk 51 w W f
  c : ∀ k, k < 6 → f k = .int .i64 (s.c k)
  ms : f 6 = .bool s.ms
  gy : ∀ k, k < 3 → f (7 + k) = .int .i64 (s.gy k)
  ac : ∀ k, k < 3 → f (10 + k) = .int .i64 (s.ac k)
  hb : f 13 = .bool s.hb
  br : f 14 = .int .i64 s.br
  hg : f 15 = .bool s.hg
  gn : ∀ k, k < 3 → f (16 + k) = .int .i64 (s.gn k)
  tu : ∀ k, k < 4 → f (19 + k) = .int .i64 (s.tu k)
  ax : ∀ i, i < 3 → Ax w W s.lo f (23 + 6 * i) (s.X i) (s.P i)
  st : f 41 = .int .i64 s.st
  co : f 42 = .int .i64 s.co
  off : ∀ k, k < 4 → f (43 + k) = .int .i64 (s.off k)
  sat : f 47 = .bool s.sat
  a : ∀ k, k < 3 → f (48 + k) = .int .i64 (s.a k)
  lo : s.lo ≤ W
def St (w : World) (W : Nat) (s : Sg) : Prop := ∃ f, Stf w W s f
theorem Stf.below {w w' : World} {W : Nat} {s : Sg} {f : Nat → Value} (h : Stf w W s f) (hb : Below w.heap.size w w') : Stf w' W s f :=
  ⟨h.wk.below hb, h.c, h.ms, h.gy, h.ac, h.hb, h.br, h.hg, h.gn, h.tu, fun i hi => (h.ax i hi).mod h.lo (Mod.of hb), h.st, h.co, h.off, h.sat, h.a, h.lo⟩
theorem St.below {w w' : World} {W : Nat} {s : Sg} (h : St w W s) (hb : Below w.heap.size w w') : St w' W s := let ⟨f, hf⟩ := h; ⟨f, hf.below hb⟩
theorem St.lt {w : World} {W : Nat} {s : Sg} (h : St w W s) : W < w.heap.size := let ⟨_, hf⟩ := h; hf.wk.lt
theorem Stf.setSat {w : World} {W : Nat} {s : Sg} {f : Nat → Value} (h : Stf w W s f) (b : Bool) : Stf (w.setCell ⟨W, 47, none⟩ (.bool b)) W { s with sat := b } (up f 47 (.bool b)) :=
  ⟨h.wk.set 47 _, fun k hk => by rw [up_ne (by omega)]; exact h.c k hk, by rw [up_ne (by omega)]; exact h.ms, fun k hk => by rw [up_ne (by omega)]; exact h.gy k hk, fun k hk => by rw [up_ne (by omega)]; exact h.ac k hk,
    by rw [up_ne (by omega)]; exact h.hb, by rw [up_ne (by omega)]; exact h.br, by rw [up_ne (by omega)]; exact h.hg, fun k hk => by rw [up_ne (by omega)]; exact h.gn k hk, fun k hk => by rw [up_ne (by omega)]; exact h.tu k hk,
    fun i hi => ((h.ax i hi).mod h.lo mod_set).up (by omega) _, by rw [up_ne (by omega)]; exact h.st, by rw [up_ne (by omega)]; exact h.co, fun k hk => by rw [up_ne (by omega)]; exact h.off k hk, up_at _ _ _, fun k hk => by rw [up_ne (by omega)]; exact h.a k hk, h.lo⟩
theorem Stf.setCo {w : World} {W : Nat} {s : Sg} {f : Nat → Value} (h : Stf w W s f) (n : Int) : Stf (w.setCell ⟨W, 42, none⟩ (.int .i64 n)) W { s with co := n } (up f 42 (.int .i64 n)) :=
  ⟨h.wk.set 42 _, fun k hk => by rw [up_ne (by omega)]; exact h.c k hk, by rw [up_ne (by omega)]; exact h.ms, fun k hk => by rw [up_ne (by omega)]; exact h.gy k hk, fun k hk => by rw [up_ne (by omega)]; exact h.ac k hk,
    by rw [up_ne (by omega)]; exact h.hb, by rw [up_ne (by omega)]; exact h.br, by rw [up_ne (by omega)]; exact h.hg, fun k hk => by rw [up_ne (by omega)]; exact h.gn k hk, fun k hk => by rw [up_ne (by omega)]; exact h.tu k hk,
    fun i hi => ((h.ax i hi).mod h.lo mod_set).up (by omega) _, by rw [up_ne (by omega)]; exact h.st, up_at _ _ _, fun k hk => by rw [up_ne (by omega)]; exact h.off k hk, by rw [up_ne (by omega)]; exact h.sat, fun k hk => by rw [up_ne (by omega)]; exact h.a k hk, h.lo⟩
theorem Stf.setSt {w : World} {W : Nat} {s : Sg} {f : Nat → Value} (h : Stf w W s f) (n : Int) : Stf (w.setCell ⟨W, 41, none⟩ (.int .i64 n)) W { s with st := n } (up f 41 (.int .i64 n)) :=
  ⟨h.wk.set 41 _, fun k hk => by rw [up_ne (by omega)]; exact h.c k hk, by rw [up_ne (by omega)]; exact h.ms, fun k hk => by rw [up_ne (by omega)]; exact h.gy k hk, fun k hk => by rw [up_ne (by omega)]; exact h.ac k hk,
    by rw [up_ne (by omega)]; exact h.hb, by rw [up_ne (by omega)]; exact h.br, by rw [up_ne (by omega)]; exact h.hg, fun k hk => by rw [up_ne (by omega)]; exact h.gn k hk, fun k hk => by rw [up_ne (by omega)]; exact h.tu k hk,
    fun i hi => ((h.ax i hi).mod h.lo mod_set).up (by omega) _, up_at _ _ _, by rw [up_ne (by omega)]; exact h.co, fun k hk => by rw [up_ne (by omega)]; exact h.off k hk, by rw [up_ne (by omega)]; exact h.sat, fun k hk => by rw [up_ne (by omega)]; exact h.a k hk, h.lo⟩
theorem Stf.setOff {w : World} {W : Nat} {s : Sg} {f : Nat → Value} (h : Stf w W s f) (o : Nat) (ho : o < 4) (n : Int) : Stf (w.setCell ⟨W, 43 + o, none⟩ (.int .i64 n)) W { s with off := at' s.off o n } (up f (43 + o) (.int .i64 n)) :=
  ⟨h.wk.set (43 + o) _, fun k hk => by rw [up_ne (by omega)]; exact h.c k hk, by rw [up_ne (by omega)]; exact h.ms, fun k hk => by rw [up_ne (by omega)]; exact h.gy k hk, fun k hk => by rw [up_ne (by omega)]; exact h.ac k hk,
    by rw [up_ne (by omega)]; exact h.hb, by rw [up_ne (by omega)]; exact h.br, by rw [up_ne (by omega)]; exact h.hg, fun k hk => by rw [up_ne (by omega)]; exact h.gn k hk, fun k hk => by rw [up_ne (by omega)]; exact h.tu k hk,
    fun i hi => ((h.ax i hi).mod h.lo mod_set).up (by omega) _, by rw [up_ne (by omega)]; exact h.st, by rw [up_ne (by omega)]; exact h.co,
    fun k hk => by
      by_cases e : k = o
      · subst e; rw [up_at]; simp [at']
      · rw [up_ne (by omega)]; simp only [at', if_neg e]; exact h.off k hk,
    by rw [up_ne (by omega)]; exact h.sat, fun k hk => by rw [up_ne (by omega)]; exact h.a k hk, h.lo⟩
theorem Stf.setA {w : World} {W : Nat} {s : Sg} {f : Nat → Value} (h : Stf w W s f) (o : Nat) (ho : o < 3) (n : Int) : Stf (w.setCell ⟨W, 48 + o, none⟩ (.int .i64 n)) W { s with a := at' s.a o n } (up f (48 + o) (.int .i64 n)) :=
  ⟨h.wk.set (48 + o) _, fun k hk => by rw [up_ne (by omega)]; exact h.c k hk, by rw [up_ne (by omega)]; exact h.ms, fun k hk => by rw [up_ne (by omega)]; exact h.gy k hk, fun k hk => by rw [up_ne (by omega)]; exact h.ac k hk,
    by rw [up_ne (by omega)]; exact h.hb, by rw [up_ne (by omega)]; exact h.br, by rw [up_ne (by omega)]; exact h.hg, fun k hk => by rw [up_ne (by omega)]; exact h.gn k hk, fun k hk => by rw [up_ne (by omega)]; exact h.tu k hk,
    fun i hi => ((h.ax i hi).mod h.lo mod_set).up (by omega) _, by rw [up_ne (by omega)]; exact h.st, by rw [up_ne (by omega)]; exact h.co, fun k hk => by rw [up_ne (by omega)]; exact h.off k hk, by rw [up_ne (by omega)]; exact h.sat,
    fun k hk => by
      by_cases e : k = o
      · subst e; rw [up_at]; simp [at']
      · rw [up_ne (by omega)]; simp only [at', if_neg e]; exact h.a k hk, h.lo⟩
theorem Stf.setTu {w : World} {W : Nat} {s : Sg} {f : Nat → Value} (h : Stf w W s f) (o : Nat) (ho : o < 4) (n : Int) : Stf (w.setCell ⟨W, 19 + o, none⟩ (.int .i64 n)) W { s with tu := at' s.tu o n } (up f (19 + o) (.int .i64 n)) :=
  ⟨h.wk.set (19 + o) _, fun k hk => by rw [up_ne (by omega)]; exact h.c k hk, by rw [up_ne (by omega)]; exact h.ms, fun k hk => by rw [up_ne (by omega)]; exact h.gy k hk, fun k hk => by rw [up_ne (by omega)]; exact h.ac k hk,
    by rw [up_ne (by omega)]; exact h.hb, by rw [up_ne (by omega)]; exact h.br, by rw [up_ne (by omega)]; exact h.hg, fun k hk => by rw [up_ne (by omega)]; exact h.gn k hk,
    fun k hk => by
      by_cases e : k = o
      · subst e; rw [up_at]; simp [at']
      · rw [up_ne (by omega)]; simp only [at', if_neg e]; exact h.tu k hk,
    fun i hi => ((h.ax i hi).mod h.lo mod_set).up (by omega) _, by rw [up_ne (by omega)]; exact h.st, by rw [up_ne (by omega)]; exact h.co, fun k hk => by rw [up_ne (by omega)]; exact h.off k hk, by rw [up_ne (by omega)]; exact h.sat, fun k hk => by rw [up_ne (by omega)]; exact h.a k hk, h.lo⟩
theorem Stf.setAx {w : World} {W : Nat} {s : Sg} {f : Nat → Value} (h : Stf w W s f) (i : Nat) (hi : i < 3) (vx vp : Value) (xs ps : List Int) (hx : Sees w vx xs) (hp : Sees w vp ps) (xl : xs.length = 3) (pl : ps.length = 9) (xn : ∀ k, vx.ownBlock = some k → k < s.lo ∨ W < k) (pn : ∀ k, vp.ownBlock = some k → k < s.lo ∨ W < k) :
    Stf ((((((w.setCell ⟨W, 23 + 6 * i, none⟩ (.int .i64 3)).setCell ⟨W, 23 + 6 * i + 1, none⟩ (.int .i64 1)).setCell ⟨W, 23 + 6 * i + 2, none⟩ vx).setCell ⟨W, 23 + 6 * i + 3, none⟩ (.int .i64 3)).setCell ⟨W, 23 + 6 * i + 4, none⟩ (.int .i64 3)).setCell ⟨W, 23 + 6 * i + 5, none⟩ vp) W { s with X := at' s.X i xs, P := at' s.P i ps }
      (up (up (up (up (up (up f (23 + 6 * i) (.int .i64 3)) (23 + 6 * i + 1) (.int .i64 1)) (23 + 6 * i + 2) vx) (23 + 6 * i + 3) (.int .i64 3)) (23 + 6 * i + 4) (.int .i64 3)) (23 + 6 * i + 5) vp) := by
  have hm : Mod (fun b => b = W) w ((((((w.setCell ⟨W, 23 + 6 * i, none⟩ (.int .i64 3)).setCell ⟨W, 23 + 6 * i + 1, none⟩ (.int .i64 1)).setCell ⟨W, 23 + 6 * i + 2, none⟩ vx).setCell ⟨W, 23 + 6 * i + 3, none⟩ (.int .i64 3)).setCell ⟨W, 23 + 6 * i + 4, none⟩ (.int .i64 3)).setCell ⟨W, 23 + 6 * i + 5, none⟩ vp) :=
    ((((mod_set.trans mod_set).trans mod_set).trans mod_set).trans mod_set).trans mod_set
  have hq : ∀ j, (j < 23 + 6 * i ∨ 23 + 6 * i + 5 < j) → up (up (up (up (up (up f (23 + 6 * i) (.int .i64 3)) (23 + 6 * i + 1) (.int .i64 1)) (23 + 6 * i + 2) vx) (23 + 6 * i + 3) (.int .i64 3)) (23 + 6 * i + 4) (.int .i64 3)) (23 + 6 * i + 5) vp j = f j := fun j hj => by
    rw [up_ne (by omega), up_ne (by omega), up_ne (by omega), up_ne (by omega), up_ne (by omega), up_ne (by omega)]
  refine ⟨(((((h.wk.set _ _).set _ _).set _ _).set _ _).set _ _).set _ _, fun k hk => by rw [hq _ (by omega)]; exact h.c k hk, by rw [hq _ (by omega)]; exact h.ms, fun k hk => by rw [hq _ (by omega)]; exact h.gy k hk, fun k hk => by rw [hq _ (by omega)]; exact h.ac k hk,
    by rw [hq _ (by omega)]; exact h.hb, by rw [hq _ (by omega)]; exact h.br, by rw [hq _ (by omega)]; exact h.hg, fun k hk => by rw [hq _ (by omega)]; exact h.gn k hk, fun k hk => by rw [hq _ (by omega)]; exact h.tu k hk, ?_,
    by rw [hq _ (by omega)]; exact h.st, by rw [hq _ (by omega)]; exact h.co, fun k hk => by rw [hq _ (by omega)]; exact h.off k hk, by rw [hq _ (by omega)]; exact h.sat, fun k hk => by rw [hq _ (by omega)]; exact h.a k hk, h.lo⟩
  intro j hj
  by_cases e : j = i
  · subst e
    have l1 := hx.lt (by rw [xl]; decide)
    have l2 := hp.lt (by rw [pl]; decide)
    simp only [at', if_true]
    have e2 : up (up (up (up (up (up f (23 + 6 * j) (.int .i64 3)) (23 + 6 * j + 1) (.int .i64 1)) (23 + 6 * j + 2) vx) (23 + 6 * j + 3) (.int .i64 3)) (23 + 6 * j + 4) (.int .i64 3)) (23 + 6 * j + 5) vp (23 + 6 * j + 2) = vx := by
      rw [up_ne (by omega), up_ne (by omega), up_ne (by omega), up_at]
    have e5 : up (up (up (up (up (up f (23 + 6 * j) (.int .i64 3)) (23 + 6 * j + 1) (.int .i64 1)) (23 + 6 * j + 2) vx) (23 + 6 * j + 3) (.int .i64 3)) (23 + 6 * j + 4) (.int .i64 3)) (23 + 6 * j + 5) vp (23 + 6 * j + 5) = vp := up_at _ _ _
    refine ⟨?_, ?_, ?_, ?_, by rw [e2]; exact hx.agree hm.size fun k hk => hm.block k (l1 k hk) (by have h1 := xn k hk; have h2 := h.lo; omega), by rw [e5]; exact hp.agree hm.size fun k hk => hm.block k (l2 k hk) (by have h1 := pn k hk; have h2 := h.lo; omega), xl, pl, by rw [e2]; exact xn, by rw [e5]; exact pn⟩
    · rw [up_ne (by omega), up_ne (by omega), up_ne (by omega), up_ne (by omega), up_ne (by omega), up_at]
    · rw [up_ne (by omega), up_ne (by omega), up_ne (by omega), up_ne (by omega), up_at]
    · rw [up_ne (by omega), up_ne (by omega), up_at]
    · rw [up_ne (by omega), up_at]
  · simp only [at', if_neg e]
    exact ((((((h.ax j hj).mod h.lo hm).up (by omega) _).up (by omega) _).up (by omega) _).up (by omega) _).up (by omega) _ |>.up (by omega) _
end Go.Proofs.YtoefekkdjcflmaaGreatDoor.Et

