/-
  The code's keep (a method value that writes its notes), and the steps' loop, reckoned.
-/
import Derived.Test.YtiniobcknmaigaaRegW
import Derived.Test.YtiniobcknmaigaaBoth
namespace Go.Proofs.Ytiniobcknmaigaa
open Go.RowKit Go.Sort Qm

theorem two_cells {w : World} {b : Nat} {x y : Value} {T : TypeId} (h : w.heap[b]? = some (.cells #[x, y] T (0, 0))) :
    w.cell? ⟨b, 0, none⟩ = some x ∧ w.cell? ⟨b, 1, none⟩ = some y ∧ w.frozen? ⟨b, 0, none⟩ = false ∧ w.frozen? ⟨b, 1, none⟩ = false := by
  simp [World.cell?, World.frozen?, h]
theorem put_two {w : World} {b : Nat} {x y x' y' : Value} {t : TypeId} (h : w.heap[b]? = some (.cells #[x, y] t (0, 0))) :
    ((w.setCell ⟨b, 0, none⟩ x').setCell ⟨b, 1, none⟩ y').heap[b]? = some (.cells #[x', y'] t (0, 0)) := by
  have h1 := heap_setCell_same w b 0 #[x, y] t x' h
  exact heap_setCell_same _ b 1 _ t y' h1
theorem gb_set {w w' : World} {N : Nat} (h : w.grownBy w' (some N)) (k : Nat) (v : Value) : w.grownBy (w'.setCell ⟨N, k, none⟩ v) (some N) :=
  ⟨h.os, h.tape, h.output, by simpa [World.setCell] using h.size, fun i hi hn => by rw [Below.heap_setCell _ _ _ _ (fun e => hn (by rw [e]))]; exact h.block i hi hn⟩

theorem enters_keep : ∀ (args : Array Value) (a : World), Sem.run Try.prog (callFunc 41 args) a = Result.ok (Next.enter 41 args) a := by
  intro args a
  simp [callFunc, Try.func41, go_sem]
  rfl
set_option maxHeartbeats 400000 in
theorem keep_any (N : Nat) (m b : Bool) (w : World) (hN : w.heap[N]? = some (.cells #[.bool m, .int .i64 0] 77 (0, 0))) :
    Calls Try.prog 41 #[.pointer (some ⟨N, 0, none⟩), .bool b, .int .i64 0] w fun e w' => e = .returned (.tuple #[]) ∧
      w'.heap[N]? = some (.cells #[.bool (m || b), .int .i64 0] 77 (0, 0)) ∧ w.grownBy w' (some N) := by
  obtain ⟨c0, c1, f0, f1⟩ := two_cells hN
  have e1 := put_two (x' := .bool (m || b)) (y' := .int .i64 0) hN
  have e2 := gb_set (gb_set (gb_refl w (some N)) 0 (.bool (m || b))) 1 (.int .i64 0)
  cases m
  all_goals
    simp only [Bool.false_or, Bool.true_or] at e1 e2 ⊢
    go_enter Try.func41, Try.ntmps41
    go_wp2
    refine bodyPost_end (v := .tuple #[]) (by simp [results, Try.results41, go_sem]) rfl ?_
    exact ⟨rfl, e1, e2⟩

theorem Sees.agree {w w' : World} {v : Value} {xs : List Int} (h : Sees w v xs) (hz : w.heap.size ≤ w'.heap.size) (hb : ∀ k, v.ownBlock = some k → w'.heap[k]? = w.heap[k]?) : Sees w' v xs := by
  obtain ⟨ao, cap, rfl, hc⟩ := h
  refine ⟨ao, cap, rfl, fun k hk => ?_⟩
  obtain ⟨ad, rfl, h1, h2⟩ := hc k hk
  refine ⟨ad, rfl, Nat.lt_of_lt_of_le h1 hz, ?_⟩
  rw [World.cell?_of_block (w := w) (by rw [add_block]; exact hb ad.block rfl)]; exact h2

/-- what the loop of reckoned keeps -/
structure RkI (w : World) (N : Nat) (m : Bool) (r c : Nat) (xs : List Int) (f : Prop) (wr : World) : Prop where
  mod : Mod (fun b => b = N) w wr
  size : w.heap.size + 2 ≤ wr.heap.size
  out : wr.heap[w.heap.size + 1]? = some (.cells #[.int .i64 0, .int .i64 0, .slice none 0 0] 24 (0, 0))
  note : wr.heap[N]? = some (.cells #[.bool m, .int .i64 0] 77 (0, 0))
  mat : ∃ ao cap, wr.heap[w.heap.size]? = some (.cells #[.int .i64 r, .int .i64 c, .slice ao xs.length cap] 24 (0, 0)) ∧ Sees wr (.slice ao xs.length cap) xs ∧ ∀ b, (Value.slice ao xs.length cap).ownBlock = some b → b ≠ N ∧ b ≠ w.heap.size ∧ b ≠ w.heap.size + 1 ∧ b < wr.heap.size ∧ (f → w.heap.size ≤ b)

theorem RkI.start {w : World} {N : Nat} {m : Bool} {r c : Nat} {xs : List Int} {ao : Option Addr} {cap : Nat} (hN : w.heap[N]? = some (.cells #[.bool m, .int .i64 0] 77 (0, 0)))
    (hs : Sees w (.slice ao xs.length cap) xs) (hne : ∀ b, (Value.slice ao xs.length cap).ownBlock = some b → b ≠ N ∧ b < w.heap.size) :
    RkI w N m r c xs False ((w.alloc (.cells #[.int .i64 r, .int .i64 c, .slice ao xs.length cap] 24)).alloc (.cells #[.int .i64 0, .int .i64 0, .slice none 0 0] 24)) := by
  have x := allocs2 w (.cells #[.int .i64 r, .int .i64 c, .slice ao xs.length cap] 24) (.cells #[.int .i64 0, .int .i64 0, .slice none 0 0] 24)
  have b := ball2 w (.cells #[.int .i64 r, .int .i64 c, .slice ao xs.length cap] 24) (.cells #[.int .i64 0, .int .i64 0, .slice none 0 0] 24)
  refine ⟨Mod.of b, by simp, x.2, keep b hN, ao, cap, x.1, hs.below b, fun k hk => ?_⟩
  have := hne k hk
  refine ⟨this.1, by omega, by omega, ?_, False.elim⟩
  have := b.size; omega

/-- a step: called, noted, and laid -/
theorem RkI.step {w wr wb wc : World} {N : Nat} {m m' : Bool} {r c r' c' : Nat} {xs ys : List Int} {f : Prop} {ao : Option Addr} {cap : Nat} (hNw : N < w.heap.size) (h : RkI w N m r c xs f wr) (hb : Below wr.heap.size wr wb)
    (hs : Sees wb (.slice ao ys.length cap) ys) (hn : New wr.heap.size (.slice ao ys.length cap)) (hl : ∀ b, (Value.slice ao ys.length cap).ownBlock = some b → b < wb.heap.size)
    (hg : (wb.alloc (.cells #[.int .i64 r', .int .i64 c', .slice ao ys.length cap] 24)).grownBy wc (some N)) (hN : wc.heap[N]? = some (.cells #[.bool m', .int .i64 0] 77 (0, 0))) :
    RkI w N m' r' c' ys True (((wc.setCell ⟨w.heap.size, 0, none⟩ (.int .i64 r')).setCell ⟨w.heap.size, 1, none⟩ (.int .i64 c')).setCell ⟨w.heap.size, 2, none⟩ (.slice ao ys.length cap)) := by
  obtain ⟨h1, h2, h3, h4, ao0, cap0, h5, _, _⟩ := h
  have hm : Mod (fun b => b = N) wr wc := (Mod.of (bt hb (box_below wb (.cells #[.int .i64 r', .int .i64 c', .slice ao ys.length cap] 24)))).trans (Mod.ofGb hg)
  have e5 : wc.heap[w.heap.size]? = some (.cells #[.int .i64 r, .int .i64 c, .slice ao0 xs.length cap0] 24 (0, 0)) := (hm.block _ (by omega) (by omega)).trans h5
  have hsz : wc.heap.size ≤ (((wc.setCell ⟨w.heap.size, 0, none⟩ (.int .i64 r')).setCell ⟨w.heap.size, 1, none⟩ (.int .i64 c')).setCell ⟨w.heap.size, 2, none⟩ (.slice ao ys.length cap)).heap.size := by simp [World.setCell]
  have hoff : ∀ k, k ≠ w.heap.size → (((wc.setCell ⟨w.heap.size, 0, none⟩ (.int .i64 r')).setCell ⟨w.heap.size, 1, none⟩ (.int .i64 c')).setCell ⟨w.heap.size, 2, none⟩ (.slice ao ys.length cap)).heap[k]? = wc.heap[k]? := by
    intro k hk
    rw [Below.heap_setCell _ _ _ _ hk, Below.heap_setCell _ _ _ _ hk, Below.heap_setCell _ _ _ _ hk]
  have hza : wb.heap.size ≤ wc.heap.size := Nat.le_trans (by simp) hg.size
  have hbl : ∀ b, (Value.slice ao ys.length cap).ownBlock = some b → b ≠ N ∧ b ≠ w.heap.size ∧ b ≠ w.heap.size + 1 ∧ b < wc.heap.size := fun b hb' => by
    have := hn b hb'; have := hl b hb'
    refine ⟨?_, ?_, ?_, ?_⟩ <;> omega
  refine ⟨?_, by have := hm.size; omega, ?_, ?_, ao, cap, put_mat e5, ?_, fun b hb' => ?_⟩
  · have h6 := h1.trans hm
    refine ⟨h6.os, h6.tape, h6.output, Nat.le_trans h6.size hsz, fun k hk hk' => ?_⟩
    rw [hoff k (by omega)]; exact h6.block k hk hk'
  · rw [hoff _ (by omega)]; exact (hm.block _ (by omega) (by omega)).trans h3
  · rw [hoff _ (by omega)]; exact hN
  · have hs1 : Sees wc (.slice ao ys.length cap) ys := (hs.alloc (.cells #[.int .i64 r', .int .i64 c', .slice ao ys.length cap] 24)).agree hg.size fun k hk => by
      have := hbl k hk; have := hl k hk
      exact hg.block k (by simp; omega) (fun e => (hbl k hk).1 (by injection e))
    exact hs1.agree hsz fun k hk => hoff k (hbl k hk).2.1
  · have := hbl b hb'
    have h9 := hn b hb'
    exact ⟨this.1, this.2.1, this.2.2.1, Nat.lt_of_lt_of_le this.2.2.2 hsz, fun _ => by omega⟩
end Go.Proofs.Ytiniobcknmaigaa
