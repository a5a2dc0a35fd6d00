/-
  The contract of mat.reckoned, over whatever function reckons the numbers.
-/
import Derived.Test.YtiniobcknmaigaaReck
namespace Go.Proofs.Ytiniobcknmaigaa
open Go.RowKit Qm

/-- the world of reckoned, as it calls filled -/
def reckW (w : World) (R C : Int) (f : Value) : World :=
  (((w.alloc (.cells #[.int .i64 R, .int .i64 C] 93)).alloc (.cells #[f] 116)).alloc (.cells #[.int .i64 0, .int .i64 0, .slice none 0 0] 24)).alloc (.cells #[.bool false] 4)

theorem reckW_size (w : World) (R C : Int) (f : Value) : (reckW w R C f).heap.size = w.heap.size + 4 := by simp [reckW]
theorem reckW_below (w : World) (R C : Int) (f : Value) : Below w.heap.size w (reckW w R C f) :=
  ((((Below.refl _ _).alloc (Nat.le_refl _) _).alloc (by simp) _).alloc (by simp; omega) _).alloc (by simp; omega) _

theorem reckW_cells (w : World) (R C : Int) (f : Value) :
    (reckW w R C f).cell? ⟨w.heap.size + 1, 0, none⟩ = some f ∧
    (reckW w R C f).heap[w.heap.size + 2]? = some (.cells #[.int .i64 0, .int .i64 0, .slice none 0 0] 24 (0, 0)) ∧
    (reckW w R C f).heap[w.heap.size + 3]? = some (.cells #[.bool false] 4 (0, 0)) := by
  unfold reckW
  refine ⟨by simp [go_sem], ?_, ?_⟩
  · rw [Below.heap_alloc _ _ _ (by simp)]
    have e : w.heap.size + 2 = ((w.alloc (.cells #[.int .i64 R, .int .i64 C] 93)).alloc (.cells #[f] 116)).heap.size := by simp
    rw [e, heap_alloc_new]
  · have e : w.heap.size + 3 = (((w.alloc (.cells #[.int .i64 R, .int .i64 C] 93)).alloc (.cells #[f] 116)).alloc (.cells #[.int .i64 0, .int .i64 0, .slice none 0 0] 24)).heap.size := by simp
    rw [e, heap_alloc_new]

/-- filled, as reckoned calls it -/
theorem reck_fill (R C : Nat) (hR : R ≤ 8) (hC : C ≤ 8) (G : Nat) (hG : ∀ (args : Array Value) (a : World), Sem.run Try.prog (callFunc G args) a = Result.ok (Next.enter G args) a) (caps : Array Value) (t : Nat → Int) (o : Nat → Bool) (w : World)
    (hcall : ∀ (i j : Nat) a, i < R → j < C → Below w.heap.size w a → Calls Try.prog G (#[.int .i64 i, .int .i64 j] ++ caps) a (fun e b => e = .returned (.tuple #[.int .i64 (t (i * C + j)), .bool (o (i * C + j))]) ∧ Below a.heap.size a b)) :
    Calls Try.prog 61 #[.agg #[.int .i64 R, .int .i64 C], .func (.func 100) #[] #[.pointer (some ⟨w.heap.size + 1, 0, none⟩), .pointer (some ⟨w.heap.size + 1 + 1 + 1, 0, none⟩)]] (reckW w R C (.func (.func G) #[] caps)) fun e b =>
      ∃ v, e = .returned (.agg #[.int .i64 R, .int .i64 C, v]) ∧ b.ownsRow (w.heap.size + 4) 41 1 v (R * C) ((tab t (R * C)).map (Value.int .i64)) ∧
        b.heap[w.heap.size + 1 + 1]? = some (.cells #[.int .i64 0, .int .i64 0, .slice none 0 0] 24 (0, 0)) ∧ b.cell? ⟨w.heap.size + 1 + 1 + 1, 0, none⟩ = some (.bool (anyB o (R * C))) ∧ Below w.heap.size w b ∧ w.heap.size + 4 ≤ b.heap.size := by
  obtain ⟨W, hW⟩ : ∃ W, reckW w R C (.func (.func G) #[] caps) = W := ⟨_, rfl⟩
  obtain ⟨c1, c2, c3⟩ := reckW_cells w R C (.func (.func G) #[] caps)
  have hs := reckW_size w R C (.func (.func G) #[] caps)
  have hbl := reckW_below w R C (.func (.func G) #[] caps)
  rw [hW] at c1 c2 c3 hs hbl ⊢
  clear hW
  have back : ∀ a, W.grownBy a (some (w.heap.size + 3)) → Below w.heap.size w a := fun a h => hbl.trans (below_gb h (by omega) (fun k e => by cases e; omega))
  have base := filled_any R C hR hC 100 enters68 #[.pointer (some ⟨w.heap.size + 1, 0, none⟩), .pointer (some ⟨w.heap.size + 1 + 1 + 1, 0, none⟩)] t (some (w.heap.size + 3))
    (fun k a => W.grownBy a (some (w.heap.size + 3)) ∧ a.heap[w.heap.size + 3]? = some (.cells #[.bool (anyB o k)] 4 (0, 0))) W (fun m e => by cases e; omega) ⟨gb_refl _ _, c3⟩ ?_ ?_
  · refine base.mono ?_
    rintro e b ⟨v, rfl, hown, ⟨hg, hm⟩, _⟩
    refine ⟨v, rfl, own_mono hown (by omega), ?_, cell_of_one hm, back b hg, by have := hg.size; omega⟩
    rw [hg.block _ (by omega) (by simp)]; exact c2
  · rintro k a b ⟨h1, h2⟩ hb
    refine ⟨⟨hb.os.trans h1.os, hb.tape.trans h1.tape, hb.output.trans h1.output, Nat.le_trans h1.size hb.size, fun i hi hn => by rw [hb.block i hi, h1.block i hi hn]⟩, ?_⟩
    rw [hb.block _ (by omega)]; exact h2
  · rintro i j a hi hj ⟨h1, h2⟩
    have hT : a.cell? ⟨w.heap.size + 1, 0, none⟩ = some (.func (.func G) #[] caps) := h1.cell c1 (by simp)
    refine (reck1_any i j G hG caps _ _ (t (i * C + j)) (anyB o (i * C + j)) (o (i * C + j)) a hT h2 (hcall i j a hi hj (back a h1))).mono ?_
    rintro e b ⟨rfl, h3, h4⟩
    exact ⟨rfl, ⟨gb_trans h1 h4, h3⟩, h4⟩

set_option maxHeartbeats 800000 in
theorem reckoned_any (R C : Nat) (hR : R ≤ 8) (hC : C ≤ 8) (G : Nat) (hG : ∀ (args : Array Value) (a : World), Sem.run Try.prog (callFunc G args) a = Result.ok (Next.enter G args) a) (caps : Array Value) (t : Nat → Int) (o : Nat → Bool) (w : World)
    (hcall : ∀ (i j : Nat) a, i < R → j < C → Below w.heap.size w a → Calls Try.prog G (#[.int .i64 i, .int .i64 j] ++ caps) a (fun e b => e = .returned (.tuple #[.int .i64 (t (i * C + j)), .bool (o (i * C + j))]) ∧ Below a.heap.size a b)) :
    Calls Try.prog 86 #[.agg #[.int .i64 R, .int .i64 C], .func (.func G) #[] caps] w fun e b =>
      ∃ v, e = .returned (.tuple #[.agg #[.int .i64 R, .int .i64 C, v], .bool (anyB o (R * C))]) ∧ Sees b v (tab t (R * C)) ∧ New w.heap.size v ∧ Below w.heap.size w b := by
  have hf := reck_fill R C hR hC G hG caps t o w hcall
  unfold reckW at hf
  obtain ⟨q, hq⟩ : ∃ q, R * C = q := ⟨_, rfl⟩
  obtain ⟨A, hA⟩ : ∃ A, anyB o q = A := ⟨_, rfl⟩
  rw [hq] at hf ⊢
  rw [hA] at hf ⊢
  clear hq hA hcall hG
  go_enter Try.func86, Try.ntmps86
  go_wp2_with (go_at_call 61; refine Calls.mono hf ?_; rintro e wx ⟨v, rfl, hown, hB, hM, hbl, hsz⟩; obtain ⟨ao, cap, rfl⟩ := own_slice hown; obtain ⟨d0, d1, d2, f0, f1, f2⟩ := mat_cells (old_mat hB (.cells #[.int .i64 R, .int .i64 C, .slice ao q cap] 24)); have hM2 := old_cell hM (by omega) (.cells #[.int .i64 R, .int .i64 C, .slice ao q cap] 24); clear hM hB)
  go_region
  all_goals (try go_wp2)
  refine bodyPost_ret (v := .tuple #[.agg #[.int .i64 R, .int .i64 C, .slice ao q cap], .bool A]) (by simp [results, Try.results86, go_sem, d0, d1, d2]) rfl ?_
  have hN := New.own hown
  exact ⟨_, rfl, (((Sees.own hown).alloc _).put hN (by omega) _ _ _).drew, hN.mono (by omega), (below_put (hbl.alloc (by omega) _) (by omega) _ _ _).drew⟩
end Go.Proofs.Ytiniobcknmaigaa
