/-
  The contract of the code's each, of numbers.
-/
import Derived.Test.YtiniobcknmaigaaKEach
import Derived.Deep.DeepMust
namespace Go.Proofs.Ytiniobcknmaigaa
open Go.RowKit Go.Sort Qm

namespace Qm
/-- each number by itself -/
def eaL (t : Int → Int) (ys : List Int) : List Int := tab (fun k => t (ge ys k)) ys.length
def eaB (o : Int → Bool) (ys : List Int) : Bool := anyB (fun k => o (ge ys k)) ys.length
end Qm
theorem own_below {B n : Nat} {w w' : World} {v : Value} {xs : List Value} (h : w.ownsRow B 41 1 v n xs) (hb : Below w.heap.size w w') : w'.ownsRow B 41 1 v n xs := h.kept (gb_below none hb) (by cases hv : v.ownBlock <;> simp)
set_option maxRecDepth 20000 in
set_option maxHeartbeats 1600000 in
theorem each1_any (R C : Int) (G : Nat) (hG : ∀ (args : Array Value) (a : World), Sem.run Try.prog (callFunc G args) a = Result.ok (Next.enter G args) a) (caps : Array Value) (t : Int → Int) (o : Int → Bool) (A : Nat) (vm : Value) (ys : List Int) (hy : ys.length ≤ 64) (w : World)
    (hA : w.cell? ⟨A, 0, none⟩ = some (.func (.func G) #[] caps)) (hAw : A < w.heap.size) (sm : Sees w vm ys)
    (hcall : ∀ n a, Below w.heap.size w a → Calls Try.prog G (#[.int .i64 n] ++ caps) a (fun e b => e = .returned (.tuple #[.int .i64 (t n), .bool (o n)]) ∧ Below a.heap.size a b)) :
    Calls Try.prog 79 #[.agg #[.int .i64 R, .int .i64 C, vm], .pointer (some ⟨A, 0, none⟩)] w fun e b => ∃ s', e = .returned (.tuple #[.agg #[.int .i64 R, .int .i64 C, s'], .bool (eaB o ys), .int .i64 0]) ∧ Sees b s' (eaL t ys) ∧ New w.heap.size s' ∧ Below w.heap.size w b := by
  obtain ⟨i0, hi, hz0, hz1, hz2⟩ := info_parts Try.info33
  obtain ⟨mo, mcap, rfl⟩ := sm.slice
  unfold eaB eaL
  obtain ⟨n, hn⟩ : ∃ n, ys.length = n := ⟨_, rfl⟩
  have HN : Hid (ys.length = n) := hn
  rw [hn] at hy sm ⊢
  clear hn
  obtain ⟨W, hW⟩ : ∃ W, (w.alloc (.cells #[.int .i64 R, .int .i64 C, .slice mo n mcap] 24)).alloc (.cells #[.int .i64 0, .int .i64 0, .slice none 0 0] 24) = W := ⟨_, rfl⟩
  obtain ⟨x1, x2⟩ := allocs2 w (.cells #[.int .i64 R, .int .i64 C, .slice mo n mcap] 24) (.cells #[.int .i64 0, .int .i64 0, .slice none 0 0] 24)
  have bW := ball2 w (.cells #[.int .i64 R, .int .i64 C, .slice mo n mcap] 24) (.cells #[.int .i64 0, .int .i64 0, .slice none 0 0] 24)
  rw [hW] at x1 x2 bW
  obtain ⟨d0, d1, d2, _⟩ := mat_cells x1
  have cA : ∀ v, Below W.heap.size W v → v.cell? ⟨A, 0, none⟩ = some (.func (.func G) #[] caps) := fun v hv => (hv.cell (p := ⟨A, 0, none⟩) (Nat.lt_of_lt_of_le hAw bW.size)).trans ((bW.cell (p := ⟨A, 0, none⟩) hAw).trans hA)
  have hsW := sm.below bW
  have HW : Hid (_ = W) := hW
  go_enter Try.func79, Try.ntmps79
  go_wp2_with (at_make; refine wpList_make_own _ rfl _ _ 22 rfl W.heap.size 41 i0 (.int .i64 0) 1 Try.under22 hi hz0 hz1 .i64 .i64 _ n rfl rfl rfl (by rw [hz2]; omega) (by unfold maxLen; omega) (by simp) ?_; intro w1 hown1 hg1; have hb1 := gb_none hg1; clear hg1; obtain ⟨q0, q1, q2, _⟩ := mat_cells (keep hb1 x1))
  go_loopw [6, 7, 19] (fun l m i wr => ∃ a : Nat, a ≤ n ∧ i = .int .i64 a ∧ m = .bool (anyB (fun k => o (ge ys k)) a) ∧ wr.ownsRow W.heap.size 41 1 l a ((tab (fun k => t (ge ys k)) a).map (Value.int .i64)) ∧ Below W.heap.size W wr) (fun _ _ i _ => n - (intOf i).toNat)
  case atStart => exact ⟨0, Nat.zero_le _, rfl, rfl, by simpa [tab_zero] using hown1, hb1⟩
  case round =>
    clear hown1 hb1 q0 q1 q2
    obtain ⟨a, ha, rfl, rfl, hown, hb⟩ := hrel
    obtain ⟨q0, q1, q2, _⟩ := mat_cells (keep hb x1)
    by_cases hlt : a < n
    · have hcell : ∃ ad, mo = some ad ∧ wr.cell? (ad.add a) = some (.int .i64 (ge ys a)) := by
        obtain ⟨mo', cap', e1, hc⟩ := hsW.below hb
        obtain ⟨ad, h1, _, h3⟩ := hc a (by rw [HN.out]; exact hlt)
        injection e1 with e2
        exact ⟨ad, by rw [e2]; exact h1, h3⟩
      obtain ⟨ad, rfl, hc⟩ := hcell
      have cw := cA wr hb
      have hcl := hcall (ge ys a) wr (bt bW hb)
      have hm2 : anyB (fun k => o (ge ys k)) (a + 1) = (anyB (fun k => o (ge ys k)) a || o (ge ys a)) := rfl
      have hl2 : (tab (fun k => t (ge ys k)) (a + 1)).map (Value.int .i64) = (tab (fun k => t (ge ys k)) a).map (Value.int .i64) ++ [.int .i64 (t (ge ys a))] := by rw [tab_succ, List.map_append]; rfl
      have HM : Hid (anyB (fun k => o (ge ys k)) (a + 1) = (anyB (fun k => o (ge ys k)) a || o (ge ys a))) := hm2
      have HL : Hid ((tab (fun k => t (ge ys k)) (a + 1)).map (Value.int .i64) = (tab (fun k => t (ge ys k)) a).map (Value.int .i64) ++ [.int .i64 (t (ge ys a))]) := hl2
      clear hm2 hl2
      generalize (tab (fun k => t (ge ys k)) a).map (Value.int .i64) = vals at hown HL
      generalize anyB (fun k => o (ge ys k)) a = m at HM ⊢
      generalize ge ys a = y at hc hcl HM HL ⊢
      have hWb := hb.size
      cases m
      all_goals
        go_wp2_with (first
          | (refine Calls.mono hcl ?_; rintro e wx ⟨rfl, bx⟩)
          | (at_builtin; go_must (refine wpList_append_own _ rfl _ _ 22 rfl W.heap.size 41 i0 (.int .i64 0) 1 8 Try.under22 hi hz0 hz1 hz2 rfl (by decide) _ _ _ rfl ((own_below hown bx).alloc _) ⟨_, 0, none⟩ 1 1 [.int .i64 (t y)] rfl rfl c1_one c2_one (by unfold maxLen; omega) (by omega) (by have h7 := bx.size; simp; omega) ?_); intro v2 w2 hown2 hg2 hnil2; have HB2 : Below W.heap.size W w2 := (bt hb bx).trans (((Below.refl _ _).alloc (by have := bx.size; omega) _).grown hg2 (by have := bx.size; simp; omega) (fun m e => (hown.lt m e).1)); clear hg2 hnil2))
        go_roundw
        case rel => exact ⟨a + 1, by omega, by go_num, by rw [HM.out]; simp, by rw [HL.out]; exact hown2, HB2⟩
        case measure => simp [intOf]; omega
    · have e : a = n := by omega
      subst e
      obtain ⟨e0, e1, e2, f0, f1, f2⟩ := mat_cells (keep hb x2)
      obtain ⟨lo, lc, rfl⟩ := own_slice hown
      have hsees := Sees.own hown
      have hnew := New.own hown
      clear hown
      go_wp2
      refine bodyPost_ret (v := .tuple #[.agg #[.int .i64 R, .int .i64 C, .slice lo a lc], .bool (anyB (fun k => o (ge ys k)) a), .int .i64 0]) (by simp [results, Try.results79, go_sem, e0, e1, e2]) rfl ?_
      exact ⟨_, rfl, hsees.put hnew (lt_of_block x2) _ _ _, hnew.mono bW.size, below_put (bt bW hb) (Nat.le_succ _) _ _ _⟩
end Go.Proofs.Ytiniobcknmaigaa
