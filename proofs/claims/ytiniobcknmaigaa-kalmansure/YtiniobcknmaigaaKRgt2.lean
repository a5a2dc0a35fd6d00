/-
  The contracts of the code's diagonal, and of Right.
-/
import Derived.Test.YtiniobcknmaigaaKRgt
import Derived.Test.YtiniobcknmaigaaKRRt
import Derived.Test.YtiniobcknmaigaaKInn2
namespace Go.Proofs.Ytiniobcknmaigaa
open Go.RowKit Go.Sort Qm

set_option maxRecDepth 20000 in
set_option maxHeartbeats 800000 in
theorem kdiag_any (n : Nat) (n1 : 1 ≤ n) (hn : n ≤ 8) (v : Value) (ps : List Int) (hp : ps.length = n * n) (w : World) (hs : Sees w v ps) :
    Calls Try.prog 35 #[.agg #[.int .i64 n, .int .i64 n, v]] w fun e b => ∃ v', e = .returned v' ∧ Sees b v' (tab (fun i => ge ps (i * n + i)) n) ∧ New w.heap.size v' ∧ Below w.heap.size w b := by
  obtain ⟨i0, hi0, hz0, hz1, hz2⟩ := info_parts Try.info33
  have h64 : n * n ≤ 64 := mul_le_64 hn hn
  have hpos : 0 < n * n := Nat.mul_pos n1 n1
  obtain ⟨ao, cap, rfl⟩ := hs.slice
  obtain ⟨ad, hao, _⟩ := hs.at 0 (by omega)
  subst hao
  obtain ⟨m, hm⟩ : ∃ m, ps.length = m := ⟨_, rfl⟩
  have HM : Hid (ps.length = m) := hm
  have HM2 : Hid (m = n * n) := by rw [← hm]; exact hp
  rw [hm] at hs ⊢
  clear hp
  obtain ⟨W, hW⟩ : ∃ W, w.alloc (.cells #[.int .i64 n, .int .i64 n, .slice (some ad) m cap] 24) = W := ⟨_, rfl⟩
  have x1 := heap_new w (.cells #[.int .i64 n, .int .i64 n, .slice (some ad) m cap] 24)
  have bW := box_below w (.cells #[.int .i64 n, .int .i64 n, .slice (some ad) m cap] 24)
  rw [hW] at x1 bW
  have hsW := hs.below bW
  obtain ⟨c0, c1, c2, _⟩ := mat_cells x1
  clear hm
  have hll := hsW.lt (by rw [HM.out, HM2.out]; exact hpos)
  go_enter Try.func35, Try.ntmps35
  go_wp2_with (at_make; go_must (refine wpList_make_own _ rfl _ _ 22 rfl W.heap.size 41 i0 (.int .i64 0) 1 Try.under22 hi0 hz0 hz1 .i64 .i64 _ n rfl rfl rfl (by rw [hz2]; omega) (by unfold maxLen; omega) (by simp) ?_); intro w1 hown1 hg1; have hb1 := gb_none hg1; clear hg1; obtain ⟨q0, q1, q2, _⟩ := mat_cells (keep hb1 x1))
  go_loopw [3, 10] (fun l i wr => ∃ a : Nat, a ≤ n ∧ i = .int .i64 a ∧ wr.ownsRow W.heap.size 41 1 l a ((tab (fun i => ge ps (i * n + i)) a).map (Value.int .i64)) ∧ Below W.heap.size W wr) (fun _ i _ => n - (intOf i).toNat)
  case atStart => exact ⟨0, Nat.zero_le _, rfl, by simpa [tab_zero] using hown1, hb1⟩
  case round =>
    clear hown1 hb1 q0 q1 q2
    obtain ⟨a, ha, rfl, hown, hb⟩ := hrel
    obtain ⟨q0, q1, q2, _⟩ := mat_cells (keep hb x1)
    by_cases hlt : a < n
    · have pA : a * n + a < m := by rw [HM2.out]; exact at_lt hlt hlt
      have hl2 : (tab (fun i => ge ps (i * n + i)) (a + 1)).map (Value.int .i64) = (tab (fun i => ge ps (i * n + i)) a).map (Value.int .i64) ++ [.int .i64 (ge ps (a * n + a))] := by rw [tab_succ, List.map_append]; rfl
      have HL : Hid ((tab (fun i => ge ps (i * n + i)) (a + 1)).map (Value.int .i64) = (tab (fun i => ge ps (i * n + i)) a).map (Value.int .i64) ++ [.int .i64 (ge ps (a * n + a))]) := hl2
      clear hl2
      have hown' := fun k e => hown.lt k e
      go_wp2
      refine kdg_region (P := w.heap.size) (i := a) (r := n) (c := n) (ad := ad) (m := m) (cap := cap) (q := a * n + a) (B0 := W.heap.size) (a := a) (x := ge ps (a * n + a)) hi0 hz0 hz1 hz2 hown (by omega) hb.size pA (fun v hv => ?_) (fun v => onDiag_any n n a (by omega) hn (some ad) m cap v) ?_
      · have hx : v.heap[w.heap.size]? = _ := (hv.block w.heap.size (lt_of_block (keep hb x1)) (fun e => by have := (hown' _ e).1; have := lt_of_block x1; omega)).trans (keep hb x1)
        obtain ⟨r0, r1, r2, _⟩ := mat_cells hx
        have hsv : Sees v (.slice (some ad) m cap) ps := (hsW.below hb).agree hv.size fun k hk => hv.block k (by have := hll k hk; have := hb.size; omega) (fun e => by have := (hown' _ e).1; have := hll k hk; omega)
        obtain ⟨ad', e1, hc⟩ := hsv.at (a * n + a) (by rw [HM.out]; exact pA)
        injection e1 with e1
        subst e1
        exact ⟨r0, r1, r2, hc⟩
      intro vs wa ma ho
      unfold kdgFr
      have hbE : Below W.heap.size W wa := hb.trans (ma.below hb.size (fun k hk => (hown' k hk).1))
      clear hown ma q0 q1 q2
      go_wp2
      go_roundw
      case rel => exact ⟨a + 1, by omega, by go_num, by rw [HL.out]; exact ho, hbE⟩
      case measure => simp [intOf]; omega
    · have e : a = n := by omega
      subst e
      have hsees := Sees.own hown
      have hnew := New.own hown
      clear hown
      go_wp2
      go_ret
      exact ⟨_, rfl, hsees, hnew.mono bW.size, bt bW hb⟩
end Go.Proofs.Ytiniobcknmaigaa
