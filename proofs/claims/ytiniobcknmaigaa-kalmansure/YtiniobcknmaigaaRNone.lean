/-
  The contract of the document's None; what a row that is filled place by place holds.
-/
import Derived.Test.YtiniobcknmaigaaRSame
import Derived.Test.YtiniobcknmaigaaFilled
namespace Go.Proofs.Ytiniobcknmaigaa
open Go.RowKit Go.Sort Qm

set_option maxHeartbeats 800000 in
theorem none_any (R C : Nat) (hR : R ≤ 8) (hC : C ≤ 8) (h1 : 1 ≤ R) (h2 : 1 ≤ C) (w : World) :
    Calls Try.prog 25 #[.int .i64 R, .int .i64 C] w fun e b => ∃ g cap, e = .returned (.agg #[.int .i64 R, .int .i64 C, .slice (some ⟨g, 0, none⟩) (R * C) cap]) ∧
      b.ownsRow w.heap.size 41 1 (.slice (some ⟨g, 0, none⟩) (R * C) cap) (R * C) ((tab (fun _ => (0 : Int)) (R * C)).map (Value.int .i64)) ∧ Below w.heap.size w b := by
  obtain ⟨i0, hi, hz0, hz1, hz2⟩ := info_parts Try.info33
  have hb : R * C ≤ 64 := mul_le_64 hR hC
  have hp : 1 ≤ R * C := Nat.mul_pos h1 h2
  obtain ⟨q, hq⟩ : ∃ q, R * C = q := ⟨_, rfl⟩
  have hq' : (R : Int) * (C : Int) = (q : Int) := by rw [← hq]; exact (Int.natCast_mul R C).symm
  rw [hq] at hb hp ⊢
  clear hq
  obtain ⟨W, hW⟩ : ∃ W, w.alloc (.cells #[.int .i64 0, .int .i64 0, .slice none 0 0] 24) = W := ⟨_, rfl⟩
  have x1 := heap_new w (.cells #[.int .i64 0, .int .i64 0, .slice none 0 0] 24)
  have bW := box_below w (.cells #[.int .i64 0, .int .i64 0, .slice none 0 0] 24)
  have hWs : W.heap.size = w.heap.size + 1 := by rw [← hW]; simp
  rw [hW] at x1 bW
  go_enter Try.func25, Try.ntmps25
  go_wp2
  go_loopw [5, 6] (fun l i wr => ∃ k : Nat, k ≤ q ∧ i = .int .i64 k ∧ wr.ownsRow (w.heap.size + 1) 41 1 l k ((tab (fun _ => (0 : Int)) k).map (Value.int .i64)) ∧ Below (w.heap.size + 1) W wr) (fun _ i _ => q - (intOf i).toNat)
  case atStart => exact ⟨0, Nat.zero_le _, rfl, World.ownsRow_nil _ _ _ _, Below.refl _ _⟩
  case round =>
    obtain ⟨k, hk, rfl, hown, hbl⟩ := hrel
    have hsz : w.heap.size + 1 ≤ wr.heap.size := by have := hbl.size; omega
    by_cases hlt : k < q
    · go_wp2_with (at_builtin; refine wpList_append_own _ rfl _ _ 22 rfl (w.heap.size + 1) 41 i0 (.int .i64 0) 1 8 Try.under22 hi hz0 hz1 hz2 rfl (by decide) _ _ _ rfl (hown.alloc _) ⟨_, 0, none⟩ 1 1 [.int .i64 0] rfl rfl c1_one c2_one (by unfold maxLen; omega) (by omega) (by simp; omega) ?_; intro v2 w2 hown2 hg2 hnil2; have b2 : Below (w.heap.size + 1) W w2 := (hbl.alloc hsz _).grown hg2 (by simp; omega) (fun m e => (hown.lt m e).1); have h2' : w2.ownsRow (w.heap.size + 1) 41 1 v2 (k + 1) ((tab (fun _ => (0 : Int)) (k + 1)).map (Value.int .i64)) := (by rw [tab_succ, List.map_append]; exact hown2); clear hown2 hg2 hnil2)
      go_roundw
      case rel => exact ⟨k + 1, by omega, by go_num, h2', b2⟩
      case measure => simp [intOf]; omega
    · have e : k = q := by omega
      subst e
      have y1 := keep (hbl.mono (Nat.le_of_eq hWs)) x1
      obtain ⟨d0, d1, d2, f0, f1, f2⟩ := mat_cells y1
      obtain ⟨g, cap, hv⟩ : ∃ g cap, u5 = .slice (some ⟨g, 0, none⟩) k cap := by
        rcases hown.2 with ⟨_, h0⟩ | ⟨g, cap, cur, hv, _⟩
        · omega
        · exact ⟨g, cap, hv⟩
      subst hv
      go_wp2
      refine bodyPost_ret (v := .agg #[.int .i64 R, .int .i64 C, .slice (some ⟨g, 0, none⟩) k cap]) (by simp [results, Try.results25, go_sem, d0, d1, d2]) rfl ?_
      exact ⟨g, cap, rfl, own_mono (ownsRow_setCell_below (ownsRow_setCell_below (ownsRow_setCell_below hown (Nat.lt_succ_self _) _) (Nat.lt_succ_self _) _) (Nat.lt_succ_self _) _) (by omega), below_put (bt bW (hbl.mono (Nat.le_of_eq hWs))) (Nat.le_refl _) _ _ _⟩

/-- a row of n numbers at block g, which was made and is being filled -/
def Fills (W : World) (g cap n : Nat) (u : Nat → Int) (wr : World) : Prop :=
  wr.ownsRow 0 41 1 (.slice (some ⟨g, 0, none⟩) n cap) n ((tab u n).map (Value.int .i64)) ∧ W.grownBy wr (some g)
section
variable {W wr : World} {g cap n : Nat} {u : Nat → Int}
theorem Fills.start {base : Nat} (h : W.ownsRow base 41 1 (.slice (some ⟨g, 0, none⟩) n cap) n ((tab u n).map (Value.int .i64))) : Fills W g cap n u W := ⟨own_mono h (Nat.zero_le _), gb_refl _ _⟩
theorem Fills.cell (h : Fills W g cap n u wr) {k : Nat} (hk : k < n) : wr.cell? ⟨g, k, none⟩ = some (.int .i64 (u k)) := by
  rw [h.1.cellAt k (by omega), List.getElem?_map, List.getElem?_eq_getElem (by rw [tab_len]; exact hk), tab_getElem]; rfl
theorem Fills.free (h : Fills W g cap n u wr) (k : Nat) : wr.frozen? ⟨g, k, none⟩ = false := h.1.frozenAt k
theorem Fills.congr (h : Fills W g cap n u wr) {u' : Nat → Int} (e : ∀ k, k < n → u k = u' k) : Fills W g cap n u' wr := by
  refine ⟨?_, h.2⟩; rw [← tab_congr e]; exact h.1
theorem Fills.store (h : Fills W g cap n u wr) (p : Nat) (x : Int) : Fills W g cap n (fun k => if k = p then x else u k) (wr.setCell ⟨g, p, none⟩ (.int .i64 x)) := by
  obtain ⟨h1, h2⟩ := h.1.stored p (.int .i64 x)
  refine ⟨?_, gb_trans h.2 h2⟩
  have e : ((tab u n).map (Value.int .i64)).set p (.int .i64 x) = (tab (fun k => if k = p then x else u k) n).map (Value.int .i64) := by rw [← List.map_set, tab_set]
  rw [← e]; exact h1
theorem Fills.drewN (h : Fills W g cap n u wr) (m : Nat) : Fills W g cap n u (wr.drewN m) := by
  have b : Below wr.heap.size wr (wr.drewN m) := below_drewN (Below.refl _ _) _
  exact ⟨h.1.kept (gb_below none b) (by simp [Value.ownBlock]), gb_trans h.2 (gb_below _ b)⟩
theorem Fills.drew (h : Fills W g cap n u wr) : Fills W g cap n u wr.drew := by
  have b : Below wr.heap.size wr wr.drew := (Below.refl _ _).drew
  exact ⟨h.1.kept (gb_below none b) (by simp [Value.ownBlock]), gb_trans h.2 (gb_below _ b)⟩
theorem Fills.keep (h : Fills W g cap n u wr) {b : Nat} {o : Obj} (hb : W.heap[b]? = some o) (hne : b ≠ g) : wr.heap[b]? = some o := (h.2.block b (lt_of_block hb) (fun e => hne (Option.some.inj e))).trans hb
theorem Fills.sees (h : Fills W g cap n u wr) {w : World} {v : Value} {xs : List Int} (hs : Sees w v xs) (hb : Below w.heap.size w W) (hg : w.heap.size ≤ g) : Sees wr v xs := by
  refine hs.below ⟨h.2.os.trans hb.os, h.2.tape.trans hb.tape, h.2.output.trans hb.output, Nat.le_trans hb.size h.2.size, fun k hk => ?_⟩
  rw [h.2.block k (Nat.lt_of_lt_of_le hk hb.size) (fun e => by have := Option.some.inj e; omega), hb.block k hk]
theorem Fills.below (h : Fills W g cap n u wr) {w : World} (hb : Below w.heap.size w W) (hg : w.heap.size ≤ g) : Below w.heap.size w wr :=
  ⟨h.2.os.trans hb.os, h.2.tape.trans hb.tape, h.2.output.trans hb.output, Nat.le_trans hb.size h.2.size, fun k hk => by rw [h.2.block k (Nat.lt_of_lt_of_le hk hb.size) (fun e => by have := Option.some.inj e; omega), hb.block k hk]⟩
theorem Fills.shows (h : Fills W g cap n u wr) : Sees wr (.slice (some ⟨g, 0, none⟩) n cap) (tab u n) := Sees.own h.1
/-- the row behind a store into a variable below it -/
theorem Fills.owns (h : Fills W g cap n u wr) {B D : Nat} (hB : B ≤ g) (hD : D < g) (x y z : Value) :
    (((wr.setCell ⟨D, 0, none⟩ x).setCell ⟨D, 1, none⟩ y).setCell ⟨D, 2, none⟩ z).ownsRow B 41 1 (.slice (some ⟨g, 0, none⟩) n cap) n ((tab u n).map (Value.int .i64)) := by
  have hg : wr.ownsRow g 41 1 (.slice (some ⟨g, 0, none⟩) n cap) n ((tab u n).map (Value.int .i64)) := by
    refine ⟨h.1.1, ?_⟩
    rcases h.1.2 with ⟨e, _⟩ | ⟨g', cap', cur, e, _, r⟩
    · cases e
    · cases e; exact .inr ⟨g, cap, cur, rfl, Nat.le_refl _, r⟩
  exact own_mono (ownsRow_setCell_below (ownsRow_setCell_below (ownsRow_setCell_below hg hD _) hD _) hD _) hB
theorem Fills.apart (h : Fills W g cap n u wr) {b : Nat} {c : Array Value} (hb : wr.heap[b]? = some (.cells c 24 (0, 0))) : b ≠ g := by
  rintro rfl
  rcases h.1.2 with ⟨e, _⟩ | ⟨g', cap', cur, e, _, hg, _⟩
  · cases e
  · cases e; rw [hg] at hb; simp at hb
end
end Go.Proofs.Ytiniobcknmaigaa
