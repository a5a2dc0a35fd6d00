/-
  Texts joined, in the order in which they stand on one another: RSame RNone MathB.
-/
import Derived.Test.YtiniobcknmaigaaGreatG01
import Derived.Test.YtiniobcknmaigaaGreatG02
import Derived.Test.YtiniobcknmaigaaGreatG07
/-
  The contracts of the document's Same and Right.
-/
namespace Go.Proofs.YtiniobcknmaigaaGreat
open Go.RowKit Go.Sort Qm

set_option maxRecDepth 20000 in
set_option maxHeartbeats 1600000 in
theorem rsame_any (r c r' c' : Int) (va vb : Value) (xs ys : List Int) (w : World) (hx : xs.length ≤ 100) (hy : ys.length ≤ 100) (sa : Sees w va xs) (sb : Sees w vb ys) :
    Calls Tryz.prog 44 #[.agg #[.int .i64 r, .int .i64 c, va], .agg #[.int .i64 r', .int .i64 c', vb]] w fun e w' => e = .returned (.bool (sameB r c xs r' c' ys)) ∧ Below w.heap.size w w' := by
  obtain ⟨ao, cap, rfl, ha⟩ := sa
  obtain ⟨bo, bcap, rfl, hb⟩ := sb
  have hS : sameB r c xs r' c' ys = (decide (r = r') && (decide (c = c') && eqB xs ys)) := rfl
  by_cases h1 : r = r'
  · by_cases h2 : c = c'
    · by_cases h3 : xs.length = ys.length
      · subst h1
        subst h2
        obtain ⟨n, hn⟩ : ∃ n, xs.length = n := ⟨_, rfl⟩
        have hm : ys.length = n := by rw [← h3]; exact hn
        rw [hn] at hx ha ⊢
        rw [hm] at hy hb ⊢
        have HN : Hid (xs.length = n ∧ ys.length = n) := ⟨hn, hm⟩
        obtain ⟨E, hE⟩ : ∃ E, eqB xs ys = E := ⟨_, rfl⟩
        have hS' : sameB r c xs r c ys = E := by rw [hS, hE]; simp
        rw [hS']
        have HE : Hid (eqB xs ys = E) := hE
        clear hn hm hE hS hS' h3
        obtain ⟨W, hW⟩ : ∃ W, (w.alloc (.cells #[.int .i64 r, .int .i64 c, .slice ao n cap] 24)).alloc (.cells #[.int .i64 r, .int .i64 c, .slice bo n bcap] 24) = W := ⟨_, rfl⟩
        obtain ⟨x1, x2⟩ := allocs2 w (.cells #[.int .i64 r, .int .i64 c, .slice ao n cap] 24) (.cells #[.int .i64 r, .int .i64 c, .slice bo n bcap] 24)
        have bq := ball2 w (.cells #[.int .i64 r, .int .i64 c, .slice ao n cap] 24) (.cells #[.int .i64 r, .int .i64 c, .slice bo n bcap] 24)
        rw [hW] at x1 x2 bq
        obtain ⟨u0, u1, u2, _⟩ := mat_cells x1
        obtain ⟨v0, v1, v2, _⟩ := mat_cells x2
        go_enter Tryz.func44, Tryz.ntmps44
        go_wp2
        clear u0 u1 u2 v0 v1 v2
        go_loopw [5] (fun i wr => ∃ k : Nat, k ≤ n ∧ i = .int .i64 k ∧ Hid (∀ j, j < k → ge xs j = ge ys j) ∧ Below W.heap.size W wr) (fun i _ => n - (intOf i).toNat)
        case atStart => exact ⟨0, Nat.zero_le _, rfl, fun j hj => absurd hj (Nat.not_lt_zero _), Below.refl _ _⟩
        case round =>
          obtain ⟨k, hk, rfl, hno, hbl⟩ := hrel
          obtain ⟨u0, u1, u2, _⟩ := mat_cells (keep hbl x1)
          obtain ⟨v0, v1, v2, _⟩ := mat_cells (keep hbl x2)
          by_cases hlt : k < n
          · obtain ⟨ad, rfl, la, ca⟩ := ha k hlt
            obtain ⟨bd, rfl, lb, cb⟩ := hb k hlt
            have ca' : wr.cell? (ad.add k) = _ := ((bt bq hbl).cell (by rw [add_block]; exact la)).trans ca
            have cb' : wr.cell? (bd.add k) = _ := ((bt bq hbl).cell (by rw [add_block]; exact lb)).trans cb
            clear ca cb
            by_cases he : ge xs k = ge ys k
            · obtain ⟨x, hx'⟩ : ∃ x, ge xs k = x := ⟨_, rfl⟩
              have hy' : ge ys k = x := by rw [← he]; exact hx'
              have HX : Hid (ge xs k = ge ys k) := he
              clear he
              go_wp2
              go_quiet (fail)
              go_wp2
              go_roundw
              case rel =>
                refine ⟨k + 1, by omega, by go_num, ?_, Below.trans hbl (below_drewN (Below.refl _ _) _)⟩
                intro j hj
                by_cases e : j = k
                · subst e; exact HX.out
                · exact hno.out j (by omega)
              case measure => simp [intOf]; omega
            · have HX : Hid (eqB xs ys = false) := eqB_at he
              have e1 : (ge xs k == ge ys k) = false := by simpa using he
              obtain ⟨x, hx'⟩ : ∃ x, ge xs k = x := ⟨_, rfl⟩
              obtain ⟨y, hy'⟩ : ∃ y, ge ys k = y := ⟨_, rfl⟩
              rw [hx', hy'] at e1 he
              have e2 : ¬ (x = y) := he
              clear he
              go_wp2
              go_quiet (fail)
              go_wp2
              go_ret
              exact ⟨by rw [← HE.out, HX.out]; rfl, Below.trans (bt bq hbl) (below_drewN (Below.refl _ _) _)⟩
          · have e : k = n := by omega
            subst e
            go_wp2
            go_ret
            refine ⟨?_, bt bq hbl⟩
            rw [← HE.out, eqB_all (by rw [HN.out.1, HN.out.2]) (by rw [HN.out.1]; exact hno.out)]
            rfl
      · rw [hS, eqB_len h3]
        have e3 : ¬ ((xs.length : Int) = (ys.length : Int)) := by omega
        clear hS
        go_enter Tryz.func44, Tryz.ntmps44
        go_wp2
        go_ret
        exact ⟨by simp, ball2 _ _ _⟩
    · rw [hS]
      clear hS
      go_enter Tryz.func44, Tryz.ntmps44
      go_wp2
      go_ret
      exact ⟨by simp; intro _ e; exact absurd e h2, ball2 _ _ _⟩
  · rw [hS]
    clear hS
    go_enter Tryz.func44, Tryz.ntmps44
    go_wp2
    go_ret
    exact ⟨by simp; intro e; exact absurd e h1, ball2 _ _ _⟩

set_option maxRecDepth 20000 in
set_option maxHeartbeats 1600000 in
theorem rright_any (r c : Int) (va : Value) (xs : List Int) (w : World) (sa : Sees w va xs) :
    Calls Tryz.prog 6 #[.agg #[.int .i64 r, .int .i64 c, va]] w fun e w' => e = .returned (.bool (rightB r c xs)) ∧ Below w.heap.size w w' := by
  obtain ⟨ao, cap, rfl, ha⟩ := sa
  have hS : rightB r c xs = (laidB r c xs.length && !outB xs xs.length) := rfl
  have hB := box_below w (.cells #[.int .i64 r, .int .i64 c, .slice ao xs.length cap] 24)
  by_cases h1 : 1 ≤ r
  · by_cases h2 : r ≤ 8
    · by_cases h3 : 1 ≤ c
      · by_cases h4 : c ≤ 8
        · obtain ⟨R, rfl⟩ := Int.eq_ofNat_of_zero_le (by omega : 0 ≤ r)
          obtain ⟨C, rfl⟩ := Int.eq_ofNat_of_zero_le (by omega : 0 ≤ c)
          have hm : R * C ≤ 64 := mul_le_64 (by omega) (by omega)
          obtain ⟨q, hq⟩ : ∃ q, R * C = q := ⟨_, rfl⟩
          have hq' : (R : Int) * (C : Int) = (q : Int) := by rw [← hq]; exact (Int.natCast_mul R C).symm
          rw [hq] at hm
          by_cases h5 : xs.length = q
          · have hl : laidB R C xs.length = true := laidB_mk (by omega) (by omega) (by omega) (by omega) (by omega)
            rw [hS, hl]
            obtain ⟨n, hn⟩ : ∃ n, xs.length = n := ⟨_, rfl⟩
            have hnq : n = q := by omega
            subst hnq
            obtain ⟨O, hO⟩ : ∃ O, outB xs xs.length = O := ⟨_, rfl⟩
            rw [hO]
            rw [hn] at ha hB hO ⊢
            have HO : Hid (outB xs n = O) := hO
            clear hO hl hS hq h5 hn
            obtain ⟨W, hW⟩ : ∃ W, w.alloc (.cells #[.int .i64 R, .int .i64 C, .slice ao n cap] 24) = W := ⟨_, rfl⟩
            have x1 := heap_new w (.cells #[.int .i64 R, .int .i64 C, .slice ao n cap] 24)
            rw [hW] at x1 hB
            obtain ⟨u0, u1, u2, _⟩ := mat_cells x1
            have ha' : ∀ k, k < n → ∃ ad, ao = some ad ∧ W.cell? (ad.add k) = some (.int .i64 (ge xs k)) := fun k hk => by
              obtain ⟨ad, h1, h2, h3⟩ := ha k hk
              exact ⟨ad, h1, (hB.cell (by rw [add_block]; exact h2)).trans h3⟩
            clear ha
            go_enter Tryz.func6, Tryz.ntmps6
            go_wp2
            go_loop [3] (fun i => ∃ k : Nat, k ≤ n ∧ i = .int .i64 k ∧ Hid (outB xs k = false)) (fun i => n - (intOf i).toNat)
            case atStart => exact ⟨0, Nat.zero_le _, rfl, rfl⟩
            case round =>
              obtain ⟨k, hk, rfl, hno⟩ := hrel
              by_cases hlt : k < n
              · obtain ⟨ad, rfl, hc⟩ := ha' k hlt
                cases ho : ob (ge xs k) with
                | true =>
                  have hi : inB (ge xs k) = false := by unfold inB; rw [ho]; rfl
                  go_wp2_with (go_at_call 15; refine (rin_any _ _).mono ?_; rintro e w' ⟨rfl, rfl⟩)
                  go_ret
                  exact ⟨by rw [← HO.out, show outB xs n = true from anyB_hit hlt ho]; rfl, hB⟩
                | false =>
                  have hi : inB (ge xs k) = true := by unfold inB; rw [ho]; rfl
                  go_wp2_with (go_at_call 15; refine (rin_any _ _).mono ?_; rintro e w' ⟨rfl, rfl⟩)
                  go_round
                  case rel => exact ⟨k + 1, by omega, by go_num, by show outB xs (k + 1) = false; unfold outB; rw [anyB, ho]; have := hno.out; unfold outB at this; rw [this]; rfl⟩
                  case measure => simp [intOf]; omega
              · have e : k = n := by omega
                subst e
                go_wp2
                go_ret
                exact ⟨by rw [← HO.out, hno.out]; rfl, hB⟩
          · have hl : laidB R C xs.length = false := by
              cases e : laidB R C xs.length with
              | false => rfl
              | true =>
                obtain ⟨R', C', e1, e2, _, _, _, _, e3⟩ := laidB_in e
                have e1 : R = R' := by omega
                have e2 : C = C' := by omega
                subst e1; subst e2
                omega
            rw [hS, hl]
            have e3 : ¬ ((xs.length : Int) = (q : Int)) := by omega
            have e4 : ((xs.length : Int) == (q : Int)) = false := by simp; omega
            have d1 : decide ((R : Int) < 1) = false := by simp; omega
            have d2 : decide ((8 : Int) < (R : Int)) = false := by simp; omega
            have d3 : decide ((C : Int) < 1) = false := by simp; omega
            have d4 : decide ((8 : Int) < (C : Int)) = false := by simp; omega
            clear hS hl hq
            go_enter Tryz.func6, Tryz.ntmps6
            go_wp2
            go_ret
            exact ⟨rfl, hB⟩
        · have hl : rightB r c xs = false := by rw [hS]; unfold laidB; rw [cntB_f (n := c) (by omega)]; simp
          rw [hl]
          clear hS hl
          go_enter Tryz.func6, Tryz.ntmps6
          go_wp2
          go_ret
          exact ⟨rfl, hB⟩
      · have hl : rightB r c xs = false := by rw [hS]; unfold laidB; rw [cntB_f (n := c) (by omega)]; simp
        rw [hl]
        clear hS hl
        go_enter Tryz.func6, Tryz.ntmps6
        go_wp2
        go_ret
        exact ⟨rfl, hB⟩
    · have hl : rightB r c xs = false := by rw [hS]; unfold laidB; rw [cntB_f (n := r) (by omega)]; simp
      rw [hl]
      clear hS hl
      go_enter Tryz.func6, Tryz.ntmps6
      go_wp2
      go_ret
      exact ⟨rfl, hB⟩
  · have hl : rightB r c xs = false := by rw [hS]; unfold laidB; rw [cntB_f (n := r) (by omega)]; simp
    rw [hl]
    clear hS hl
    go_enter Tryz.func6, Tryz.ntmps6
    go_wp2
    go_ret
    exact ⟨rfl, hB⟩
end Go.Proofs.YtiniobcknmaigaaGreat

/-
  The contract of the document's None; what a row that is filled place by place holds.
-/
namespace Go.Proofs.YtiniobcknmaigaaGreat
open Go.RowKit Go.Sort Qm

set_option maxHeartbeats 800000 in
theorem none_any (R C : Nat) (hR : R ≤ 8) (hC : C ≤ 8) (h1 : 1 ≤ R) (h2 : 1 ≤ C) (w : World) :
    Calls Tryz.prog 61 #[.int .i64 R, .int .i64 C] w fun e b => ∃ g cap, e = .returned (.agg #[.int .i64 R, .int .i64 C, .slice (some ⟨g, 0, none⟩) (R * C) cap]) ∧
      b.ownsRow w.heap.size 27 1 (.slice (some ⟨g, 0, none⟩) (R * C) cap) (R * C) ((tab (fun _ => (0 : Int)) (R * C)).map (Value.int .i64)) ∧ Below w.heap.size w b := by
  obtain ⟨i0, hi, hz0, hz1, hz2⟩ := info_parts Tryz.info33
  have hb : R * C ≤ 64 := mul_le_64 hR hC
  have hp : 1 ≤ R * C := Nat.mul_pos h1 h2
  obtain ⟨q, hq⟩ : ∃ q, R * C = q := ⟨_, rfl⟩
  have hq' : (R : Int) * (C : Int) = (q : Int) := by rw [← hq]; exact (Int.natCast_mul R C).symm
  rw [hq] at hb hp ⊢
  clear hq
  obtain ⟨W, hW⟩ : ∃ W, w.alloc (.cells #[.int .i64 0, .int .i64 0, .slice none 0 0] 24) = W := ⟨_, rfl⟩
  have x1 := heap_new w (.cells #[.int .i64 0, .int .i64 0, .slice none 0 0] 24)
  have bW := box_below w (.cells #[.int .i64 0, .int .i64 0, .slice none 0 0] 24)
  have hWs : W.heap.size = w.heap.size + 1 := by rw [← hW]; simp
  rw [hW] at x1 bW
  go_enter Tryz.func61, Tryz.ntmps61
  go_wp2
  go_loopw [5, 6] (fun l i wr => ∃ k : Nat, k ≤ q ∧ i = .int .i64 k ∧ wr.ownsRow (w.heap.size + 1) 27 1 l k ((tab (fun _ => (0 : Int)) k).map (Value.int .i64)) ∧ Below (w.heap.size + 1) W wr) (fun _ i _ => q - (intOf i).toNat)
  case atStart => exact ⟨0, Nat.zero_le _, rfl, World.ownsRow_nil _ _ _ _, Below.refl _ _⟩
  case round =>
    obtain ⟨k, hk, rfl, hown, hbl⟩ := hrel
    have hsz : w.heap.size + 1 ≤ wr.heap.size := by have := hbl.size; omega
    by_cases hlt : k < q
    · go_wp2_with (at_builtin; refine wpList_append_own _ rfl _ _ 22 rfl (w.heap.size + 1) 27 i0 (.int .i64 0) 1 8 Tryz.under22 hi hz0 hz1 hz2 rfl (by decide) _ _ _ rfl (hown.alloc _) ⟨_, 0, none⟩ 1 1 [.int .i64 0] rfl rfl c1_one c2_one (by unfold maxLen; omega) (by omega) (by simp; omega) ?_; intro v2 w2 hown2 hg2 hnil2; have b2 : Below (w.heap.size + 1) W w2 := (hbl.alloc hsz _).grown hg2 (by simp; omega) (fun m e => (hown.lt m e).1); have h2' : w2.ownsRow (w.heap.size + 1) 27 1 v2 (k + 1) ((tab (fun _ => (0 : Int)) (k + 1)).map (Value.int .i64)) := (by rw [tab_succ, List.map_append]; exact hown2); clear hown2 hg2 hnil2)
      go_roundw
      case rel => exact ⟨k + 1, by omega, by go_num, h2', b2⟩
      case measure => simp [intOf]; omega
    · have e : k = q := by omega
      subst e
      have y1 := keep (hbl.mono (Nat.le_of_eq hWs)) x1
      obtain ⟨d0, d1, d2, f0, f1, f2⟩ := mat_cells y1
      obtain ⟨g, cap, hv⟩ : ∃ g cap, u5 = .slice (some ⟨g, 0, none⟩) k cap := by
        rcases hown.2 with ⟨_, h0⟩ | ⟨g, cap, cur, hv, _⟩
        · omega
        · exact ⟨g, cap, hv⟩
      subst hv
      go_wp2
      refine bodyPost_ret (v := .agg #[.int .i64 R, .int .i64 C, .slice (some ⟨g, 0, none⟩) k cap]) (by simp [results, Tryz.results61, go_sem, d0, d1, d2]) rfl ?_
      exact ⟨g, cap, rfl, own_mono (ownsRow_setCell_below (ownsRow_setCell_below (ownsRow_setCell_below hown (Nat.lt_succ_self _) _) (Nat.lt_succ_self _) _) (Nat.lt_succ_self _) _) (by omega), below_put (bt bW (hbl.mono (Nat.le_of_eq hWs))) (Nat.le_refl _) _ _ _⟩

/-- a row of n numbers at block g, which was made and is being filled -/
def Fills (W : World) (g cap n : Nat) (u : Nat → Int) (wr : World) : Prop :=
  wr.ownsRow 0 27 1 (.slice (some ⟨g, 0, none⟩) n cap) n ((tab u n).map (Value.int .i64)) ∧ W.grownBy wr (some g)
section
variable {W wr : World} {g cap n : Nat} {u : Nat → Int}
theorem Fills.start {base : Nat} (h : W.ownsRow base 27 1 (.slice (some ⟨g, 0, none⟩) n cap) n ((tab u n).map (Value.int .i64))) : Fills W g cap n u W := ⟨own_mono h (Nat.zero_le _), gb_refl _ _⟩
theorem Fills.cell (h : Fills W g cap n u wr) {k : Nat} (hk : k < n) : wr.cell? ⟨g, k, none⟩ = some (.int .i64 (u k)) := by
  rw [h.1.cellAt k (by omega), List.getElem?_map, List.getElem?_eq_getElem (by rw [tab_len]; exact hk), tab_getElem]; rfl
theorem Fills.free (h : Fills W g cap n u wr) (k : Nat) : wr.frozen? ⟨g, k, none⟩ = false := h.1.frozenAt k
theorem Fills.congr (h : Fills W g cap n u wr) {u' : Nat → Int} (e : ∀ k, k < n → u k = u' k) : Fills W g cap n u' wr := by
  refine ⟨?_, h.2⟩; rw [← tab_congr e]; exact h.1
theorem Fills.store (h : Fills W g cap n u wr) (p : Nat) (x : Int) : Fills W g cap n (fun k => if k = p then x else u k) (wr.setCell ⟨g, p, none⟩ (.int .i64 x)) := by
  obtain ⟨h1, h2⟩ := h.1.stored p (.int .i64 x)
  refine ⟨?_, gb_trans h.2 h2⟩
  have e : ((tab u n).map (Value.int .i64)).set p (.int .i64 x) = (tab (fun k => if k = p then x else u k) n).map (Value.int .i64) := by rw [← List.map_set, tab_set]
  rw [← e]; exact h1
theorem Fills.drewN (h : Fills W g cap n u wr) (m : Nat) : Fills W g cap n u (wr.drewN m) := by
  have b : Below wr.heap.size wr (wr.drewN m) := below_drewN (Below.refl _ _) _
  exact ⟨h.1.kept (gb_below none b) (by simp [Value.ownBlock]), gb_trans h.2 (gb_below _ b)⟩
theorem Fills.drew (h : Fills W g cap n u wr) : Fills W g cap n u wr.drew := by
  have b : Below wr.heap.size wr wr.drew := (Below.refl _ _).drew
  exact ⟨h.1.kept (gb_below none b) (by simp [Value.ownBlock]), gb_trans h.2 (gb_below _ b)⟩
theorem Fills.keep (h : Fills W g cap n u wr) {b : Nat} {o : Obj} (hb : W.heap[b]? = some o) (hne : b ≠ g) : wr.heap[b]? = some o := (h.2.block b (lt_of_block hb) (fun e => hne (Option.some.inj e))).trans hb
theorem Fills.sees (h : Fills W g cap n u wr) {w : World} {v : Value} {xs : List Int} (hs : Sees w v xs) (hb : Below w.heap.size w W) (hg : w.heap.size ≤ g) : Sees wr v xs := by
  refine hs.below ⟨h.2.os.trans hb.os, h.2.tape.trans hb.tape, h.2.output.trans hb.output, Nat.le_trans hb.size h.2.size, fun k hk => ?_⟩
  rw [h.2.block k (Nat.lt_of_lt_of_le hk hb.size) (fun e => by have := Option.some.inj e; omega), hb.block k hk]
theorem Fills.below (h : Fills W g cap n u wr) {w : World} (hb : Below w.heap.size w W) (hg : w.heap.size ≤ g) : Below w.heap.size w wr :=
  ⟨h.2.os.trans hb.os, h.2.tape.trans hb.tape, h.2.output.trans hb.output, Nat.le_trans hb.size h.2.size, fun k hk => by rw [h.2.block k (Nat.lt_of_lt_of_le hk hb.size) (fun e => by have := Option.some.inj e; omega), hb.block k hk]⟩
theorem Fills.shows (h : Fills W g cap n u wr) : Sees wr (.slice (some ⟨g, 0, none⟩) n cap) (tab u n) := Sees.own h.1
/-- the row behind a store into a variable below it -/
theorem Fills.owns (h : Fills W g cap n u wr) {B D : Nat} (hB : B ≤ g) (hD : D < g) (x y z : Value) :
    (((wr.setCell ⟨D, 0, none⟩ x).setCell ⟨D, 1, none⟩ y).setCell ⟨D, 2, none⟩ z).ownsRow B 27 1 (.slice (some ⟨g, 0, none⟩) n cap) n ((tab u n).map (Value.int .i64)) := by
  have hg : wr.ownsRow g 27 1 (.slice (some ⟨g, 0, none⟩) n cap) n ((tab u n).map (Value.int .i64)) := by
    refine ⟨h.1.1, ?_⟩
    rcases h.1.2 with ⟨e, _⟩ | ⟨g', cap', cur, e, _, r⟩
    · cases e
    · cases e; exact .inr ⟨g, cap, cur, rfl, Nat.le_refl _, r⟩
  exact own_mono (ownsRow_setCell_below (ownsRow_setCell_below (ownsRow_setCell_below hg hD _) hD _) hD _) hB
theorem Fills.apart (h : Fills W g cap n u wr) {b : Nat} {c : Array Value} (hb : wr.heap[b]? = some (.cells c 24 (0, 0))) : b ≠ g := by
  rintro rfl
  rcases h.1.2 with ⟨e, _⟩ | ⟨g', cap', cur, e, _, hg, _⟩
  · cases e
  · cases e; rw [hg] at hb; simp at hb
end
end Go.Proofs.YtiniobcknmaigaaGreat

/-
  Plain arithmetic: products by halves.
-/
namespace Go.Proofs.YtiniobcknmaigaaGreat.Qm

theorem mul_bd {a b A B : Int} (ha : 0 ≤ a) (hA : a ≤ A) (hb : 0 ≤ b) (hB : b ≤ B) : 0 ≤ a * b ∧ a * b ≤ A * B :=
  ⟨Int.mul_nonneg ha hb, Int.mul_le_mul hA hB hb (by omega)⟩
/-- a product by halves of 24 bits -/
theorem halves (x y : Int) : x * y = (x / 16777216) * (y / 16777216) * 281474976710656 + (x / 16777216) * (y % 16777216) * 16777216 + (x % 16777216) * (y / 16777216) * 16777216 + (x % 16777216) * (y % 16777216) := by
  have ex : x = (x / 16777216) * 16777216 + x % 16777216 := by omega
  have ey : y = (y / 16777216) * 16777216 + y % 16777216 := by omega
  generalize x / 16777216 = x1 at *
  generalize x % 16777216 = x0 at *
  generalize y / 16777216 = y1 at *
  generalize y % 16777216 = y0 at *
  subst ex ey
  rw [Int.add_mul, Int.mul_add, Int.mul_add]
  have e1 : x1 * 16777216 * (y1 * 16777216) = x1 * y1 * 281474976710656 := by
    rw [Int.mul_assoc, Int.mul_left_comm 16777216 y1 16777216, ← Int.mul_assoc x1]
    generalize x1 * y1 = t
    omega
  have e2 : x1 * 16777216 * y0 = x1 * y0 * 16777216 := Int.mul_right_comm _ _ _
  have e3 : x0 * (y1 * 16777216) = x0 * y1 * 16777216 := (Int.mul_assoc _ _ _).symm
  rw [e1, e2, e3]
  omega
theorem ng_eq (a b : Int) : (!(decide (cl a < 0) == decide (cl b < 0))) = flip (flip false (cl a)) (cl b) := by
  by_cases h1 : cl a < 0 <;> by_cases h2 : cl b < 0 <;> simp [flip, h1, h2]

end Go.Proofs.YtiniobcknmaigaaGreat.Qm
