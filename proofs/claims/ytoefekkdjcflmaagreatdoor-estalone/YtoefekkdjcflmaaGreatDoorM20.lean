/- Parts of the proof. -/
import Derived.Maps.AppendAt
import Derived.Test.YtoefekkdjcflmaaGreatDoorM19
namespace Go.Proofs.YtoefekkdjcflmaaGreatDoor
open Go.RowKit Go.Sort Qm
namespace Qm
def gdu (n : Nat) (zs : List Int) (a : Nat) (p : Nat) : Int := if p / n = p % n ∧ p / n < a ∧ ge zs p < 0 then 0 else ge zs p
def gd (n : Nat) (xs : List Int) : List Int := tab (gdu n (evn n xs) n) (n * n)
theorem gd_len (n : Nat) (xs : List Int) : (gd n xs).length = n * n := tab_len _ _
theorem gdu_at {n i : Nat} (zs : List Int) (hi : i < n) : gdu n zs i (i * n + i) = ge zs (i * n + i) := by
  unfold gdu; rw [div_of hi, mod_of hi, if_neg (by omega)]
theorem gdu_put {n i : Nat} (zs : List Int) (hi : i < n) (hz : ge zs (i * n + i) < 0) (p : Nat) : (if p = i * n + i then 0 else gdu n zs i p) = gdu n zs (i + 1) p := by
  by_cases e : p = i * n + i
  · subst e; rw [if_pos rfl]; unfold gdu; rw [div_of hi, mod_of hi, if_pos ⟨rfl, by omega, hz⟩]
  · rw [if_neg e]
    unfold gdu
    by_cases h : p / n = p % n ∧ p / n < i + 1 ∧ ge zs p < 0
    · have hp : p / n < i := by
        rcases Nat.lt_or_ge (p / n) i with h2 | h2
        · exact h2
        · exfalso; apply e
          have h3 : p / n = i := by omega
          have := Nat.div_add_mod p n
          rw [h3, ← h.1, h3, Nat.mul_comm] at this
          omega
      rw [if_pos h, if_pos ⟨h.1, hp, h.2.2⟩]
    · rw [if_neg h, if_neg (fun g => h ⟨g.1, by omega, g.2.2⟩)]
theorem gdu_stay {n i : Nat} (zs : List Int) (hz : ¬ ge zs (i * n + i) < 0) (p : Nat) : gdu n zs i p = gdu n zs (i + 1) p := by
  unfold gdu
  by_cases h : p / n = p % n ∧ p / n < i + 1 ∧ ge zs p < 0
  · have hp : p / n < i := by
      rcases Nat.lt_or_ge (p / n) i with h2 | h2
      · exact h2
      · exfalso; apply hz
        have h3 : p / n = i := by omega
        have := Nat.div_add_mod p n
        rw [h3, ← h.1, h3, Nat.mul_comm] at this
        have e : p = i * n + i := by omega
        rw [← e]; exact h.2.2
    rw [if_pos h, if_pos ⟨h.1, hp, h.2.2⟩]
  · rw [if_neg h, if_neg (fun g => h ⟨g.1, by omega, g.2.2⟩)]
theorem gdu_zero (n : Nat) (zs : List Int) (p : Nat) : gdu n zs 0 p = ge zs p := by unfold gdu; rw [if_neg (by omega)]
end Qm
theorem own_form {w : World} {B n : Nat} {v : Value} {xs : List Value} (h : w.ownsRow B 22 1 v n xs) (hn : 0 < n) : ∃ g cap, v = .slice (some ⟨g, 0, none⟩) n cap ∧ B ≤ g := by
  rcases h.2 with ⟨_, h0⟩ | ⟨g, cap, cur, e, hb, _⟩
  · omega
  · exact ⟨g, cap, e, hb⟩
end Go.Proofs.YtoefekkdjcflmaaGreatDoor
namespace Go.Proofs.YtoefekkdjcflmaaGreatDoor
open Go.RowKit Go.Sort Qm
set_option maxHeartbeats 800000 in
theorem onDiag_any (r c i : Nat) (hi : i ≤ 8) (hc : c ≤ 8) (ao : Option Addr) (n cap : Nat) (w : World) :
    Calls Tryz.prog 167 #[.agg #[.int .i64 r, .int .i64 c, .slice ao n cap], .int .i64 i] w fun e w' => e = .returned (.int .i64 (i * c + i : Nat)) ∧ Below w.heap.size w w' := by
  have hq : i * c ≤ 64 := mul_le_64 hi hc
  obtain ⟨q, hq'⟩ : ∃ q, i * c = q := ⟨_, rfl⟩
  have hm : (i : Int) * (c : Int) = (q : Int) := by rw [← hq']; exact (Int.natCast_mul i c).symm
  rw [hq'] at hq ⊢
  clear hq'
  go_enter Tryz.func167, Tryz.ntmps167
  go_wp2
  go_ret
  exact ⟨by go_num, box_below w _⟩
theorem gdu_step {n i : Nat} (zs : List Int) (hi : i < n) (p : Nat) : (if p = i * n + i then (if ge zs (i * n + i) < 0 then 0 else ge zs (i * n + i)) else gdu n zs i p) = gdu n zs (i + 1) p := by
  by_cases hz : ge zs (i * n + i) < 0
  · rw [if_pos hz]; exact gdu_put zs hi hz p
  · rw [if_neg hz, ← gdu_stay zs hz p]
    by_cases e : p = i * n + i
    · rw [if_pos e, e, gdu_at zs hi]
    · rw [if_neg e]
theorem Fills.grow {W wr wx : World} {g cap n : Nat} {u : Nat → Int} (h : Fills W g cap n u wr) (hb : Below wr.heap.size wr wx) : Fills W g cap n u wx :=
  ⟨h.1.kept (gb_below none hb) (.inr (by simp [Value.ownBlock])), gb_trans h.2 (gb_below _ hb)⟩
set_option maxRecDepth 20000 in
set_option maxHeartbeats 1600000 in
theorem kgood_any (C : Nat) (h2 : 1 ≤ C) (hC : C ≤ 8) (v : Value) (xs : List Int) (hn : xs.length = C * C) (hal : AllIn xs) (w : World) (hs : Sees w v xs) :
    Calls Tryz.prog 117 #[.agg #[.int .i64 C, .int .i64 C, v]] w fun e b =>
      ∃ v, e = .returned (.agg #[.int .i64 C, .int .i64 C, v]) ∧ Sees b v (gd C xs) ∧ New w.heap.size v ∧ Below w.heap.size w b := by
  have h64 : C * C ≤ 64 := mul_le_64 hC hC
  have hpos : 0 < C * C := Nat.mul_pos h2 h2
  have hev := fun w v hs => even_own C h2 hC v xs hn hal w hs
  obtain ⟨ao, cap, rfl⟩ := hs.slice
  unfold gd
  have hzl : (evn C xs).length = C * C := evn_len C xs
  obtain ⟨zs, hzs⟩ : ∃ zs, evn C xs = zs := ⟨_, rfl⟩
  rw [hzs] at hev hzl ⊢
  obtain ⟨n, hq⟩ : ∃ n, C * C = n := ⟨_, rfl⟩
  have HQ : Hid (C * C = n) := hq
  rw [hq] at hev h64 hpos hzl ⊢
  have HZ : Hid (zs.length = n) := hzl
  clear hn hal hzs hq hzl
  obtain ⟨W, hW⟩ : ∃ W, (w.alloc (.cells #[.int .i64 C, .int .i64 C, .slice ao xs.length cap] 29)).alloc (.cells #[.int .i64 0, .int .i64 0, .slice none 0 0] 29) = W := ⟨_, rfl⟩
  obtain ⟨x1, x2⟩ := allocs2 w (.cells #[.int .i64 C, .int .i64 C, .slice ao xs.length cap] 29) (.cells #[.int .i64 0, .int .i64 0, .slice none 0 0] 29)
  have bq := ball2 w (.cells #[.int .i64 C, .int .i64 C, .slice ao xs.length cap] 29) (.cells #[.int .i64 0, .int .i64 0, .slice none 0 0] 29)
  rw [hW] at x1 x2 bq
  have hE := hev W _ (hs.below bq)
  rw [← hW] at hE
  have HW : Hid (_ = W) := hW
  clear hW hev
  go_enter Tryz.func117, Tryz.ntmps117
  go_wp2_with (go_at_call 166; refine hE.mono ?_; rintro e w1 ⟨v1, rfl, hown, b1⟩; rw [HW.out] at b1 hown; obtain ⟨g, gc, rfl, hgW⟩ := own_form hown hpos)
  have hDg : w.heap.size + 1 < g := Nat.lt_of_lt_of_le (lt_of_block x2) hgW
  have y2 := heap_old (keep b1 x2) (.cells #[.int .i64 C, .int .i64 C, .slice (some ⟨g, 0, none⟩) n gc] 29)
  have y3 := heap_new w1 (.cells #[.int .i64 C, .int .i64 C, .slice (some ⟨g, 0, none⟩) n gc] 29)
  have bw := (bt (bt bq b1) (box_below w1 (.cells #[.int .i64 C, .int .i64 C, .slice (some ⟨g, 0, none⟩) n gc] 29)))
  have hgw : w.heap.size ≤ g := Nat.le_trans bq.size hgW
  have F0 : Fills (w1.alloc (.cells #[.int .i64 C, .int .i64 C, .slice (some ⟨g, 0, none⟩) n gc] 29)) g gc n (gdu C zs 0) (w1.alloc (.cells #[.int .i64 C, .int .i64 C, .slice (some ⟨g, 0, none⟩) n gc] 29)) := by
    refine Fills.start (base := W.heap.size) ?_
    have e : tab (gdu C zs 0) n = zs := tab_ge HZ.out fun k _ => gdu_zero C zs k
    rw [e]
    exact hown.alloc _
  obtain ⟨V, hV⟩ : ∃ V, w1.alloc (.cells #[.int .i64 C, .int .i64 C, .slice (some ⟨g, 0, none⟩) n gc] 29) = V := ⟨_, rfl⟩
  rw [hV] at y2 y3 bw F0 ⊢
  have gx2 := F0.apart y2
  have gx3 := F0.apart y3
  clear hV x1 x2 hown b1 bq hE
  go_loopw [16] (fun i wr => ∃ a : Nat, a ≤ C ∧ i = .int .i64 a ∧ Fills V g gc n (gdu C zs a) wr) (fun i _ => C - (intOf i).toNat)
  case atStart => exact ⟨0, Nat.zero_le _, rfl, F0⟩
  case round =>
    clear F0
    obtain ⟨i, hi, rfl, hF⟩ := hrel
    obtain ⟨v0, v1, v2, _⟩ := mat_cells (hF.keep y3 gx3)
    by_cases hlt : i < C
    · have pA : i * C + i < n := by rw [← HQ.out]; exact at_lt hlt hlt
      have kD := fun v => onDiag_any C C i (by omega) hC (some ⟨g, 0, none⟩) n gc v
      have HG : Hid (∀ wx, Fills V g gc n (gdu C zs i) wx → wx.cell? ⟨g, i * C + i, none⟩ = some (.int .i64 (ge zs (i * C + i))) ∧ wx.frozen? ⟨g, i * C + i, none⟩ = false ∧ Fills V g gc n (gdu C zs (i + 1)) (wx.setCell ⟨g, i * C + i, none⟩ (.int .i64 (if ge zs (i * C + i) < 0 then 0 else ge zs (i * C + i))))) := fun wx hx => by
        have hc := hx.cell pA
        rw [gdu_at zs hlt] at hc
        exact ⟨hc, hx.free _, (hx.store (i * C + i) _).congr fun k _ => gdu_step zs hlt k⟩
      generalize ge zs (i * C + i) = x at HG
      generalize i * C + i = qa at pA kD HG
      go_wp2_with (go_at_call 167; refine (kD _).mono ?_; rintro e wx ⟨rfl, bx⟩; have hFx := hF.grow bx; obtain ⟨hc, hf, hFn⟩ := HG.out wx hFx; obtain ⟨u0, u1, u2, _⟩ := mat_cells (hFx.keep y3 gx3))
      have ta : ((qa : Int)).toNat = qa := by omega
      have la : (qa : Int) < (n : Int) := by omega
      have za : (0 : Int) ≤ (qa : Int) := by omega
      have hFd := hFn
      clear hF hFn hFx HG
      go_still_tail 10, (by kernel_rfl)
      change wpList Tryz.prog _ _ _ _ wx.drew
      go_wp2
      go_roundw
      case rel => exact ⟨i + 1, by omega, by go_num, hFd.drew⟩
      case measure => simp [intOf]; omega
    · have e : i = C := by omega
      subst e
      obtain ⟨d0, d1, d2, f0, f1, f2⟩ := mat_cells (hF.keep y2 gx2)
      have hsh := hF.shows
      have hbl := hF.below bw hgw
      clear hF
      go_wp2
      refine bodyPost_ret (v := .agg #[.int .i64 i, .int .i64 i, .slice (some ⟨g, 0, none⟩) n gc]) (by simp [results, Tryz.results117, go_sem, d0, d1, d2]) rfl ?_
      exact ⟨_, rfl, hsh.put (new_at g n gc) hDg _ _ _, (new_at g n gc).mono hgw, below_put hbl (by omega) _ _ _⟩
namespace Qm
def symP (n : Nat) (ps : List Int) (i : Nat) : Prop := 0 ≤ ge ps (i * n + i) ∧ ∀ k, k < i → ge ps (i * n + k) = ge ps (k * n + i)
instance (n : Nat) (ps : List Int) (i : Nat) : Decidable (symP n ps i) := by unfold symP; infer_instance
def evB (n : Nat) (ps : List Int) : Bool := decide (∀ i, i < n → symP n ps i)
def trkB (r1 c1 : Int) (xs : List Int) (r2 c2 : Int) (ps : List Int) : Bool := rightB r1 c1 xs && (rightB r2 c2 ps && (decide (c1 = 1) && (decide (r2 = r1) && (decide (c2 = r1) && evB r1.toNat ps))))
end Qm
set_option maxRecDepth 20000 in
set_option maxHeartbeats 1600000 in
theorem rright5_any (r1 c1 r2 c2 : Int) (va vb : Value) (xs ps : List Int) (w : World) (sa : Sees w va xs) (sb : Sees w vb ps) :
    Calls Tryz.prog 29 #[.agg #[.int .i64 r1, .int .i64 c1, va, .int .i64 r2, .int .i64 c2, vb]] w fun e b => e = .returned (.bool (trkB r1 c1 xs r2 c2 ps)) ∧ Below w.heap.size w b := by
  obtain ⟨ao, ac, rfl⟩ := sa.slice
  obtain ⟨bo, bc, rfl⟩ := sb.slice
  obtain ⟨W, hW⟩ : ∃ W, w.alloc (.cells #[.int .i64 r1, .int .i64 c1, .slice ao xs.length ac, .int .i64 r2, .int .i64 c2, .slice bo ps.length bc] 31) = W := ⟨_, rfl⟩
  have x1 := heap_new w (.cells #[.int .i64 r1, .int .i64 c1, .slice ao xs.length ac, .int .i64 r2, .int .i64 c2, .slice bo ps.length bc] 31)
  have bW := box_below w (.cells #[.int .i64 r1, .int .i64 c1, .slice ao xs.length ac, .int .i64 r2, .int .i64 c2, .slice bo ps.length bc] 31)
  rw [hW] at x1 bW
  have k1 := rright_any r1 c1 _ xs W (sa.below bW)
  have k2 := fun v hv => rright_any r2 c2 _ ps v ((sb.below bW).below hv)
  obtain ⟨c0, c1', c2', c3, c4, c5⟩ := six_cells x1
  unfold trkB
  cases hA : rightB r1 c1 xs with
  | false =>
    rw [hA] at k1
    clear hA
    generalize rightB r2 c2 ps = B at k2 ⊢
    go_enter Tryz.func29, Tryz.ntmps29
    go_wp2_with (first
      | (have _ := b1; go_at_call 59; refine (k2 _ b1).mono ?_; rintro e wb ⟨rfl, b2⟩; obtain ⟨e0, e1, e2, e3, e4, e5⟩ := six_cells (keep (bt b1 b2) x1))
      | (go_at_call 59; refine k1.mono ?_; rintro e wa ⟨rfl, b1⟩; obtain ⟨d0, d1, d2, d3, d4, d5⟩ := six_cells (keep b1 x1)))
    go_ret
    exact ⟨rfl, bt bW (bt b1 b2)⟩
  | true =>
    cases hB : rightB r2 c2 ps with
    | false =>
      rw [hA] at k1
      rw [hB] at k2
      clear hA hB
      go_enter Tryz.func29, Tryz.ntmps29
      go_wp2_with (first
        | (have _ := b1; go_at_call 59; refine (k2 _ b1).mono ?_; rintro e wb ⟨rfl, b2⟩; obtain ⟨e0, e1, e2, e3, e4, e5⟩ := six_cells (keep (bt b1 b2) x1))
        | (go_at_call 59; refine k1.mono ?_; rintro e wa ⟨rfl, b1⟩; obtain ⟨d0, d1, d2, d3, d4, d5⟩ := six_cells (keep b1 x1)))
      go_ret
      exact ⟨rfl, bt bW (bt b1 b2)⟩
    | true =>
      obtain ⟨R, C, hR⟩ := right_of hB
      obtain ⟨R1, C1, hR1⟩ := right_of hA
      rw [hA] at k1
      rw [hB] at k2
      clear hA hB
      obtain ⟨rfl, rfl, p1, p8, q1, q8, hl, hal⟩ := hR
      obtain ⟨rfl, rfl, p1', p8', q1', q8', hl', _⟩ := hR1
      clear hal
      by_cases h1 : C1 = 1
      · subst h1
        simp only [Int.natCast_one] at k1 x1 c1' hW ⊢
        by_cases h2 : R = R1
        · subst h2
          by_cases h3 : C = R
          · subst h3
            simp only [decide_true, Bool.true_and, Int.toNat_natCast]
            have hev : ∀ b, (b = true ↔ ∀ i, i < C → symP C ps i) → evB C ps = b := fun b hb => by
              unfold evB
              cases b with
              | true => simpa using hb.1 rfl
              | false => simp only [decide_eq_false_iff_not]; intro h; have := hb.2 h; cases this
            have HEV : Hid (∀ b, (b = true ↔ ∀ i, i < C → symP C ps i) → evB C ps = b) := hev
            obtain ⟨V, hV⟩ : ∃ V, evB C ps = V := ⟨_, rfl⟩
            have HV : Hid (evB C ps = V) := hV
            rw [hV]
            have h64 : C * C ≤ 64 := mul_le_64 p8 p8
            obtain ⟨m, hm⟩ : ∃ m, C * C = m := ⟨_, rfl⟩
            have HM : Hid (C * C = m) := hm
            have HL : Hid (ps.length = m) := by rw [← hm]; exact hl
            rw [hm] at h64
            have hsW := sb.below bW
            rw [HL.out] at hsW x1 c5 k2
            clear hev hV hl hl' hm
            go_enter Tryz.func29, Tryz.ntmps29
            go_wp2_with (first
              | (have _ := b1; go_at_call 59; refine (k2 _ b1).mono ?_; rintro e wb ⟨rfl, b2⟩; obtain ⟨e0, e1, e2, e3, e4, e5⟩ := six_cells (keep (bt b1 b2) x1))
              | (go_at_call 59; refine k1.mono ?_; rintro e wa ⟨rfl, b1⟩; obtain ⟨d0, d1, d2, d3, d4, d5⟩ := six_cells (keep b1 x1)))
            have b3 := bt b1 b2
            clear k1 k2 e0 e1 e2 e3 e4 e5
            go_loopw [6] (fun i wr => ∃ a : Nat, a ≤ C ∧ i = .int .i64 a ∧ Hid (∀ j, j < a → symP C ps j) ∧ Below W.heap.size W wr) (fun i _ => C - (intOf i).toNat)
            case atStart => exact ⟨0, Nat.zero_le _, rfl, fun j hj => absurd hj (Nat.not_lt_zero _), b3⟩
            case round =>
              clear b3
              obtain ⟨i, hi, rfl, hsym, hb⟩ := hrel
              obtain ⟨e0, e1, e2, e3, e4, e5⟩ := six_cells (keep hb x1)
              by_cases hlt : i < C
              · have pA : i * C + i < m := by rw [← HM.out]; exact at_lt hlt hlt
                obtain ⟨ad, had, hcA⟩ := (hsW.below hb).at (i * C + i) (by rw [HL.out]; exact pA)
                subst had
                obtain ⟨x, hx⟩ : ∃ x, ge ps (i * C + i) = x := ⟨_, rfl⟩
                have HX : Hid (ge ps (i * C + i) = x) := hx
                rw [hx] at hcA
                obtain ⟨qa, hqa⟩ : ∃ qa, i * C = qa := ⟨_, rfl⟩
                have hqi : (i : Int) * (C : Int) = (qa : Int) := by rw [← hqa]; exact (Int.natCast_mul i C).symm
                have HQA : Hid (i * C = qa) := hqa
                rw [hqa] at pA hcA
                clear hqa hx
                by_cases hx0 : x < 0
                · go_wp2
                  go_ret
                  have hf : V = false := by
                    rw [← HV.out]
                    refine HEV.out false ⟨fun h => (by cases h), fun h => ?_⟩
                    have := (h i hlt).1
                    rw [HX.out] at this; omega
                  exact ⟨by rw [hf]; rfl, bt bW hb⟩
                · go_wp2
                  go_loopw [7] (fun k wr => ∃ a : Nat, a ≤ i ∧ k = .int .i64 a ∧ Hid (∀ j, j < a → ge ps (i * C + j) = ge ps (j * C + i)) ∧ Below W.heap.size W wr) (fun k _ => i - (intOf k).toNat)
                  case atStart => exact ⟨0, Nat.zero_le _, rfl, fun j hj => absurd hj (Nat.not_lt_zero _), hb⟩
                  case round =>
                    clear hcA hb e0 e1 e2 e3 e4 e5
                    obtain ⟨k, hk, rfl, heq, hb⟩ := hrel
                    obtain ⟨e0, e1, e2, e3, e4, e5⟩ := six_cells (keep hb x1)
                    by_cases hlk : k < i
                    · have pB : i * C + k < m := by rw [← HM.out]; exact at_lt hlt (by omega)
                      have pC : k * C + i < m := by rw [← HM.out]; exact at_lt (by omega) hlt
                      obtain ⟨ad1, had1, hcB⟩ := (hsW.below hb).at (i * C + k) (by rw [HL.out]; exact pB)
                      obtain ⟨ad2, had2, hcC⟩ := (hsW.below hb).at (k * C + i) (by rw [HL.out]; exact pC)
                      injection had1 with had1
                      injection had2 with had2
                      subst had1 had2
                      obtain ⟨y, hy⟩ : ∃ y, ge ps (i * C + k) = y := ⟨_, rfl⟩
                      obtain ⟨z, hz⟩ : ∃ z, ge ps (k * C + i) = z := ⟨_, rfl⟩
                      have HY : Hid (ge ps (i * C + k) = y) := hy
                      have HZ : Hid (ge ps (k * C + i) = z) := hz
                      rw [hy] at hcB
                      rw [hz] at hcC
                      obtain ⟨qb, hqb⟩ : ∃ qb, k * C = qb := ⟨_, rfl⟩
                      have hqk : (k : Int) * (C : Int) = (qb : Int) := by rw [← hqb]; exact (Int.natCast_mul k C).symm
                      rw [HQA.out] at pB hcB
                      rw [hqb] at pC hcC
                      clear hy hz hqb
                      have ia : IntKind.i64.wrap (qa : Int) = (qa : Int) := wrap_in (by omega) (by omega)
                      have ib : IntKind.i64.wrap (qb : Int) = (qb : Int) := wrap_in (by omega) (by omega)
                      have ic : IntKind.i64.wrap ((qa : Int) + (k : Int)) = (qa : Int) + (k : Int) := wrap_in (by omega) (by omega)
                      have id' : IntKind.i64.wrap ((qb : Int) + (i : Int)) = (qb : Int) + (i : Int) := wrap_in (by omega) (by omega)
                      have ta : ((qa : Int) + (k : Int)).toNat = qa + k := by omega
                      have tb : ((qb : Int) + (i : Int)).toNat = qb + i := by omega
                      have la : (qa : Int) + (k : Int) < (m : Int) := by omega
                      have lb : (qb : Int) + (i : Int) < (m : Int) := by omega
                      have za : (0 : Int) ≤ (qa : Int) + (k : Int) := by omega
                      have zb : (0 : Int) ≤ (qb : Int) + (i : Int) := by omega
                      have hbd := fun q => below_drewN hb q
                      by_cases hyz : y = z
                      · have hyz' : (y == z) = true := by simpa using hyz
                        go_wp2
                        go_quiet (fail)
                        go_wp2
                        go_roundw
                        case rel => exact ⟨k + 1, by omega, by go_num, fun j hj => by
                          rcases Nat.lt_or_eq_of_le (Nat.le_of_lt_succ hj) with h | h
                          · exact heq.out j h
                          · subst h; rw [HY.out, HZ.out]; exact hyz, hbd _⟩
                        case measure => simp [intOf]; omega
                      · have hyz' : (y == z) = false := by simpa using hyz
                        go_wp2
                        go_quiet (fail)
                        go_wp2
                        go_ret
                        have hf : V = false := by
                          rw [← HV.out]
                          refine HEV.out false ⟨fun h => (by cases h), fun h => ?_⟩
                          have := (h i hlt).2 k hlk
                          rw [HY.out, HZ.out] at this; exact absurd this hyz
                        exact ⟨by rw [hf]; rfl, bt bW (hbd _)⟩
                    · have ek : k = i := by omega
                      subst ek
                      go_wp2
                      go_roundw
                      case rel => exact ⟨k + 1, by omega, by go_num, fun j hj => by
                        rcases Nat.lt_or_eq_of_le (Nat.le_of_lt_succ hj) with h | h
                        · exact hsym.out j h
                        · subst h; exact ⟨by rw [HX.out]; omega, heq.out⟩, hb⟩
                      case measure => simp [intOf]; omega
              · have ei : i = C := by omega
                subst ei
                go_wp2
                go_ret
                have hf : V = true := by
                  rw [← HV.out]
                  exact HEV.out true ⟨fun _ => hsym.out, fun _ => rfl⟩
                exact ⟨by rw [hf]; rfl, bt bW hb⟩
          · have h3' : ((C : Int) == (R : Int)) = false := by simp; omega
            have h3i : ¬ ((C : Int) = (R : Int)) := by omega
            simp only [h3i, decide_false, decide_true, Bool.false_and, Bool.true_and]
            clear hl hl'
            go_enter Tryz.func29, Tryz.ntmps29
            go_wp2_with (first
              | (have _ := b1; go_at_call 59; refine (k2 _ b1).mono ?_; rintro e wb ⟨rfl, b2⟩; obtain ⟨e0, e1, e2, e3, e4, e5⟩ := six_cells (keep (bt b1 b2) x1))
              | (go_at_call 59; refine k1.mono ?_; rintro e wa ⟨rfl, b1⟩; obtain ⟨d0, d1, d2, d3, d4, d5⟩ := six_cells (keep b1 x1)))
            go_ret
            exact ⟨rfl, bt bW (bt b1 b2)⟩
        · have h2' : ((R : Int) == (R1 : Int)) = false := by simp; omega
          have h2i : ¬ ((R : Int) = (R1 : Int)) := by omega
          simp only [h2i, decide_false, decide_true, Bool.false_and, Bool.true_and]
          clear hl hl'
          go_enter Tryz.func29, Tryz.ntmps29
          go_wp2_with (first
            | (have _ := b1; go_at_call 59; refine (k2 _ b1).mono ?_; rintro e wb ⟨rfl, b2⟩; obtain ⟨e0, e1, e2, e3, e4, e5⟩ := six_cells (keep (bt b1 b2) x1))
            | (go_at_call 59; refine k1.mono ?_; rintro e wa ⟨rfl, b1⟩; obtain ⟨d0, d1, d2, d3, d4, d5⟩ := six_cells (keep b1 x1)))
          go_ret
          exact ⟨rfl, bt bW (bt b1 b2)⟩
      · have h1' : ((C1 : Int) == 1) = false := by simp; omega
        have h1i : ¬ ((C1 : Int) = 1) := by omega
        simp only [h1i, decide_false, Bool.false_and, Bool.true_and]
        clear hl hl'
        go_enter Tryz.func29, Tryz.ntmps29
        go_wp2_with (first
          | (have _ := b1; go_at_call 59; refine (k2 _ b1).mono ?_; rintro e wb ⟨rfl, b2⟩; obtain ⟨e0, e1, e2, e3, e4, e5⟩ := six_cells (keep (bt b1 b2) x1))
          | (go_at_call 59; refine k1.mono ?_; rintro e wa ⟨rfl, b1⟩; obtain ⟨d0, d1, d2, d3, d4, d5⟩ := six_cells (keep b1 x1)))
        go_ret
        exact ⟨rfl, bt bW (bt b1 b2)⟩
end Go.Proofs.YtoefekkdjcflmaaGreatDoor
namespace Go.Proofs.YtoefekkdjcflmaaGreatDoor
open Go.RowKit Go.Sort Qm
section
variable {a : Act} {w : World} {K : Act → World → Prop} {Q : Exit → Act → World → Prop} {o : Oper}
theorem op_buildQ {s : Nat} {q : Int} (hop : o.op = Op.buildSlice 27 1 #[(0, Operand.tmp s)]) (hs : a.tmps[s]?.getD undef = .int .i64 q)
    (hK : K (a.put o.dst (.slice (some ⟨w.heap.size, 0, none⟩) 1 1)) (w.alloc (.cells #[.int .i64 q] 22))) : o.wp Tryz.prog a w K Q := by
  unfold Oper.wp
  simp [execOp, hop, go_sem, hs]
  exact hK
theorem op_appendQ {s x base n X : Nat} {v : Value} {q : Int} {xs : List Value} {i : TypeInfo} (hi : Tryz.prog.info? 22 = some i) (hz : i.zero = some (.int .i64 0)) (hz1 : i.size = 1) (hz2 : i.bytes = 8)
    (hop : o.op = Op.call { callee := Callee.builtin Builtin.append, args := #[Operand.tmp s, Operand.tmp x], argTypes := #[27, 27] }) (hs : a.tmps[s]?.getD undef = v) (hx : a.tmps[x]?.getD undef = .slice (some ⟨X, 0, none⟩) 1 1)
    (hown : w.ownsRow base 22 1 v n xs) (hc : w.heap[X]? = some (.cells #[.int .i64 q] 22 (0, 0))) (hn : n ≤ 100) (hb : base ≤ w.heap.size)
    (hK : ∀ v' w', w'.ownsRow base 22 1 v' (n + 1) (xs ++ [.int .i64 q]) → w.grownBy w' v.ownBlock → (v'.ownBlock = v.ownBlock ∨ v'.ownBlock = some w.heap.size) → K (a.put o.dst v') w') : o.wp Tryz.prog a w K Q := by
  have hs' : a.eval (Operand.tmp s) = v := by simp [go_sem, hs]
  have hx' : a.eval (Operand.tmp x) = .slice (some ⟨X, 0, none⟩) 1 1 := by simp [go_sem, hx]
  obtain ⟨v', w', hr, h2, h3, _, h5⟩ := run_append_own_at (P := Tryz.prog) w base 27 o.type 22 i (.int .i64 0) 1 8 Tryz.under22 hi hz hz1 hz2 rfl (by decide) v n xs hown ⟨X, 0, none⟩ 1 1 [.int .i64 q] rfl (by
    intro j u hj
    match j, hj with
    | 0, hj => simp at hj; subst hj; simp [World.cell?, hc, Addr.add]) c2_one (by unfold maxLen; omega) (by omega) hb
  unfold Oper.wp execOp
  simp only [hop, resolve, invoke, builtin, Sem.run_bind, Sem.run_pure, Result.andThen_ok, List.map_toArray, List.map_cons, List.map_nil, hs', hx', hr]
  exact hK v' w' h2 h3 h5
theorem op_indexQ {s t q n cap : Nat} {ad : Addr} (hop : o.op = Op.indexAddr 27 (Operand.tmp s) (Operand.tmp t)) (hs : a.tmps[s]?.getD undef = .slice (some ad) n cap) (ht : a.tmps[t]?.getD undef = .int .i64 (q : Nat)) (hq : q < n) (hK : K (a.put o.dst (.pointer (some (ad.add q)))) w) : o.wp Tryz.prog a w K Q := by
  have h2 : (q : Int) < (n : Int) := by omega
  unfold Oper.wp
  simp [execOp, hop, go_sem, hs, ht, h2]
  exact hK
theorem op_loadQ {s : Nat} {ad : Addr} {x : Int} (hop : o.op = Op.load 22 (Operand.tmp s)) (hs : a.tmps[s]?.getD undef = .pointer (some ad)) (hc : w.cell? ad = some (.int .i64 x)) (hK : K (a.put o.dst (.int .i64 x)) w) : o.wp Tryz.prog a w K Q := by
  unfold Oper.wp
  simp [execOp, hop, go_sem, hs, hc]
  exact hK
theorem op_fieldL {s b f : Nat} (hop : o.op = Op.fieldAddr 29 (Operand.tmp s) 2) (he : a.tmps[s]?.getD undef = .pointer (some ⟨b, f, none⟩)) (hk : K (a.put o.dst (.pointer (some ⟨b, f + 2, none⟩))) w) : o.wp Tryz.prog a w K Q := by
  unfold Oper.wp
  simp [execOp, hop, go_sem, he]
  exact hk
theorem op_loadL {s b f : Nat} {ao : Option Addr} {n cap : Nat} (hop : o.op = Op.load 27 (Operand.tmp s)) (he : a.tmps[s]?.getD undef = .pointer (some ⟨b, f, none⟩)) (hc : w.cell? ⟨b, f, none⟩ = some (.slice ao n cap)) (hk : K (a.put o.dst (.slice ao n cap)) w) : o.wp Tryz.prog a w K Q := by
  unfold Oper.wp
  simp [execOp, hop, go_sem, he, hc]
  exact hk
end
theorem own_agree {w w' : World} {B n : Nat} {v : Value} {xs : List Value} (h : w.ownsRow B 22 1 v n xs) (hb : ∀ k, v.ownBlock = some k → w'.heap[k]? = w.heap[k]?) : w'.ownsRow B 22 1 v n xs := by
  refine ⟨h.1, ?_⟩
  rcases h.2 with h0 | ⟨g, cap, cur, hv, hg, hh, r⟩
  · exact .inl h0
  · exact .inr ⟨g, cap, cur, hv, hg, (hb g (by rw [hv]; rfl)).trans hh, r⟩
end Go.Proofs.YtoefekkdjcflmaaGreatDoor

