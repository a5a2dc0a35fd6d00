/-
  The contract of the document's Good.
-/
import Derived.Test.YtiniobcknmaigaaREven
import Derived.Test.YtiniobcknmaigaaFactE
namespace Go.Proofs.Ytiniobcknmaigaa
open Go.RowKit Go.Sort Qm

namespace Qm
/-- the first a numbers of the diagonal that are below 0 are 0 -/
def gdu (n : Nat) (zs : List Int) (a : Nat) (p : Nat) : Int := if p / n = p % n ∧ p / n < a ∧ ge zs p < 0 then 0 else ge zs p
/-- what is good of a matrix -/
def gd (n : Nat) (xs : List Int) : List Int := tab (gdu n (evn n xs) n) (n * n)
theorem gd_len (n : Nat) (xs : List Int) : (gd n xs).length = n * n := tab_len _ _
theorem gdu_at {n i : Nat} (zs : List Int) (hi : i < n) : gdu n zs i (i * n + i) = ge zs (i * n + i) := by
  unfold gdu; rw [div_of hi, mod_of hi, if_neg (by omega)]
theorem gdu_put {n i : Nat} (zs : List Int) (hi : i < n) (hz : ge zs (i * n + i) < 0) (p : Nat) : (if p = i * n + i then 0 else gdu n zs i p) = gdu n zs (i + 1) p := by
  by_cases e : p = i * n + i
  · subst e; rw [if_pos rfl]; unfold gdu; rw [div_of hi, mod_of hi, if_pos ⟨rfl, by omega, hz⟩]
  · rw [if_neg e]
    unfold gdu
    by_cases h : p / n = p % n ∧ p / n < i + 1 ∧ ge zs p < 0
    · have hp : p / n < i := by
        rcases Nat.lt_or_ge (p / n) i with h2 | h2
        · exact h2
        · exfalso; apply e
          have h3 : p / n = i := by omega
          have := Nat.div_add_mod p n
          rw [h3, ← h.1, h3, Nat.mul_comm] at this
          omega
      rw [if_pos h, if_pos ⟨h.1, hp, h.2.2⟩]
    · rw [if_neg h, if_neg (fun g => h ⟨g.1, by omega, g.2.2⟩)]
theorem gdu_stay {n i : Nat} (zs : List Int) (hz : ¬ ge zs (i * n + i) < 0) (p : Nat) : gdu n zs i p = gdu n zs (i + 1) p := by
  unfold gdu
  by_cases h : p / n = p % n ∧ p / n < i + 1 ∧ ge zs p < 0
  · have hp : p / n < i := by
      rcases Nat.lt_or_ge (p / n) i with h2 | h2
      · exact h2
      · exfalso; apply hz
        have h3 : p / n = i := by omega
        have := Nat.div_add_mod p n
        rw [h3, ← h.1, h3, Nat.mul_comm] at this
        have e : p = i * n + i := by omega
        rw [← e]; exact h.2.2
    rw [if_pos h, if_pos ⟨h.1, hp, h.2.2⟩]
  · rw [if_neg h, if_neg (fun g => h ⟨g.1, by omega, g.2.2⟩)]
theorem gdu_zero (n : Nat) (zs : List Int) (p : Nat) : gdu n zs 0 p = ge zs p := by unfold gdu; rw [if_neg (by omega)]
end Qm

theorem own_form {w : World} {B n : Nat} {v : Value} {xs : List Value} (h : w.ownsRow B 41 1 v n xs) (hn : 0 < n) : ∃ g cap, v = .slice (some ⟨g, 0, none⟩) n cap ∧ B ≤ g := by
  rcases h.2 with ⟨_, h0⟩ | ⟨g, cap, cur, e, hb, _⟩
  · omega
  · exact ⟨g, cap, e, hb⟩

set_option maxRecDepth 20000 in
set_option maxHeartbeats 1600000 in
theorem rgood_any (C : Nat) (h2 : 1 ≤ C) (hC : C ≤ 8) (v : Value) (xs : List Int) (hn : xs.length = C * C) (hal : AllIn xs) (w : World) (hs : Sees w v xs) :
    Calls Try.prog 19 #[.agg #[.int .i64 C, .int .i64 C, v]] w fun e b =>
      ∃ v, e = .returned (.agg #[.int .i64 C, .int .i64 C, v]) ∧ Sees b v (gd C xs) ∧ New w.heap.size v ∧ Below w.heap.size w b := by
  have h64 : C * C ≤ 64 := mul_le_64 hC hC
  have hpos : 0 < C * C := Nat.mul_pos h2 h2
  have hev := fun w v hs => reven_own C h2 hC v xs hn hal w hs
  obtain ⟨ao, cap, rfl⟩ := hs.slice
  unfold gd
  have hzl : (evn C xs).length = C * C := evn_len C xs
  obtain ⟨zs, hzs⟩ : ∃ zs, evn C xs = zs := ⟨_, rfl⟩
  rw [hzs] at hev hzl ⊢
  obtain ⟨n, hq⟩ : ∃ n, C * C = n := ⟨_, rfl⟩
  have HQ : Hid (C * C = n) := hq
  rw [hq] at hev h64 hpos hzl ⊢
  have HZ : Hid (zs.length = n) := hzl
  clear hn hal hzs hq hzl
  obtain ⟨W, hW⟩ : ∃ W, (w.alloc (.cells #[.int .i64 C, .int .i64 C, .slice ao xs.length cap] 24)).alloc (.cells #[.int .i64 0, .int .i64 0, .slice none 0 0] 24) = W := ⟨_, rfl⟩
  obtain ⟨x1, x2⟩ := allocs2 w (.cells #[.int .i64 C, .int .i64 C, .slice ao xs.length cap] 24) (.cells #[.int .i64 0, .int .i64 0, .slice none 0 0] 24)
  have bq := ball2 w (.cells #[.int .i64 C, .int .i64 C, .slice ao xs.length cap] 24) (.cells #[.int .i64 0, .int .i64 0, .slice none 0 0] 24)
  rw [hW] at x1 x2 bq
  have hE := hev W _ (hs.below bq)
  rw [← hW] at hE
  have HW : Hid (_ = W) := hW
  clear hW hev
  go_enter Try.func19, Try.ntmps19
  go_wp2_with (go_at_call 39; refine hE.mono ?_; rintro e w1 ⟨v1, rfl, hown, b1⟩; rw [HW.out] at b1 hown; obtain ⟨g, gc, rfl, hgW⟩ := own_form hown hpos)
  have hDg : w.heap.size + 1 < g := Nat.lt_of_lt_of_le (lt_of_block x2) hgW
  have y2 := heap_old (keep b1 x2) (.cells #[.int .i64 C, .int .i64 C, .slice (some ⟨g, 0, none⟩) n gc] 24)
  have y3 := heap_new w1 (.cells #[.int .i64 C, .int .i64 C, .slice (some ⟨g, 0, none⟩) n gc] 24)
  have bw := (bt (bt bq b1) (box_below w1 (.cells #[.int .i64 C, .int .i64 C, .slice (some ⟨g, 0, none⟩) n gc] 24)))
  have hgw : w.heap.size ≤ g := Nat.le_trans bq.size hgW
  have F0 : Fills (w1.alloc (.cells #[.int .i64 C, .int .i64 C, .slice (some ⟨g, 0, none⟩) n gc] 24)) g gc n (gdu C zs 0) (w1.alloc (.cells #[.int .i64 C, .int .i64 C, .slice (some ⟨g, 0, none⟩) n gc] 24)) := by
    refine Fills.start (base := W.heap.size) ?_
    have e : tab (gdu C zs 0) n = zs := tab_ge HZ.out fun k _ => gdu_zero C zs k
    rw [e]
    exact hown.alloc _
  obtain ⟨V, hV⟩ : ∃ V, w1.alloc (.cells #[.int .i64 C, .int .i64 C, .slice (some ⟨g, 0, none⟩) n gc] 24) = V := ⟨_, rfl⟩
  rw [hV] at y2 y3 bw F0 ⊢
  have gx2 := F0.apart y2
  have gx3 := F0.apart y3
  clear hV x1 x2 hown b1 bq hE
  go_loopw [6] (fun i wr => ∃ a : Nat, a ≤ C ∧ i = .int .i64 a ∧ Fills V g gc n (gdu C zs a) wr) (fun i _ => C - (intOf i).toNat)
  case atStart => exact ⟨0, Nat.zero_le _, rfl, F0⟩
  case round =>
    clear F0
    obtain ⟨i, hi, rfl, hF⟩ := hrel
    obtain ⟨v0, v1, v2, _⟩ := mat_cells (hF.keep y3 gx3)
    by_cases hlt : i < C
    · have pA : i * C + i < n := by rw [← HQ.out]; exact at_lt hlt hlt
      have hc := hF.cell pA
      have hf := hF.free (i * C + i)
      rw [gdu_at zs hlt] at hc
      have HFs : Hid (ge zs (i * C + i) < 0 → Fills V g gc n (gdu C zs (i + 1)) (wr.setCell ⟨g, i * C + i, none⟩ (.int .i64 0))) := fun hz => (hF.store (i * C + i) 0).congr fun k _ => gdu_put zs hlt hz k
      have HFn : Hid (¬ ge zs (i * C + i) < 0 → Fills V g gc n (gdu C zs (i + 1)) wr) := fun hz => hF.congr fun k _ => gdu_stay zs hz k
      obtain ⟨x, hx⟩ : ∃ x, ge zs (i * C + i) = x := ⟨_, rfl⟩
      rw [hx] at hc HFs HFn
      clear hx hF
      obtain ⟨qa, hqa⟩ : ∃ qa, i * C = qa := ⟨_, rfl⟩
      have hqi : (i : Int) * (C : Int) = (qa : Int) := by rw [← hqa]; exact (Int.natCast_mul i C).symm
      rw [hqa] at pA hc hf HFs
      clear hqa
      by_cases hz : x < 0
      · have HF := HFs.out hz
        have HF' : Hid _ := HF
        clear HF HFs HFn
        go_wp2
        go_roundw
        case rel => exact ⟨i + 1, by omega, by go_num, HF'.out⟩
        case measure => simp [intOf]; omega
      · have HF := HFn.out hz
        have HF' : Hid _ := HF
        clear HF HFs HFn
        go_wp2
        go_roundw
        case rel => exact ⟨i + 1, by omega, by go_num, HF'.out⟩
        case measure => simp [intOf]; omega
    · have e : i = C := by omega
      subst e
      obtain ⟨d0, d1, d2, f0, f1, f2⟩ := mat_cells (hF.keep y2 gx2)
      have hsh := hF.shows
      have hbl := hF.below bw hgw
      clear hF
      go_wp2
      refine bodyPost_ret (v := .agg #[.int .i64 i, .int .i64 i, .slice (some ⟨g, 0, none⟩) n gc]) (by simp [results, Try.results19, go_sem, d0, d1, d2]) rfl ?_
      exact ⟨_, rfl, hsh.put (new_at g n gc) hDg _ _ _, (new_at g n gc).mono hgw, below_put hbl (by omega) _ _ _⟩
end Go.Proofs.Ytiniobcknmaigaa
