/-
  The contract of the document's Scale.
-/
import Derived.Test.YteohdhmimpajmaaRNone
import Derived.Test.YteohdhmimpajmaaRMul
import Derived.Test.YteohdhmimpajmaaScale
namespace Go.Proofs.Yteohdhmimpajmaa
open Go.RowKit Go.Sort Qm

/-- what stands where up to place k has been filled -/
def Qm.upto (t : Nat → Int) (k : Nat) : Nat → Int := fun p => if p < k then t p else 0
theorem Qm.upto_zero (t : Nat → Int) (n p : Nat) (_ : p < n) : (0 : Int) = upto t 0 p := by simp [upto]
theorem Qm.upto_succ (t : Nat → Int) (k n p : Nat) (_ : p < n) : (if p = k then t k else upto t k p) = upto t (k + 1) p := by
  unfold upto
  by_cases h : p = k
  · subst h; simp
  · rw [if_neg h]
    by_cases h2 : p < k
    · rw [if_pos h2, if_pos (by omega)]
    · rw [if_neg h2, if_neg (by omega)]
theorem Qm.upto_all (t : Nat → Int) (n : Nat) : tab (upto t n) n = tab t n := tab_congr fun p hp => by unfold upto; rw [if_pos hp]

theorem Sees.at {w : World} {ao : Option Addr} {n cap : Nat} {xs : List Int} (h : Sees w (.slice ao n cap) xs) (k : Nat) (hk : k < xs.length) : ∃ ad, ao = some ad ∧ w.cell? (ad.add k) = some (.int .i64 (ge xs k)) := by
  obtain ⟨ao', cap', he, hc⟩ := h
  simp only [Value.slice.injEq] at he
  obtain ⟨ad, h1, _, h2⟩ := hc k hk
  exact ⟨ad, he.1.trans h1, h2⟩
theorem new_at (g n cap : Nat) : New g (.slice (some ⟨g, 0, none⟩) n cap) := fun k e => by cases e; exact Nat.le_refl _

set_option maxRecDepth 20000 in
set_option maxHeartbeats 1600000 in
theorem rscale_any (R C : Nat) (h1 : 1 ≤ R) (hR : R ≤ 8) (h2 : 1 ≤ C) (hC : C ≤ 8) (k0 : Int) (v : Value) (xs : List Int) (hn : xs.length = R * C) (w : World) (hs : Sees w v xs) :
    Calls Try.prog 26 #[.agg #[.int .i64 R, .int .i64 C, v], .int .i64 k0] w fun e b =>
      ∃ v, e = .returned (.tuple #[.agg #[.int .i64 R, .int .i64 C, v], .bool (sclB xs k0)]) ∧ Sees b v (scl xs k0) ∧ New w.heap.size v ∧ Below w.heap.size w b := by
  have h64 : R * C ≤ 64 := mul_le_64 hR hC
  have hno := fun w => none_any R C hR hC h1 h2 w
  obtain ⟨n, hn'⟩ : ∃ n, xs.length = n := ⟨_, rfl⟩
  have hq : R * C = n := by omega
  rw [hq] at h64 hno
  unfold sclB scl
  rw [hn']
  obtain ⟨S, hS⟩ : ∃ S, anyB (fun p => mulB (ge xs p) k0) n = S := ⟨_, rfl⟩
  have HS : Hid (anyB (fun p => mulB (ge xs p) k0) n = S) := hS
  rw [hS]
  obtain ⟨ao, cap, rfl, ha⟩ := hs
  rw [hn'] at ha ⊢
  have hs : Sees w (.slice ao n cap) xs := ⟨ao, cap, by rw [hn'], by rw [hn']; exact ha⟩
  have hxl : n ≤ xs.length := by omega
  clear hn hn' hq hS ha
  obtain ⟨W, hW⟩ : ∃ W, (w.alloc (.cells #[.int .i64 R, .int .i64 C, .slice ao n cap] 24)).alloc (.cells #[.int .i64 0, .int .i64 0, .slice none 0 0] 24) = W := ⟨_, rfl⟩
  obtain ⟨x1, x2⟩ := allocs2 w (.cells #[.int .i64 R, .int .i64 C, .slice ao n cap] 24) (.cells #[.int .i64 0, .int .i64 0, .slice none 0 0] 24)
  have bq := ball2 w (.cells #[.int .i64 R, .int .i64 C, .slice ao n cap] 24) (.cells #[.int .i64 0, .int .i64 0, .slice none 0 0] 24)
  rw [hW] at x1 x2 bq
  obtain ⟨u0, u1, u2, _⟩ := mat_cells x1
  go_enter Try.func26, Try.ntmps26
  go_wp2_with (go_at_call 35; refine (hno _).mono ?_; rintro e w1 ⟨g, gc, rfl, hown, b1⟩)
  clear u0 u1 u2
  have hgW := (hown.lt g rfl).1
  have hDg : w.heap.size + 1 < g := Nat.lt_of_lt_of_le (lt_of_block x2) hgW
  have y1 := heap_old (keep b1 x1) (.cells #[.int .i64 R, .int .i64 C, .slice (some ⟨g, 0, none⟩) n gc] 24)
  have y2 := heap_old (keep b1 x2) (.cells #[.int .i64 R, .int .i64 C, .slice (some ⟨g, 0, none⟩) n gc] 24)
  have y3 := heap_new w1 (.cells #[.int .i64 R, .int .i64 C, .slice (some ⟨g, 0, none⟩) n gc] 24)
  have bw := (bt (bt bq b1) (box_below w1 (.cells #[.int .i64 R, .int .i64 C, .slice (some ⟨g, 0, none⟩) n gc] 24)))
  have F0 : Fills (w1.alloc (.cells #[.int .i64 R, .int .i64 C, .slice (some ⟨g, 0, none⟩) n gc] 24)) g gc n (fun _ => 0) (w1.alloc (.cells #[.int .i64 R, .int .i64 C, .slice (some ⟨g, 0, none⟩) n gc] 24)) := Fills.start (hown.alloc _)
  have hgw : w.heap.size ≤ g := Nat.le_trans bq.size hgW
  obtain ⟨V, hV⟩ : ∃ V, w1.alloc (.cells #[.int .i64 R, .int .i64 C, .slice (some ⟨g, 0, none⟩) n gc] 24) = V := ⟨_, rfl⟩
  rw [hV] at y1 y2 y3 bw F0 ⊢
  have gx1 := F0.apart y1
  have gx2 := F0.apart y2
  have gx3 := F0.apart y3
  clear hV hW x1 x2 hown b1 bq hno
  go_loopw [7, 8] (fun m i wr => ∃ k : Nat, k ≤ n ∧ i = .int .i64 k ∧ m = .bool (anyB (fun p => mulB (ge xs p) k0) k) ∧ Fills V g gc n (upto (fun p => mul (ge xs p) k0) k) wr) (fun _ i _ => n - (intOf i).toNat)
  case atStart => exact ⟨0, Nat.zero_le _, rfl, rfl, F0.congr (upto_zero _ n)⟩
  case round =>
    clear F0
    obtain ⟨k, hk, rfl, rfl, hF⟩ := hrel
    obtain ⟨u0, u1, u2, _⟩ := mat_cells (hF.keep y1 gx1)
    obtain ⟨v0, v1, v2, _⟩ := mat_cells (hF.keep y3 gx3)
    by_cases hlt : k < n
    · have hc := hF.cell hlt
      have hf := hF.free k
      have HM : Hid (anyB (fun p => mulB (ge xs p) k0) (k + 1) = (anyB (fun p => mulB (ge xs p) k0) k || mulB (ge xs k) k0)) := rfl
      have HF := (hF.store k (mul (ge xs k) k0)).congr (upto_succ (fun p => mul (ge xs p) k0) k n)
      obtain ⟨ad, rfl, ca⟩ := (hF.sees hs bw hgw).at k (by omega)
      obtain ⟨x, hx⟩ : ∃ x, ge xs k = x := ⟨_, rfl⟩
      obtain ⟨M, hM⟩ : ∃ M, anyB (fun p => mulB (ge xs p) k0) k = M := ⟨_, rfl⟩
      rw [hx] at HM HF ca
      rw [hM] at HM ⊢
      clear hx hM hF
      cases M
      all_goals
        go_wp2_with (go_at_call 31; refine (rmul_any _ _ _).mono ?_; rintro e wy ⟨rfl, rfl⟩)
        go_roundw
        case rel => exact ⟨k + 1, by omega, by go_num, by rw [HM.out]; rfl, HF⟩
        case measure => simp [intOf]; omega
    · have e : k = n := by omega
      subst e
      rw [HS.out]
      obtain ⟨d0, d1, d2, f0, f1, f2⟩ := mat_cells (hF.keep y2 gx2)
      have hsh := hF.shows
      rw [upto_all] at hsh
      have hbl := hF.below bw hgw
      clear hF
      go_wp2
      refine bodyPost_ret (v := .tuple #[.agg #[.int .i64 R, .int .i64 C, .slice (some ⟨g, 0, none⟩) k gc], .bool S]) (by simp [results, Try.results26, go_sem, d0, d1, d2]) rfl ?_
      exact ⟨_, rfl, hsh.put (new_at g k gc) hDg _ _ _, (new_at g k gc).mono hgw, below_put hbl (by omega) _ _ _⟩
end Go.Proofs.Yteohdhmimpajmaa
