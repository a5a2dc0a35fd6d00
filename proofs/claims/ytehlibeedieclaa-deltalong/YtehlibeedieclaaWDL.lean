/-
  The walk of DeltaLong.
-/
import Derived.Test.YtehlibeedieclaaDF
import Derived.Test.YtehlibeedieclaaDO
namespace Go.Proofs.Ytehlibeedieclaa.Gr
open Go.RowKit Go.Sort Dm
set_option linter.unusedVariables false

theorem other_no {b n : List Int} {i : Nat} (h : dfS b n i = false) : (otherS b n (i + 1)).length = (otherS b n i).length := by simp [otherS, h]
theorem other_yes {b n : List Int} {i : Nat} (h : dfS b n i = true) : (otherS b n (i + 1)).length = (otherS b n i).length + 1 := by simp [otherS, h]
set_option maxRecDepth 20000 in
set_option maxHeartbeats 2000000 in
theorem deltaLong_walk (va : Value) (b : List Int) (vb' : Value) (n : List Int) (w : World) (sa : SeesI w va b) (la : b.length ≤ 100000000000000) (ra : ∀ x ∈ b, -9223372036854775808 ≤ x ∧ x ≤ 9223372036854775807)
    (sb : SeesI w vb' n) (lb : n.length ≤ 100000000000000) (rb : ∀ x ∈ n, -9223372036854775808 ≤ x ∧ x ≤ 9223372036854775807) :
    Calls Try.prog 6 #[va, vb'] w fun e w' => e = .returned (.bool true) ∧ Below w.heap.size w w' := by
  clear ra rb
  obtain ⟨ao, cap, rfl⟩ := sa.slice
  obtain ⟨bo, bcap, rfl⟩ := sb.slice
  by_cases h : b.length = n.length ∧ b.length ≤ 600
  · obtain ⟨hl, h6⟩ := h
    have cD := fun (u : World) (h : Below w.heap.size w u) => diff_yes _ _ b n u hl (by omega) (sa.below h) (sb.below h)
    have HL := diffS_len b n
    have hlo := otherS_le b n n.length
    obtain ⟨D, hD⟩ : ∃ D, diffS b n = D := ⟨_, rfl⟩
    rw [hD] at cD HL
    obtain ⟨N, hN⟩ : ∃ N, n.length = N := ⟨_, rfl⟩
    have HN : Hid (b.length = N ∧ n.length = N) := ⟨by rw [hl, hN], hN⟩
    rw [hl, hN] at sa h6 cD
    rw [hN] at sb HL hlo
    rw [hl, hN]
    clear hl hD hN la lb
    have hU : (N + 59) / 60 = upS N := rfl
    have e0 : wrap64 ((N : Int) + 59) = (N : Int) + 59 := by unfold wrap64; omega
    have e1 : ((N : Int) + 59).tdiv 60 = (upS N : Int) := by rw [Int.tdiv_eq_ediv_of_nonneg (by omega), ← hU]; omega
    have hUb : upS N ≤ 11 := by omega
    clear hU
    generalize upS N = U at *
    have e2 : wrap64 (U : Int) = U := by unfold wrap64; omega
    have e3 : decide ((600 : Int) < (N : Int)) = false := decide_eq_false (by omega)
    have e4 := wrap_i (U : Int) (by omega) (by omega)
    go_enter Try.func6, Try.ntmps6
    go_wp2_with (go_at_call 9; refine (shown9 _).mono ?_; rintro e w1 ⟨rfl, b1⟩)
    go_loopw [6, 7] (fun c i wr => ∃ k : Nat, k ≤ N ∧ i = .int .i64 k ∧ (∃ M : Nat, M ≤ 620 ∧ Hid (M = U + (otherS b n k).length) ∧ c = .int .i64 M) ∧ Below w.heap.size w wr) (fun _ i _ => N - (intOf i).toNat)
    case atStart => exact ⟨0, Nat.zero_le _, rfl, ⟨U, by omega, rfl, rfl⟩, b1⟩
    case round =>
      obtain ⟨k, hk, rfl, ⟨M, hM, hMe, rfl⟩, hbl⟩ := hrel
      have hle := otherS_le b n k
      have hM1 : M ≤ 611 := by have := hMe.out; omega
      clear hM
      by_cases hlt : k < N
      · obtain ⟨ad, rfl, la, ca⟩ := sa.at k (by rw [HN.out.1]; exact hlt)
        obtain ⟨bd, rfl, lb, cb⟩ := sb.at k (by rw [HN.out.2]; exact hlt)
        have ca' : wr.cell? (ad.add k) = _ := (hbl.cell (by rw [add_block]; exact la)).trans ca
        have cb' : wr.cell? (bd.add k) = _ := (hbl.cell (by rw [add_block]; exact lb)).trans cb
        clear ca cb
        cases hd : dfS b n k
        · have he : n.getD k 0 = b.getD k 0 := by simpa [dfS] using hd
          have HX : Hid ((otherS b n (k + 1)).length = (otherS b n k).length) := other_no hd
          rw [he] at cb'
          generalize b.getD k 0 = x at ca' cb'
          clear he hd
          go_wp2
          go_quiet (fail)
          go_wp2
          go_roundw
          case rel => exact ⟨k + 1, by omega, by go_num, ⟨M, by omega, by unfold Hid; rw [HX.out]; exact hMe.out, rfl⟩, hbl.trans (below_drewN (Below.refl _ _) _)⟩
          case measure => simp [intOf]; omega
        · have he : ¬ n.getD k 0 = b.getD k 0 := by simpa [dfS] using hd
          have HX : Hid ((otherS b n (k + 1)).length = (otherS b n k).length + 1) := other_yes hd
          generalize b.getD k 0 = x at ca' he
          generalize n.getD k 0 = y at cb' he
          have he' : ¬ x = y := fun e => he e.symm
          clear he
          clear hd
          go_wp2
          go_quiet (fail)
          go_wp2
          go_roundw
          case rel => exact ⟨k + 1, by omega, by go_num, ⟨M + 1, by omega, by unfold Hid; rw [HX.out, hMe.out]; rfl, by go_num⟩, hbl.trans (below_drewN (Below.refl _ _) _)⟩
          case measure => simp [intOf]; omega
      · obtain rfl : k = N := by omega
        have q5 : D.length = M := by have := hMe.out; omega
        clear sa sb
        have q6 : ((D.length : Int) == (M : Int)) = true := by simp; omega
        rw [q5] at cD
        --[a
        go_wp2_with (go_at_call 10; go_must (refine (cD _ hbl).mono ?_); rintro e w2 ⟨v2, rfl, ho2, b2⟩; obtain ⟨g2, c2, rfl⟩ := own_any ho2)
        go_ret
        exact ⟨rfl, bt hbl b2⟩
        --]a
  · by_cases hl : b.length = n.length
    · have e1 : decide ((600 : Int) < (b.length : Int)) = true := by simp; omega
      have e2 : ((b.length : Int) != (n.length : Int)) = false := by simp; omega
      --[b
      rw [← hl] at sb ⊢
      rw [← hl] at e2
      clear hl h
      go_enter Try.func6, Try.ntmps6
      go_wp2_with (go_at_call 9; refine (shown9 _).mono ?_; rintro e w1 ⟨rfl, b1⟩)
      go_ret
      exact ⟨rfl, b1⟩
      --]b
    · have e1 : ((b.length : Int) != (n.length : Int)) = true := by simp; omega
      have e2 : ¬ ((b.length : Int) = (n.length : Int)) := by omega
      --[c
      clear h
      go_enter Try.func6, Try.ntmps6
      go_wp2_with (go_at_call 9; refine (shown9 _).mono ?_; rintro e w1 ⟨rfl, b1⟩)
      go_ret
      exact ⟨rfl, b1⟩
      --]c
end Go.Proofs.Ytehlibeedieclaa.Gr
