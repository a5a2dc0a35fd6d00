/-
  The walk of SumTells.
-/
import Derived.Test.YtgamakjhndlffaaCSh
namespace Go.Proofs.Ytgamakjhndlffaa.Gr
open Go.RowKit Qm

theorem guard30 : Try.prog.eqGuardType Try.prog.depth 30 = false := by kernel_rfl
theorem under22 : Try.prog.underlying 22 = some (.int .u32) := by kernel_rfl
theorem size22 (w : World) : (sizeOf 22).run Try.prog w = .ok 1 w := by kernel_rfl
def tabI (n : Nat) : List Int := (List.range 256).map fun k => if k < n then iv (tbl k) else 0
theorem tabI_len (n : Nat) : (tabI n).length = 256 := by unfold tabI; rw [List.length_map, List.length_range]
theorem TT_int (n : Nat) : TT n = ((tabI n).map (Value.int .u32)).toArray := by
  unfold TT tabI
  generalize List.range 256 = R
  rw [List.map_map]
  congr 1
  apply List.map_congr_left
  intro k _
  simp only [Function.comp]
  split <;> rfl
theorem all_self (xs : List Int) (R : List Nat) : (R.all fun i => xs.getD i 0 == xs.getD i 0) = true := by
  rw [List.all_eq_true]
  intro i _
  simp
theorem eq_tab (w : World) : (Op.equalIn 10000 30 (.agg (TT 256)) (.agg (TT 256))).run Try.prog w = .ok true w := by
  rw [TT_int]
  have := equalIn_row .u32 w 9998 30 22 256 und30 under22 size22 (tabI 256) (tabI 256) (tabI_len _) (tabI_len _)
  rw [all_self] at this
  exact this

set_option maxRecDepth 20000 in
set_option maxHeartbeats 4000000 in
theorem sumTells_walk (c : BitVec 32) (v : Value) (bs : List (BitVec 8)) (w : World) (hs : SeesB w v bs) :
    Calls Try.prog 3 #[.int .u32 (iv c), v] w fun e w' => e = .returned (.bool true) ∧ Below w.heap.size w w' := by
  obtain ⟨ao, cap, rfl⟩ := hs.slice
  have hcap := hs.le.1
  by_cases hl : 3000 < bs.length
  · obtain ⟨n, hn⟩ : ∃ n, bs.length = n := ⟨_, rfl⟩
    rw [hn] at hl ⊢
    have hl' : (3000 : Int) < (n : Int) := by omega
    go_enter Try.func3, Try.ntmps3
    go_wp2_with (go_at_call 8; refine (shown_any _).mono ?_; rintro e w1 ⟨rfl, b1⟩)
    go_ret
    exact ⟨rfl, b1⟩
  · have kO := fun (u : World) (hb : Below w.heap.size w u) => open_any _ bs (by omega) u (hs.below hb)
    have kP := fun (u : World) (hb : Below w.heap.size w u) => ropen_any _ bs (by omega) u (hs.below hb)
    have kM := fun (u : World) (hb : Below w.heap.size w u) => more_any c _ bs u (by omega) (hs.below hb)
    have kN := fun (u : World) (hb : Below w.heap.size w u) => rmore_any c _ bs u (by omega) (hs.below hb)
    have kF := fun (u : World) (hb : Below w.heap.size w u) => of_any _ bs u (by omega) (hs.below hb)
    have kG := fun (u : World) (hb : Below w.heap.size w u) => rof_any _ bs u (by omega) (hs.below hb)
    have kS := fun (u : World) (hb : Below w.heap.size w u) => seal_any _ bs (by omega) u (hs.below hb)
    have kT := fun (u : World) (hb : Below w.heap.size w u) => rseal_any _ bs (by omega) u (hs.below hb)
    have hZ : (sealS bs).length ≤ 8000 := by rw [sealS_len]; omega
    have hX : (openS bs).length ≤ 8000 := by unfold openS; split <;> simp <;> omega
    have eS := fun (u : World) (a b : Value) (ha : SeesB u a (sealS bs)) (hb : SeesB u b (sealS bs)) => rsame_any a b _ _ u hZ hZ ha hb
    have eX := fun (u : World) (a b : Value) (ha : SeesB u a (openS bs)) (hb : SeesB u b (openS bs)) => rsame_any a b _ _ u hX hX ha hb
    have d1 : decide (sealS bs = sealS bs) = true := by simp
    have d2 : decide (openS bs = openS bs) = true := by simp
    rw [d1] at eS
    rw [d2] at eX
    have HO : Hid (∀ (b : World) (v : Value) B, b.ownsRow B 5 1 v (bs.length + 4) ((sealS bs).map vb) → SeesB b v (sealS bs)) := fun b v B h => Row.own h
    obtain ⟨n, hn⟩ : ∃ n, bs.length = n := ⟨_, rfl⟩
    have hl' : ¬ ((3000 : Int) < (n : Int)) := by omega
    have hq := eq_tab
    have g30 := guard30
    have T1 := table_any
    have T2 := rtable_any
    clear hs d1 d2 hZ hX hl hcap
    generalize sealS bs = Z at kS kT eS HO
    generalize openS bs = X at kO kP eX
    generalize openE bs = F at kO kP
    generalize ofS bs = O at kF kG
    generalize moreS c bs = M at kM kN
    generalize TT 256 = T at T1 T2 hq
    rw [hn] at *
    generalize iv O = O' at kF kG
    generalize iv M = M' at kM kN
    generalize iv c = C' at kM kN ⊢
    clear hn
    go_enter Try.func3, Try.ntmps3
    go_wp2_with (first
      | (have _ := b9; have _ := b10; go_at_call 17; refine (eX _ _ _ (hx.below (bt b3 (bt b4 (bt b5 (bt b6 (bt b7 (bt b8 (bt b9 b10)))))))) (hy.below (bt b4 (bt b5 (bt b6 (bt b7 (bt b8 (bt b9 b10)))))))).mono ?_; rintro e w11 ⟨rfl, b11⟩)
      | (have _ := b9; go_at_call 17; refine (eS _ _ _ (hz.below b9) hz2).mono ?_; rintro e w10 ⟨rfl, b10⟩)
      | (go_at_call 8; refine (shown_any _).mono ?_; rintro e w1 ⟨rfl, b1⟩)
      | (go_at_call 9; refine (kO _ b1).mono ?_; rintro e w2 ⟨x, rfl, hx, b2⟩; have B2 := bt b1 b2)
      | (go_at_call 10; refine (kP _ B2).mono ?_; rintro e w3 ⟨y, rfl, hy, b3⟩; have B3 := bt B2 b3)
      | (go_at_call 11; refine (T1 _).mono ?_; rintro e w4 ⟨rfl, b4⟩; have B4 := bt B3 b4)
      | (go_at_call 12; refine (T2 _).mono ?_; rintro e w5 ⟨rfl, b5⟩; have B5 := bt B4 b5)
      | (go_at_call 13; refine (kM _ B5).mono ?_; rintro e w6 ⟨rfl, b6⟩; have B6 := bt B5 b6)
      | (go_at_call 14; refine (kN _ B6).mono ?_; rintro e w' ⟨rfl, hq'⟩; rw [hq']; clear hq')
      | (go_at_call 15; refine (kF _ B6).mono ?_; rintro e w7 ⟨rfl, b7⟩; have B7 := bt B6 b7)
      | (go_at_call 16; refine (kG _ B7).mono ?_; rintro e w' ⟨rfl, hq'⟩; rw [hq']; clear hq')
      | (go_at_call 18; refine (kS _ B7).mono ?_; rintro e w8 ⟨g, G, rfl, ho, b8⟩; have hz := HO.out _ _ _ ho; have B8 := bt B7 b8)
      | (go_at_call 19; refine (kT _ B8).mono ?_; rintro e w9 ⟨z2, rfl, hz2, b9⟩; have B9 := bt B8 b9))
    go_ret
    exact ⟨by simp, bt B9 (bt b10 b11)⟩
end Go.Proofs.Ytgamakjhndlffaa.Gr
