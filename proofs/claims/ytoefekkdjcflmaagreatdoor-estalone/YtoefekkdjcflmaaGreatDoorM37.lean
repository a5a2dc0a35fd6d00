/- Parts of the proof. -/
import Derived.Test.YtoefekkdjcflmaaGreatDoorM36
namespace Go.Proofs.YtoefekkdjcflmaaGreatDoor.Et
open Go.RowKit Go.Sort Go.Proofs.YtoefekkdjcflmaaGreatDoor.Qm
def OffOk (s : Sg) : Prop := ∀ k, k < 4 → 0 ≤ s.off k ∧ s.off k ≤ 1000
theorem onE_ok {n : Int} (h0 : 0 ≤ n) (h1 : n ≤ 1000) (b : Bool) : 0 ≤ onE n b ∧ onE n b ≤ 1000 := by
  unfold onE
  split
  · split <;> omega
  · omega
theorem OffOk.upd {s : Sg} (h : OffOk s) (i k : Nat) (hk : k < 4) (z r : Int) : OffOk (updS s i k z r) := fun j hj => by
  show 0 ≤ at' s.off k _ j ∧ at' s.off k _ j ≤ 1000
  unfold at'
  split
  · exact onE_ok (h k hk).1 (h k hk).2 _
  · exact h j hj
def gnS (s : Sg) : Nat → Sg
  | 0 => s
  | j + 1 => updS (gnS s j) j (1 + j) (s.gn j) (s.c 4)
theorem gnS_succ (s : Sg) (j : Nat) : gnS s (j + 1) = updS (gnS s j) j (1 + j) (s.gn j) (s.c 4) := rfl
theorem gnS_same (s : Sg) (j : Nat) : (gnS s j).c = s.c ∧ (gnS s j).gn = s.gn ∧ (gnS s j).ms = s.ms ∧ (gnS s j).hb = s.hb ∧ (gnS s j).hg = s.hg := by
  induction j with
  | zero => exact ⟨rfl, rfl, rfl, rfl, rfl⟩
  | succ j ih => exact ih
theorem OffOk.gn {s : Sg} (h : OffOk s) (j : Nat) (hj : j ≤ 3) : OffOk (gnS s j) := by
  induction j with
  | zero => exact h
  | succ j ih => exact (ih (by omega)).upd j (1 + j) (by omega) _ _
def baS (s : Sg) : Sg := if s.hb then updS s 2 0 s.br (s.c 3) else s
def holS (s : Sg) : Sg := if s.ms then s else if (baS s).hg then gnS (baS s) 3 else baS s
set_option maxRecDepth 20000 in
set_option maxHeartbeats 8000000 in
theorem hold_any (W : Nat) (s : Sg) (w : World) (h : St w W s) (hO : OffOk s) (r3 : 0 < s.c 3) (r4 : 0 < s.c 4) :
    Calls Tryz.prog 32 #[.pointer (some ⟨W, 0, none⟩)] w fun e w' => e = .returned (.tuple #[]) ∧ St w' W (holS s) ∧ Mod (fun b => b = W) w w' := by
  have h' := h
  obtain ⟨f, hf⟩ := h
  have c6 := hf.wk.cell (k := 6) (by decide) hf.ms
  have c13 := hf.wk.cell (k := 13) (by decide) hf.hb
  have c14 := hf.wk.cell (k := 14) (by decide) hf.br
  have c3 := hf.wk.cell (k := 3) (by decide) (hf.c 3 (by decide))
  have c15 := hf.wk.cell (k := 15) (by decide) hf.hg
  cases hms : s.ms
  case true =>
    have e : holS s = s := by unfold holS; rw [hms]; rfl
    rw [e]
    rw [hms] at c6
    clear hf e hms c13 c14 c3 c15
    go_enter Tryz.func32, Tryz.ntmps32
    go_wp2
    refine bodyPost_ret (v := .tuple #[]) (by simp [results, Tryz.results32, go_sem]) rfl ?_
    exact ⟨rfl, h', Mod.refl _ _⟩
  case false =>
  rw [hms] at c6
  have eH : holS s = if (baS s).hg then gnS (baS s) 3 else baS s := by unfold holS; rw [if_neg (by rw [hms]; decide)]
  have ehg : Hid ((baS s).hg = s.hg) := by unfold baS; split <;> rfl
  have ec : Hid ((baS s).c = s.c) := by unfold baS; split <;> rfl
  have hO' : OffOk (baS s) := by
    unfold baS
    split
    · exact hO.upd 2 0 (by decide) _ _
    · exact hO
  rw [eH]
  have h'' := hf
  clear eH hf hms
  cases hhb : s.hb <;> cases hhg : s.hg
  · -- barometer: False, satellites: False
    have hgB : (baS s).hg = false := by rw [ehg.out]; exact hhg
    have r4B : 0 < (baS s).c 4 := by rw [ec.out]; exact r4
    rw [hgB]
    rw [hhg] at c15
    rw [hhb] at c13
    simp only [Bool.false_eq_true, if_false]
    have eB : baS s = s := by unfold baS; rw [if_neg (by rw [hhb]; decide)]
    have hf1 : Stf w W (baS s) f := by rw [eB]; exact h''
    clear eB ec ehg h'' h' hhb hhg
    generalize baS s = sB at hO' r4B hgB hf1 ⊢
    go_enter Tryz.func32, Tryz.ntmps32
    go_wp2
    refine bodyPost_end (v := .tuple #[]) (by simp [results, Tryz.results32, go_sem]) rfl ?_
    exact ⟨rfl, ⟨f, hf1⟩, (Mod.refl _ w)⟩
  · -- barometer: False, satellites: True
    have hgB : (baS s).hg = true := by rw [ehg.out]; exact hhg
    have r4B : 0 < (baS s).c 4 := by rw [ec.out]; exact r4
    rw [hgB]
    rw [hhg] at c15
    rw [hhb] at c13
    simp only [if_true]
    have eB : baS s = s := by unfold baS; rw [if_neg (by rw [hhb]; decide)]
    have hf1 : Stf w W (baS s) f := by rw [eB]; exact h''
    clear eB ec ehg h'' h' hhb hhg
    generalize baS s = sB at hO' r4B hgB hf1 ⊢
    go_enter Tryz.func32, Tryz.ntmps32
    have v16 := hf1.wk.cell (k := 16) (by decide) (hf1.gn 0 (by decide))
    have v17 := hf1.wk.cell (k := 17) (by decide) (hf1.gn 1 (by decide))
    have v18 := hf1.wk.cell (k := 18) (by decide) (hf1.gn 2 (by decide))
    have hS0 : St w W (gnS sB 0) := ⟨f, hf1⟩
    clear hf1
    go_wp2
    go_loopw [36] (fun i wr => ∃ k : Nat, k ≤ 3 ∧ i = .int .i64 k ∧ St wr W (gnS sB k) ∧ Mod (fun b => b = W) w wr) (fun i _ => 3 - (intOf i).toNat)
    case atStart => exact ⟨0, Nat.zero_le _, rfl, hS0, Mod.refl _ _⟩
    case round =>
      obtain ⟨k, hk, rfl, hSt, hm⟩ := hrel
      by_cases h3k : k = 3
      · subst h3k
        go_wp2
        refine bodyPost_end (v := .tuple #[]) (by simp [results, Tryz.results32, go_sem]) rfl ?_
        exact ⟨rfl, hSt, (Mod.refl _ w).trans hm⟩
      have hgo := hO'.gn k hk
      obtain ⟨q1, q2, _⟩ := gnS_same sB k
      have hSt' := hSt
      obtain ⟨f2, hf2⟩ := hSt'
      have e4 := hf2.wk.cell (k := 4) (by decide) (hf2.c 4 (by decide))
      rw [q1] at e4
      clear hf2
      rcases (by omega : k = 0 ∨ k = 1 ∨ k = 2) with rfl | rfl | rfl
      · have hix := fun a0 a1 a2 => index_vec0 a0 a1 a2 wr
        have hu := update_any W 0 (1 + 0) (sB.gn 0) (sB.c 4) _ wr hSt (by decide) (by decide) r4B (hgo (1 + 0) (by decide)).1 (hgo (1 + 0) (by decide)).2
        go_wp2_with fail
        refine hu.mono ?_
        rintro e w2 ⟨rfl, h2, m2⟩
        rw [← gnS_succ] at h2
        go_wp2
        go_roundw
        case rel => exact ⟨0 + 1, by decide, by go_num, h2, hm.trans m2⟩
        case measure => simp [intOf]
      · have hix := fun a0 a1 a2 => index_vec1 a0 a1 a2 wr
        have hu := update_any W 1 (1 + 1) (sB.gn 1) (sB.c 4) _ wr hSt (by decide) (by decide) r4B (hgo (1 + 1) (by decide)).1 (hgo (1 + 1) (by decide)).2
        go_wp2_with fail
        refine hu.mono ?_
        rintro e w2 ⟨rfl, h2, m2⟩
        rw [← gnS_succ] at h2
        go_wp2
        go_roundw
        case rel => exact ⟨1 + 1, by decide, by go_num, h2, hm.trans m2⟩
        case measure => simp [intOf]
      · have hix := fun a0 a1 a2 => index_vec2 a0 a1 a2 wr
        have hu := update_any W 2 (1 + 2) (sB.gn 2) (sB.c 4) _ wr hSt (by decide) (by decide) r4B (hgo (1 + 2) (by decide)).1 (hgo (1 + 2) (by decide)).2
        go_wp2_with fail
        refine hu.mono ?_
        rintro e w2 ⟨rfl, h2, m2⟩
        rw [← gnS_succ] at h2
        go_wp2
        go_roundw
        case rel => exact ⟨2 + 1, by decide, by go_num, h2, hm.trans m2⟩
        case measure => simp [intOf]
  · -- barometer: True, satellites: False
    have hgB : (baS s).hg = false := by rw [ehg.out]; exact hhg
    have r4B : 0 < (baS s).c 4 := by rw [ec.out]; exact r4
    rw [hgB]
    rw [hhg] at c15
    rw [hhb] at c13
    simp only [Bool.false_eq_true, if_false]
    have eB : baS s = updS s 2 0 s.br (s.c 3) := by unfold baS; rw [if_pos hhb]
    have hu := update_any W 2 0 s.br (s.c 3) s w.drew (h'.below (Below.refl _ _).drew) (by decide) (by decide) r3 (hO 0 (by decide)).1 (hO 0 (by decide)).2
    rw [← eB] at hu
    clear eB ec ehg h'' h' hhb hhg
    generalize baS s = sB at hO' r4B hgB hu ⊢
    go_enter Tryz.func32, Tryz.ntmps32
    go_wp2
    refine wp_region_still_tail 11 (by kernel_rfl) (by kernel_rfl) ?_
    simp only [List.take_succ_cons, List.take_zero, List.drop_succ_cons, List.drop_zero]
    repeat still_step
    refine wpStill_nil ?_
    change wpList Tryz.prog _ _ _ _ w.drew
    go_wp2_with fail
    refine hu.mono ?_
    rintro e w1 ⟨rfl, h1, m1⟩
    have m01 : Mod (fun b => b = W) w w1 := (Mod.of (Below.refl _ w).drew).trans m1
    obtain ⟨f1, hf1⟩ := h1
    have d15 := hf1.wk.cell (k := 15) (by decide) hf1.hg
    rw [hgB] at d15
    go_wp2
    refine bodyPost_end (v := .tuple #[]) (by simp [results, Tryz.results32, go_sem]) rfl ?_
    exact ⟨rfl, ⟨f1, hf1⟩, m01⟩
  · -- barometer: True, satellites: True
    have hgB : (baS s).hg = true := by rw [ehg.out]; exact hhg
    have r4B : 0 < (baS s).c 4 := by rw [ec.out]; exact r4
    rw [hgB]
    rw [hhg] at c15
    rw [hhb] at c13
    simp only [if_true]
    have eB : baS s = updS s 2 0 s.br (s.c 3) := by unfold baS; rw [if_pos hhb]
    have hu := update_any W 2 0 s.br (s.c 3) s w.drew (h'.below (Below.refl _ _).drew) (by decide) (by decide) r3 (hO 0 (by decide)).1 (hO 0 (by decide)).2
    rw [← eB] at hu
    clear eB ec ehg h'' h' hhb hhg
    generalize baS s = sB at hO' r4B hgB hu ⊢
    go_enter Tryz.func32, Tryz.ntmps32
    go_wp2
    refine wp_region_still_tail 11 (by kernel_rfl) (by kernel_rfl) ?_
    simp only [List.take_succ_cons, List.take_zero, List.drop_succ_cons, List.drop_zero]
    repeat still_step
    refine wpStill_nil ?_
    change wpList Tryz.prog _ _ _ _ w.drew
    go_wp2_with fail
    refine hu.mono ?_
    rintro e w1 ⟨rfl, h1, m1⟩
    have m01 : Mod (fun b => b = W) w w1 := (Mod.of (Below.refl _ w).drew).trans m1
    obtain ⟨f1, hf1⟩ := h1
    have d15 := hf1.wk.cell (k := 15) (by decide) hf1.hg
    rw [hgB] at d15
    have v16 := hf1.wk.cell (k := 16) (by decide) (hf1.gn 0 (by decide))
    have v17 := hf1.wk.cell (k := 17) (by decide) (hf1.gn 1 (by decide))
    have v18 := hf1.wk.cell (k := 18) (by decide) (hf1.gn 2 (by decide))
    have hS0 : St w1 W (gnS sB 0) := ⟨f1, hf1⟩
    clear hf1
    go_wp2
    go_loopw [36] (fun i wr => ∃ k : Nat, k ≤ 3 ∧ i = .int .i64 k ∧ St wr W (gnS sB k) ∧ Mod (fun b => b = W) w1 wr) (fun i _ => 3 - (intOf i).toNat)
    case atStart => exact ⟨0, Nat.zero_le _, rfl, hS0, Mod.refl _ _⟩
    case round =>
      obtain ⟨k, hk, rfl, hSt, hm⟩ := hrel
      by_cases h3k : k = 3
      · subst h3k
        go_wp2
        refine bodyPost_end (v := .tuple #[]) (by simp [results, Tryz.results32, go_sem]) rfl ?_
        exact ⟨rfl, hSt, m01.trans hm⟩
      have hgo := hO'.gn k hk
      obtain ⟨q1, q2, _⟩ := gnS_same sB k
      have hSt' := hSt
      obtain ⟨f2, hf2⟩ := hSt'
      have e4 := hf2.wk.cell (k := 4) (by decide) (hf2.c 4 (by decide))
      rw [q1] at e4
      clear hf2
      rcases (by omega : k = 0 ∨ k = 1 ∨ k = 2) with rfl | rfl | rfl
      · have hix := fun a0 a1 a2 => index_vec0 a0 a1 a2 wr
        have hu := update_any W 0 (1 + 0) (sB.gn 0) (sB.c 4) _ wr hSt (by decide) (by decide) r4B (hgo (1 + 0) (by decide)).1 (hgo (1 + 0) (by decide)).2
        go_wp2_with fail
        refine hu.mono ?_
        rintro e w2 ⟨rfl, h2, m2⟩
        rw [← gnS_succ] at h2
        go_wp2
        go_roundw
        case rel => exact ⟨0 + 1, by decide, by go_num, h2, hm.trans m2⟩
        case measure => simp [intOf]
      · have hix := fun a0 a1 a2 => index_vec1 a0 a1 a2 wr
        have hu := update_any W 1 (1 + 1) (sB.gn 1) (sB.c 4) _ wr hSt (by decide) (by decide) r4B (hgo (1 + 1) (by decide)).1 (hgo (1 + 1) (by decide)).2
        go_wp2_with fail
        refine hu.mono ?_
        rintro e w2 ⟨rfl, h2, m2⟩
        rw [← gnS_succ] at h2
        go_wp2
        go_roundw
        case rel => exact ⟨1 + 1, by decide, by go_num, h2, hm.trans m2⟩
        case measure => simp [intOf]
      · have hix := fun a0 a1 a2 => index_vec2 a0 a1 a2 wr
        have hu := update_any W 2 (1 + 2) (sB.gn 2) (sB.c 4) _ wr hSt (by decide) (by decide) r4B (hgo (1 + 2) (by decide)).1 (hgo (1 + 2) (by decide)).2
        go_wp2_with fail
        refine hu.mono ?_
        rintro e w2 ⟨rfl, h2, m2⟩
        rw [← gnS_succ] at h2
        go_wp2
        go_roundw
        case rel => exact ⟨2 + 1, by decide, by go_num, h2, hm.trans m2⟩
        case measure => simp [intOf]
end Go.Proofs.YtoefekkdjcflmaaGreatDoor.Et
namespace Go.Proofs.YtoefekkdjcflmaaGreatDoor.Qm
open Go.RowKit Go.Sort
theorem trk_of {r1 c1 : Int} {xs : List Int} {r2 c2 : Int} {ps : List Int} (h : trkB r1 c1 xs r2 c2 ps = true) : ∃ n : Nat, r1 = n ∧ c1 = 1 ∧ r2 = n ∧ c2 = n ∧ 1 ≤ n ∧ n ≤ 8 ∧ xs.length = n * 1 ∧ ps.length = n * n ∧ AllIn xs ∧ AllIn ps ∧ evB n ps = true := by
  unfold trkB at h
  simp only [Bool.and_eq_true, decide_eq_true_eq] at h
  obtain ⟨h1, h2, h3, h4, h5, h6⟩ := h
  obtain ⟨R, C, hR⟩ := right_of h1
  obtain ⟨R', C', hR'⟩ := right_of h2
  have e1 := hR.hr; have e2 := hR.hc; have e3 := hR'.hr; have e4 := hR'.hc
  have eC : C = 1 := by omega
  have eR : R' = R := by omega
  have eC' : C' = R := by omega
  subst eC eR eC'
  refine ⟨C', e1, h3, by omega, by omega, hR.r1, hR.r8, hR.len, hR'.len, hR.ins, hR'.ins, ?_⟩
  rw [e1, Int.toNat_natCast] at h6
  exact h6
end Go.Proofs.YtoefekkdjcflmaaGreatDoor.Qm

