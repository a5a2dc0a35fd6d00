/-
  The contract of sum.Open.
-/
import Derived.Test.YtnkghcbjokmooaaDoorCV
import Derived.DataElems
namespace Go.Proofs.YtnkghcbjokmooaaDoor.Gr
open Go.RowKit Go.Sort Qm

theorem of_calm (v : Value) (bs : List (BitVec 8)) (w : World) (hn : bs.length ≤ 4000) (hs : SeesB w v bs) (d : Nat) (os : Array Obj) :
    Calls Tryd.prog 40 #[v] (grow (redrawn w d) os) fun e w'' => e = .returned (.int .u32 (iv (ofS bs))) ∧ ∃ p : Regrown, w'' = grow (redrawn w p.d) p.os :=
  Calls.regrown_of (of_any v bs _ hn (hs.below (below_regrown w d os)))
theorem laid_calm (c : BitVec 32) (w : World) (d : Nat) (os : Array Obj) :
    Calls Tryd.prog 39 #[.int .u32 (iv c)] (grow (redrawn w d) os) fun e w'' => e = .returned (.agg ((laidS c).map vb).toArray) ∧ ∃ p : Regrown, w'' = grow (redrawn w p.d) p.os :=
  Calls.regrown_of (laid_any c _)
theorem drop4 {bs : List (BitVec 8)} {m : Nat} (h : bs.length = m + 4) : bs.drop m = [bs.getD m 0#8, bs.getD (m + 1) 0#8, bs.getD (m + 2) 0#8, bs.getD (m + 3) 0#8] := by
  apply List.ext_getElem?
  intro i
  rw [List.getElem?_drop]
  have g : ∀ j, j < 4 → bs[m + j]? = some (bs.getD (m + j) 0#8) := fun j hj => by
    rw [List.getD_eq_getElem?_getD, List.getElem?_eq_getElem (by omega)]; rfl
  rcases (by omega : i = 0 ∨ i = 1 ∨ i = 2 ∨ i = 3 ∨ 4 ≤ i) with rfl | rfl | rfl | rfl | hi
  · exact g 0 (by omega)
  · exact g 1 (by omega)
  · exact g 2 (by omega)
  · exact g 3 (by omega)
  · rw [List.getElem?_eq_none (by omega), List.getElem?_eq_none (by simp; omega)]

set_option maxRecDepth 20000 in
set_option maxHeartbeats 800000 in
theorem open_any (v : Value) (bs : List (BitVec 8)) (hn : bs.length ≤ 3500) (w : World) (hs : SeesB w v bs) :
    Calls Tryd.prog 30 #[v] w fun e b => ∃ v', e = .returned (.tuple #[v', .int .i64 (openE bs)]) ∧ SeesB b v' (openS bs) ∧ Below w.heap.size w b := by
  obtain ⟨ao, cap, rfl⟩ := hs.slice
  have hcap := hs.le.1
  obtain ⟨n, hn'⟩ : ∃ n, bs.length = n := ⟨_, rfl⟩
  by_cases h4 : bs.length < 4
  · have e1 : openE bs = 4 := by unfold openE; rw [if_pos h4]
    have e2 : openS bs = [] := by unfold openS; rw [ok_short h4]; rfl
    rw [e1, e2]
    rw [hn'] at h4 ⊢
    have hw : wrap64 ((n : Int) - 4) = (n : Int) - 4 := by unfold wrap64; omega
    have hl : (n : Int) - 4 < 0 := by omega
    go_enter Tryd.func30, Tryd.ntmps30
    go_wp2
    go_ret2
    exact ⟨_, rfl, Row.nil w, Below.refl _ _⟩
  · have h4' : 4 ≤ bs.length := by omega
    obtain ⟨m, rfl⟩ : ∃ m, n = m + 4 := ⟨n - 4, by omega⟩
    have hm : bs.length - 4 = m := by omega
    have HT := hs.take' (m := m) (by omega)
    have hlT : (bs.take m).length = m := by rw [List.length_take]; omega
    have hmm : m ≤ 3500 := by omega
    have hmc : m + 4 ≤ cap := by omega
    have hE : openE bs = if okS bs then 0 else 3 := by unfold openE; rw [if_neg h4]
    have hS : openS bs = if okS bs then bs.take m else [] := by unfold openS; rw [hm]
    have hO : okS bs = decide (bs.drop m = laidS (ofS (bs.take m))) := by unfold okS; rw [hm, decide_eq_true h4', Bool.true_and]
    rw [hE, hS]
    obtain ⟨ad, had, _, c0⟩ := hs.at m (by omega)
    obtain ⟨_, had1, _, c1⟩ := hs.at (m + 1) (by omega)
    obtain ⟨_, had2, _, c2⟩ := hs.at (m + 2) (by omega)
    obtain ⟨_, had3, _, c3⟩ := hs.at (m + 3) (by omega)
    subst had
    cases had1; cases had2; cases had3
    have hd := drop4 hn'
    have hq := fun u => run_eq38 u (bs.drop m) (laidS (ofS (bs.take m))) (by rw [List.length_drop]; omega) rfl
    have cO := fun d os => of_calm (.slice (some ad) m cap) (bs.take m) w (by omega) HT d os
    have cL := fun d os => laid_calm (ofS (bs.take m)) w d os
    have cC := fun u (hu : SeesB u (.slice (some ad) m cap) (bs.take m)) => clone_any ad m cap (bs.take m) (by omega) u hu
    rw [← hO, hd] at hq
    have g38 := guard38
    have m0 := cell_regrown c0
    have m1 := cell_regrown (a := ⟨(ad.add m).block, (ad.add m).off + 1, none⟩) (by rw [← Addr.add_add] at c1; exact c1)
    have m2 := cell_regrown (a := ⟨(ad.add m).block, (ad.add m).off + 2, none⟩) (by rw [← Addr.add_add] at c2; exact c2)
    have m3 := cell_regrown (a := ⟨(ad.add m).block, (ad.add m).off + 3, none⟩) (by rw [← Addr.add_add] at c3; exact c3)
    rw [hn'] at hs ⊢
    have hw : wrap64 (m : Int) = (m : Int) := by unfold wrap64; omega
    generalize ofS (bs.take m) = C at hq cO cL
    generalize (laidS C).map vb = A at hq cL
    generalize bs.getD m 0#8 = x0 at m0 hq
    generalize bs.getD (m + 1) 0#8 = x1 at m1 hq
    generalize bs.getD (m + 2) 0#8 = x2 at m2 hq
    generalize bs.getD (m + 3) 0#8 = x3 at m3 hq
    generalize okS bs = E at hq ⊢
    have hq' : ∀ u, Sem.run Tryd.prog (Op.equalIn 10000 54 (.agg #[vb x0, vb x1, vb x2, vb x3]) (.agg A.toArray)) u = .ok E u := hq
    clear hq
    have HT' : Hid (SeesB w (.slice (some ad) m cap) (bs.take m)) := HT
    have z0 : (0 : Int) ≤ (m : Int) := by omega
    have z1 : (m : Int) ≤ (m : Int) + 4 := by omega
    have z2 : (m : Int) ≤ (cap : Int) := by omega
    have z3 : (m : Int) + 4 ≤ (cap : Int) := by omega
    have z4 : m ≤ cap := by omega
    have z5 : ¬ cap = m := by omega
    have z6 : m + 4 - m = 4 := by omega
    have hat := fun (c : Nat) (u : World) => run_arrayAt (P := Tryd.prog) u 54 5 4 (some (ad.add m)) 4 c und38 (Nat.le_refl 4)
    clear c0 c1 c2 c3 hd hO hE hS HT h4 h4' hcap hs hlT hm hn hn'
    generalize bs.take m = T at cC HT' ⊢
    cases E
    all_goals
      go_enter Tryd.func30, Tryd.ntmps30
      go_wp2
      refine wp_region_quiet_below (by kernel_rfl) (by kernel_rfl) ?_
      repeat (quiet_step (first | (go_at_call 40; exact cO _ _) | (go_at_call 39; exact cL _ _)))
      refine wpQuiet_nil ?_
      intro _ hw'
      obtain ⟨⟨dq, osq⟩, hw''⟩ := hw'
      subst hw''
      have bz := below_regrown w dq osq
      generalize grow (redrawn w dq) osq = u at bz ⊢
      have hu := HT'.out.below bz
      clear m0 m1 m2 m3 cO cL
      go_wp2_with (go_at_call 43; refine (cC _ hu).mono ?_; rintro e w4 ⟨v4, rfl, hs4, b4⟩)
      go_ret2
    · exact ⟨_, rfl, Row.nil _, bz⟩
    · exact ⟨_, rfl, hs4, bt bz b4⟩
end Go.Proofs.YtnkghcbjokmooaaDoor.Gr
