/-
  The code's Join.
-/
import Derived.Test.YtehlibeedieclaaDJ
namespace Go.Proofs.Ytehlibeedieclaa.Gr
open Go.RowKit Go.Sort Dm
set_option linter.unusedVariables false

theorem own_keep {w w' : World} {base : Nat} {e : TypeId} {size n : Nat} {v : Value} {xs : List Value} (h : w.ownsRow base e size v n xs) (hb : Below w.heap.size w w') : w'.ownsRow base e size v n xs := by
  obtain ⟨hl, h0 | ⟨g, cap', cur, hv, hb', hg', r⟩⟩ := h
  · exact ⟨hl, .inl h0⟩
  · exact ⟨hl, .inr ⟨g, cap', cur, hv, hb', keep hb hg', r⟩⟩
theorem SeesI.grown {w w' : World} {v : Value} {xs : List Int} {B : Nat} {row : Option Nat} (h : SeesI w v xs) (hn : New B v) (hg : w.grownBy w' row) (hr : ∀ k, row = some k → k < B) : SeesI w' v xs := by
  obtain ⟨ao, cap, rfl, hc, hk⟩ := h
  refine ⟨ao, cap, rfl, hc, fun k u hu => ?_⟩
  obtain ⟨ad, ha, hl, hcell⟩ := hk k u hu
  refine ⟨ad, ha, Nat.lt_of_lt_of_le hl hg.size, ?_⟩
  rw [← hcell]
  have hB : B ≤ ad.block := hn _ (by rw [ha]; rfl)
  have hblk := hg.block ad.block hl (fun e => by have := hr _ e.symm; omega)
  unfold World.cell?
  rw [add_block, hblk]
theorem _root_.Go.World.ownsRow.below' {w w' : World} {base : Nat} {e : TypeId} {size n n' g cap : Nat} {xs : List Value} (h : w.ownsRow base e size (.slice (some ⟨g, 0, none⟩) n cap) n' xs) (hb : Below w.heap.size w w') (hg : g < w.heap.size) : w'.ownsRow base e size (.slice (some ⟨g, 0, none⟩) n cap) n' xs := by
  obtain ⟨hl, ⟨e1, _⟩ | ⟨g', cap', cur, e1, r1, r2, r3⟩⟩ := h
  · cases e1
  · cases e1
    exact ⟨hl, .inr ⟨g, cap, cur, rfl, r1, keep hb r2, r3⟩⟩
set_option maxRecDepth 20000 in
theorem join_neg (ao : Option Addr) (Q cap : Nat) (n : Int) (h : n < 0) (w : World) :
    Calls Try.prog 16 #[.slice ao Q cap, .int .i64 n] w fun e w' => e = .returned (.tuple #[.slice none 0 0, .int .i64 9]) ∧ Below w.heap.size w w' := by
  have h1 : decide (n < 0) = true := decide_eq_true h
  go_enter Try.func16, Try.ntmps16
  go_wp2
  go_ret2
  exact ⟨rfl, Below.refl _ _⟩
set_option maxRecDepth 20000 in
theorem join_size (ao : Option Addr) (Q cap : Nat) (n : Nat) (hn : n ≤ 9223372036854775807) (h : ¬ Q = (n + 7) / 8) (w : World) :
    Calls Try.prog 16 #[.slice ao Q cap, .int .i64 n] w fun e w' => e = .returned (.tuple #[.slice none 0 0, .int .i64 9]) ∧ Below w.heap.size w w' := by
  have cM := fun (u : World) => many_any n (by omega) (by omega) u
  rw [piS_8] at cM
  generalize (n + 7) / 8 = q at *
  have h1 : decide ((n : Int) < 0) = false := decide_eq_false (by omega)
  have h2 : ((Q : Int) != (q : Int)) = true := by simp; omega
  have h3 : ¬ (Q : Int) = (q : Int) := by omega
  go_enter Try.func16, Try.ntmps16
  go_wp2_with (go_at_call 17; go_must (refine (cM _).mono ?_); rintro e w1 ⟨rfl, b1⟩)
  go_ret2
  exact ⟨rfl, b1⟩
set_option maxRecDepth 20000 in
set_option maxHeartbeats 2000000 in
theorem join_yes (va : Value) (Q : Nat) (cs : List Int) (n : Nat) (w : World) (hn : n ≤ 90000) (h : Q = (n + 7) / 8) (sa : SeesA w va Q cs) :
    Calls Try.prog 16 #[va, .int .i64 n] w fun e w' => (anyS (cs.drop n) = false → ∃ v, e = .returned (.tuple #[v, .int .i64 0]) ∧ SeesI w' v (cs.take n) ∧ New w.heap.size v) ∧
      (anyS (cs.drop n) = true → e = .returned (.tuple #[.slice none 0 0, .int .i64 9])) ∧ Below w.heap.size w w' := by
  obtain ⟨ao, cap, rfl⟩ := sa.slice
  have cM := fun (u : World) => many_any n (by omega) (by omega) u
  rw [piS_8, ← h] at cM
  have hcl := sa.1
  have hQb : Q ≤ 12000 := by omega
  have hnQ : n ≤ 8 * Q := by omega
  have h1 : decide ((n : Int) < 0) = false := decide_eq_false (by omega)
  have hp0 := partS_zero cs Q
  have hpe : partS cs Q Q = cs := by unfold partS; rw [List.take_of_length_le (by omega)]; simp [hcl]
  obtain ⟨fz, hfz⟩ : ∃ fz, w.heap.size = fz := ⟨_, rfl⟩
  have HF : Hid (w.heap.size = fz) := hfz
  have HC : Hid (cs.length = 8 * Q ∧ partS cs Q Q = cs) := ⟨hcl, hpe⟩
  have cC := fun (u : World) (v : Value) (s : SeesI u v (cs.drop n)) => contains_any v _ u (by rw [List.length_drop]; omega) s
  obtain ⟨Z, hZ⟩ : ∃ Z, 8 * Q = Z := ⟨_, rfl⟩
  have hQZ : (Q : Int) * 8 = (Z : Int) := by omega
  have wZ : wrap64 (Z : Int) = Z := by unfold wrap64; omega
  rw [hZ] at hnQ hp0
  have HZ : Hid (8 * Q = Z) := hZ
  clear h hcl hpe
  go_enter Try.func16, Try.ntmps16
  go_wp2_with (first
    | (go_at_call 17; go_must (refine (cM _).mono ?_); rintro e w1 ⟨rfl, b1⟩)
    | (at_make; refine make64 rfl _ _ rfl Z rfl rfl (by omega) ?_; intro w2 ho2 b2))
  have hb2 : Below fz w w2 := by rw [← hfz]; exact bt b1 b2
  have hgf : fz ≤ w1.heap.size := by rw [← hfz]; exact b1.size
  rw [← hp0] at ho2
  have ho3 := own_mono ho2 hgf
  have hgl : w1.heap.size < w2.heap.size := (by obtain ⟨_, ⟨e, _⟩ | ⟨g', _, _, e, _, hg, _⟩⟩ := ho2; cases e; cases e; exact (Array.getElem?_eq_some_iff.1 hg).1)
  generalize w1.heap.size = g at *
  clear ho2 b1 b2 cM hp0
  go_loopw [24] (fun i wr => ∃ k : Nat, k ≤ Q ∧ i = .int .i64 k ∧ g < wr.heap.size ∧ wr.ownsRow fz 2 1 (.slice (some ⟨g, 0, none⟩) Z Z) Z ((partS cs Q k).map vw) ∧ Below fz w wr) (fun i _ => Q - (intOf i).toNat)
  case atStart => exact ⟨0, Nat.zero_le _, rfl, hgl, ho3, hb2⟩
  case round =>
    clear ho3 hb2 hgl
    obtain ⟨k, hk, rfl, hgl, hown, hbl⟩ := hrel
    have hfw : fz ≤ wr.heap.size := by have := hbl.size; omega
    by_cases hlt : k < Q
    · obtain ⟨ad, rfl, la, ca⟩ := (sa.below (hfz ▸ hbl)).part hlt
      have hnx := partS_next cs hlt (by rw [HC.out.1]; omega)
      have hVl : ((cs.drop (8 * k)).take 8).length = 8 := by rw [List.length_take, List.length_drop, HC.out.1]; omega
      generalize (cs.drop (8 * k)).take 8 = V at hnx hVl ca
      have hkQ : (k : Int) < (Q : Int) := by omega
      have hk0 : (0 : Int) ≤ (k : Int) := by omega
      obtain ⟨F, hF8⟩ : ∃ F, 8 * k = F := ⟨_, rfl⟩
      have hF : (k : Int) * 8 = (F : Int) := by omega
      have hk8 : k * 8 = F := by omega
      have wF : wrap64 (F : Int) = F := by unfold wrap64; omega
      rw [hF8] at hnx ca
      have HX : Hid (splice (partS cs Q k) F V = partS cs Q (k + 1) ∧ F + 8 ≤ Z) := ⟨hnx, by omega⟩
      have ca' : ∀ j u, (V.map vw)[j]? = some u → wr.cell? ((ad.add F).add j) = some u := fun j u hu => by rw [add_add]; exact ca j u hu
      clear hnx ca
      --[a
      go_wp2_with (first
        | (refine ld8 rfl _ rfl (ad.add F) rfl V hVl ca' ?_)
        | (refine al8 rfl rfl ?_; intro w3 hh3 b3)
        | (refine st8 rfl _ _ rfl wr.heap.size V hVl rfl rfl _ (by simp) hh3 ?_; intro w4 hh4 g4))
      have bw4 : Below wr.heap.size wr w4 := b3.grown g4 b3.size (fun m e => by cases e; exact Nat.le_refl _)
      have hown4 := hown.below' bw4 hgl
      have hbl4 : Below fz w w4 := hbl.trans (bw4.mono hfw)
      have hfw4 : fz ≤ w4.heap.size := Nat.le_trans hfw bw4.size
      have hgl4 : g < w4.heap.size := Nat.lt_of_lt_of_le hgl bw4.size
      have hZF : ¬ Z = F := by have := HX.out.2; omega
      have hFZ : (F : Int) ≤ (Z : Int) := by omega
      have hF0 : (0 : Int) ≤ (F : Int) := by omega
      have hV8 : V.length = Nat.min 8 (Z - F) := by show _ = min _ _; have := HX.out.2; omega
      have hsrc : ∀ j v, (V.map vw)[j]? = some v → w4.drew.cell? ((⟨wr.heap.size, 0, none⟩ : Addr).add j) = some v := by
        intro j v hv
        have e : (⟨wr.heap.size, 0, none⟩ : Addr).add j = ⟨wr.heap.size, j, none⟩ := by unfold Addr.add; split <;> simp_all
        rw [e]
        show w4.cell? _ = _
        rw [cell_of_tab hh4 j]
        simpa using hv
      have wF2 := wrap_i (F : Int) (by omega) (by omega)
      clear hown hh3 b3 hh4 g4 ca'
      go_still_tail 5, (by kernel_rfl)
      change wpList Try.prog _ _ _ _ w4.drew
      refine wpList_copyO rfl _ _ _ _ rfl 2 under22 (by kernel_rfl) _ _ _ _ _ _ rfl rfl hown4.drew F (V.map vw) (by rw [List.length_map]; exact hV8) (fun hp => ⟨rfl, _, rfl, hsrc⟩) (by rw [List.length_map]; have := HX.out.2; omega) (ws_one V) ?_
      intro w5 ho5 g5
      rw [splice_map, HX.out.1] at ho5
      have hb5 : Below fz w w5 := hbl4.drew.grown g5 hfw4 (fun m e => by cases e; exact hgf)
      have hgl5 : g < w5.heap.size := Nat.lt_of_lt_of_le hgl4 g5.size
      go_wp2
      go_roundw
      case rel => exact ⟨k + 1, by omega, by go_num, hgl5, ho5, hb5⟩
      case measure => simp [intOf]; omega
      --]a
    · obtain rfl : k = Q := by omega
      have hsee : SeesI wr (.slice (some ⟨g, 0, none⟩) Z Z) cs := by rw [HC.out.2] at hown; exact Row.own hown
      have hnl : n ≤ cs.length := by rw [HC.out.1, HZ.out]; exact hnQ
      have s2 := hsee.drop hnl
      have s3 := hsee.cut3 hnl
      have hnZ : (n : Int) ≤ (Z : Int) := by omega
      have hn0 : (0 : Int) ≤ (n : Int) := by omega
      have s2' : SeesI wr (.slice (if Z = n then some ⟨g, 0, none⟩ else some ⟨g, n, none⟩) (Z - n) (Z - n)) (cs.drop n) := by
        have e : (some (⟨g, 0, none⟩ : Addr)).map (·.add n) = some (if Z = n then (⟨g, 0, none⟩ : Addr).add n else ⟨g, n, none⟩) := by
          split
          · rfl
          · simp only [Option.map_some]; congr 1; unfold Addr.add; split <;> simp_all
        by_cases h : Z = n
        · rw [if_pos h]; rw [if_pos h] at s2; exact s2
        · rw [if_neg h]; rw [if_neg h, e, if_neg h] at s2; exact s2
      clear s2 hnl hown hsee
      rcases Bool.eq_false_or_eq_true (anyS (cs.drop n)) with hA | hA
      · have HA : Hid (anyS (cs.drop n) = true) := hA
        rw [hA] at cC
        clear hA
        by_cases hzn : Z = n
        · rw [if_pos hzn, show Z - n = 0 by omega] at s2'
          --[d
          go_wp2_with (go_at_call 22; go_must (refine (cC _ _ s2').mono ?_); rintro e w6 ⟨rfl, b6⟩)
          go_ret2
          exact ⟨fun h => absurd (HA.out.symm.trans h) (by decide), fun _ => rfl, by rw [HF.out]; exact hbl.trans (b6.mono (by have := hbl.size; omega))⟩
          --]d
        · rw [if_neg hzn] at s2'
          --[e
          go_wp2_with (go_at_call 22; go_must (refine (cC _ _ s2').mono ?_); rintro e w6 ⟨rfl, b6⟩)
          go_ret2
          exact ⟨fun h => absurd (HA.out.symm.trans h) (by decide), fun _ => rfl, by rw [HF.out]; exact hbl.trans (b6.mono (by have := hbl.size; omega))⟩
          --]e
      · have HA : Hid (anyS (cs.drop n) = false) := hA
        rw [hA] at cC
        clear hA
        by_cases hzn : Z = n
        · rw [if_pos hzn, show Z - n = 0 by omega] at s2'
          --[b
          go_wp2_with (go_at_call 22; go_must (refine (cC _ _ s2').mono ?_); rintro e w6 ⟨rfl, b6⟩)
          go_ret2
          exact ⟨fun _ => ⟨_, rfl, s3.below b6, fun k e => by cases e; rw [HF.out]; exact hgf⟩, fun h => absurd (HA.out.symm.trans h) (by decide), by rw [HF.out]; exact hbl.trans (b6.mono (by have := hbl.size; omega))⟩
          --]b
        · rw [if_neg hzn] at s2'
          --[c
          go_wp2_with (go_at_call 22; go_must (refine (cC _ _ s2').mono ?_); rintro e w6 ⟨rfl, b6⟩)
          go_ret2
          exact ⟨fun _ => ⟨_, rfl, s3.below b6, fun k e => by cases e; rw [HF.out]; exact hgf⟩, fun h => absurd (HA.out.symm.trans h) (by decide), by rw [HF.out]; exact hbl.trans (b6.mono (by have := hbl.size; omega))⟩
          --]c
end Go.Proofs.Ytehlibeedieclaa.Gr
