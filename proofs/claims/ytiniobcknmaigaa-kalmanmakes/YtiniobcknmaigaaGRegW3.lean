/-
  The same, where what is killed may stand ahead of others that do not use it, also of such as come behind its killer.
-/
import Derived.Test.YtiniobcknmaigaaG05
namespace Go.Proofs.Ytiniobcknmaigaa
open Go.RowKit Go.Sort Qm

theorem wp_region_own3 {P : Program} {id : Nat} {ops : Array Oper} {Q : Exit → Act → World → Prop} {w0 : World} (hm : P.follows .mixedOrders = true) (hlt : ∀ i, i < ops.size → ∀ k ∈ pres ops i, k < i)
    (dst : Nat → Nat) (inj : ∀ i, i < ops.size → ∀ j, j < ops.size → dst i = dst j → i = j) (fr : (Nat → Value) → Act) (vs0 : Nat → Value) (aux : Nat → Nat) (haux : ∀ i, i < ops.size → aux i = i ∨ aux i ∈ pres ops i)
    (Mo : Nat → Prop) (hMo : ∀ k, Mo k → k < w0.heap.size) (wr : Nat → Nat → Prop) (hwr : ∀ i k, wr i k → Mo k) (hwr1 : ∀ i j k, wr i k → wr j k → i = j)
    (kill : Nat → Nat → Prop) (hk1 : ∀ s j, kill s j → s < ops.size ∧ j ∈ pres ops s) (hk2 : ∀ s s' j, kill s j → kill s' j → s = s')
    (T : Nat → Value → Value → (Nat → Prop) → World → Prop)
    (hstab : ∀ i v u S w w', i < ops.size → T i v u S w → Mod Mo w0 w → Mod Mo w0 w' → w.heap.size ≤ w'.heap.size → (∀ k, S k → w'.heap[k]? = w.heap[k]?) → T i v u S w')
    (hstep : ∀ i, i < ops.size → ∀ vs w (S : Nat → Nat → Prop), Mod Mo w0 w → (∀ k ∈ pres ops i, (∀ s, kill s k → s = i) → T k (vs (dst k)) (vs (dst (aux k))) (S k) w) → (∀ k ∈ pres ops i, ∀ b, S k b → b < w.heap.size ∧ ¬ wr i b) →
      (∀ k, Mo k → (∀ j, wr j k → j < ops.size ∧ (j = i ∨ i ∈ pres ops j)) → w.heap[k]? = w0.heap[k]?) → (∀ j, kill i j → ∀ k ∈ pres ops i, k ≠ j → ∀ b, S j b → ¬ S k b) → (∀ k, (∀ j, j < ops.size → dst j = k → i ∈ pres ops j ∨ j = i) → vs k = vs0 k) →
      wpOp P ops Q i (fun a' w' => ∃ v S', a' = fr (fun k => if k = dst i then v else vs k) ∧ T i v (if aux i = i then v else vs (dst (aux i))) S' w' ∧
        (∀ b, S' b → (∃ k ∈ pres ops i, (∀ s, kill s k → s = i) ∧ S k b) ∨ (w.heap.size ≤ b ∧ b < w'.heap.size) ∨ wr i b) ∧ ((∃ s, kill s i) → ∀ b, S' b → w.heap.size ≤ b ∨ wr i b) ∧ Mod (fun b => wr i b ∨ ∃ j, kill i j ∧ S j b) w w') (fr vs) w)
    (hend : ∀ vs w (S : Nat → Nat → Prop), Mod Mo w0 w → (∀ i, i < ops.size → (∀ s, ¬ kill s i) → T i (vs (dst i)) (vs (dst (aux i))) (S i) w) → Q .normal (fr vs) w) : (Code.region id ops true).wp P Q (fr vs0) w0 := by
  refine wp_region_L hm hlt (fun L a w => ∃ vs, ∃ S : Nat → Nat → Prop, a = fr vs ∧ Mod Mo w0 w ∧ (∀ i, i < ops.size → L i = true → (∀ s, kill s i → L s = false) → T i (vs (dst i)) (vs (dst (aux i))) (S i) w) ∧
    (∀ i, i < ops.size → L i = true → ∀ b, S i b → b < w.heap.size) ∧ (∀ i, i < ops.size → L i = true → ∀ b, S i b → b < w0.heap.size → ∃ j, L j = true ∧ wr j b) ∧
    (∀ k, Mo k → (∀ i, wr i k → L i = false) → w.heap[k]? = w0.heap[k]?) ∧
    (∀ j, j < ops.size → L j = true → (∃ s, kill s j) → (∀ s, kill s j → L s = false) → ∀ i, i < ops.size → L i = true → i ≠ j → ∀ b, S j b → ¬ S i b) ∧
    (∀ k, (∀ j, j < ops.size → dst j = k → L j = false) → vs k = vs0 k)) ?_ ?_ ?_
  · exact ⟨vs0, fun _ _ => False, rfl, Mod.of (Below.refl _ _).drew, fun i _ h => (by cases h), fun i _ h => (by cases h), fun i _ h => (by cases h), fun _ _ _ => rfl, fun i _ h => (by cases h), fun _ _ => rfl⟩
  · rintro L a w i hi ⟨vs, S, rfl, hb, hT, hlt', hold, hmo, hdis, hv⟩ hc hL hp
    have hin : ∀ k ∈ pres ops i, k < ops.size := fun k hk => Nat.lt_trans (hlt i hi k hk) hi
    have hlive : ∀ k, (∀ s, kill s k → s = i) → ∀ s, kill s k → L s = false := fun k hk s hs => by rw [hk s hs]; exact hL
    have huni : ∀ j, kill i j → ∀ s, kill s j → s = i := fun j hj s hs => hk2 s i j hs hj
    have hnw : ∀ j, j < ops.size → L j = true → ∀ b, S j b → ¬ wr i b := fun j hj hLj b hb1 hb2 => by
      obtain ⟨j', h1, h2⟩ := hold j hj hLj b hb1 (hMo b (hwr i b hb2))
      rw [hwr1 j' i b h2 hb2, hL] at h1; cases h1
    refine wpOp_mono ?_ (hstep i hi vs w S hb (fun k hk hks => hT k (hin k hk) (hp k hk) (hlive k hks)) (fun k hk b hSb => ⟨hlt' k (hin k hk) (hp k hk) b hSb, hnw k (hin k hk) (hp k hk) b hSb⟩) (fun k hk hw => hmo k hk fun j hj => by
        rcases (hw j hj).2 with h1 | h1
        · rw [h1]; exact hL
        · cases hLj : L j with
          | false => rfl
          | true => have := hc j (hw j hj).1 hLj i h1; rw [hL] at this; cases this)
      (fun j hj k hk hkj => hdis j (hin j (hk1 i j hj).2) (hp j (hk1 i j hj).2) ⟨i, hj⟩ (hlive j (huni j hj)) k (hin k hk) (hp k hk) hkj) (fun k hk => hv k fun j hj hjk => ?_))
    · rintro a' w' ⟨v, S', rfl, hTv, hS, hSk, hmod⟩
      have hb' : Mod Mo w0 w' := by
        refine ⟨hmod.os.trans hb.os, hmod.tape.trans hb.tape, hmod.output.trans hb.output, Nat.le_trans hb.size hmod.size, fun k hk hno => ?_⟩
        rw [hmod.block k (Nat.lt_of_lt_of_le hk hb.size) ?_, hb.block k hk hno]
        rintro (h | ⟨j, hj, hSj⟩)
        · exact hno (hwr i k h)
        · obtain ⟨j', _, h2⟩ := hold j (hin j (hk1 i j hj).2) (hp j (hk1 i j hj).2) k hSj hk
          exact hno (hwr j' k h2)
      have hkeep : ∀ j, j < ops.size → L j = true → (∀ s, kill s j → L s = false) → ¬ kill i j → ∀ b, S j b → w'.heap[b]? = w.heap[b]? := by
        intro j hj hLj hlj hnk b hSb
        refine hmod.block b (hlt' j hj hLj b hSb) ?_
        rintro (h | ⟨j', hj', hSj'⟩)
        · exact hnw j hj hLj b hSb h
        · have hp' := (hk1 i j' hj').2
          have hne : j ≠ j' := fun e => hnk (e ▸ hj')
          exact hdis j' (hin j' hp') (hp j' hp') ⟨i, hj'⟩ (hlive j' (huni j' hj')) j hj hLj hne b hSj' hSb
      have hsz0 : w0.heap.size ≤ w.heap.size := hb.size
      refine ⟨fun k => if k = dst i then v else vs k, fun j => if j = i then S' else S j, rfl, hb', ?_, ?_, ?_, ?_, ?_, ?_⟩
      · intro j hj hLj hlj
        by_cases e : j = i
        · subst e
          simp only [if_true]
          by_cases ea : aux j = j
          · rw [if_pos ea] at hTv
            rw [ea, if_pos rfl]; exact hTv
          · rw [if_neg ea] at hTv
            have hne : dst (aux j) ≠ dst j := fun h => by
              rcases haux j hj with h1 | h1
              · exact ea h1
              · exact ea (inj _ (hin _ h1) j hj h)
            rw [if_neg hne]; exact hTv
        · simp only [if_neg e] at hLj ⊢
          have hd : dst j ≠ dst i := fun h => e (inj j hj i hi h)
          have hai : aux j ≠ i := fun h => by
            rcases haux j hj with h1 | h1
            · exact e (h1.symm.trans h)
            · have := hc j hj hLj _ h1; rw [h, hL] at this; cases this
          have haj : aux j < ops.size := by
            rcases haux j hj with h1 | h1
            · rw [h1]; exact hj
            · exact Nat.lt_trans (hlt j hj _ h1) hj
          have hda : dst (aux j) ≠ dst i := fun h => hai (inj _ haj i hi h)
          rw [if_neg hd, if_neg hda]
          have hlj' : ∀ s, kill s j → L s = false := fun s hs => by
            have := hlj s hs
            by_cases es : s = i
            · simp [es] at this
            · simpa [es] using this
          have hnk : ¬ kill i j := fun h => by have := hlj i h; simp at this
          exact hstab j _ _ _ w w' hj (hT j hj hLj hlj') hb hb' hmod.size (hkeep j hj hLj hlj' hnk)
      · intro j hj hLj b hSb
        by_cases e : j = i
        · subst e
          simp only [if_true] at hSb
          rcases hS b hSb with ⟨k, hk, _, h⟩ | h | h
          · exact Nat.lt_of_lt_of_le (hlt' k (hin k hk) (hp k hk) b h) hmod.size
          · exact h.2
          · exact Nat.lt_of_lt_of_le (hMo b (hwr _ b h)) (Nat.le_trans hsz0 hmod.size)
        · simp only [if_neg e] at hLj hSb
          exact Nat.lt_of_lt_of_le (hlt' j hj hLj b hSb) hmod.size
      · intro j hj hLj b hSb h0
        have up : (∃ j, L j = true ∧ wr j b) → ∃ j, (if j = i then true else L j) = true ∧ wr j b := fun ⟨j, h1, h2⟩ => ⟨j, by by_cases e : j = i <;> simp [e, h1], h2⟩
        by_cases e : j = i
        · subst e
          simp only [if_true] at hSb
          rcases hS b hSb with ⟨k, hk, _, h⟩ | h | h
          · exact up (hold k (hin k hk) (hp k hk) b h h0)
          · omega
          · exact ⟨j, by simp, h⟩
        · simp only [if_neg e] at hLj hSb
          exact up (hold j hj hLj b hSb h0)
      · intro k hk hno
        have hni : ¬ wr i k := fun h => by have := hno i h; simp at this
        rw [hmod.block k (Nat.lt_of_lt_of_le (hMo k hk) hsz0) ?_]
        · refine hmo k hk fun j hj => ?_
          have := hno j hj
          by_cases e : j = i
          · simp [e] at this
          · simpa [e] using this
        · rintro (h | ⟨j, hj, hSj⟩)
          · exact hni h
          · obtain ⟨j', h1, h2⟩ := hold j (hin j (hk1 i j hj).2) (hp j (hk1 i j hj).2) k hSj (hMo k hk)
            have := hno j' h2
            by_cases e : j' = i
            · simp [e] at this
            · simp [e, h1] at this
      · intro j hj hLj hks hlj i2 hi2 hL2 hne b hSj hS2
        by_cases e : j = i
        · subst e
          simp only [if_true] at hSj
          simp only [if_neg hne] at hL2 hS2
          rcases hSk hks b hSj with h1 | h1
          · have h2 := hlt' i2 hi2 hL2 b hS2
            omega
          · exact hnw i2 hi2 hL2 b hS2 h1
        · simp only [if_neg e] at hLj hSj
          have hlj' : ∀ s, kill s j → L s = false := fun s hs => by
            have := hlj s hs
            by_cases es : s = i
            · simp [es] at this
            · simpa [es] using this
          have hnk : ¬ kill i j := fun h => by have := hlj i h; simp at this
          by_cases e2 : i2 = i
          · subst e2
            simp only [if_true] at hS2
            rcases hS b hS2 with ⟨k, hk, hks', h⟩ | h | h
            · have hkj : k ≠ j := fun ek => by
                subst ek
                obtain ⟨s, hs⟩ := hks
                exact hnk (hks' s hs ▸ hs)
              exact hdis j hj hLj hks hlj' k (hin k hk) (hp k hk) hkj b hSj h
            · have := hlt' j hj hLj b hSj; omega
            · exact hnw j hj hLj b hSj h
          · simp only [if_neg e2] at hL2 hS2
            exact hdis j hj hLj hks hlj' i2 hi2 hL2 hne b hSj hS2
      · intro k hk
        have hki : k ≠ dst i := fun h => by have := hk i hi h.symm; simp at this
        simp only [if_neg hki]
        exact hv k fun j hj hjk => by
          have h := hk j hj hjk
          by_cases e : j = i
          · subst e; simp at h
          · simpa [e] using h
    · rcases hk j hj hjk with h1 | h1
      · cases hLj : L j with
        | false => rfl
        | true => have := hc j hj hLj i h1; rw [hL] at this; cases this
      · rw [h1]; exact hL
  · rintro L a w ⟨vs, S, rfl, hb, hT, _⟩ hall
    exact hend vs w S hb fun i hi hk => hT i hi (hall i hi) fun s hs => absurd hs (hk s)
end Go.Proofs.Ytiniobcknmaigaa
