/-
  Deltas, plain: the document's Apply is told just of a row's delta.
-/
import Derived.Test.YtehlibeedieclaaDP
namespace Go.Proofs.Ytehlibeedieclaa.Gr
namespace Dm

/-- a bit of a word of 64 -/
def ubS (x : Int) (k : Nat) : Bool := (x % 18446744073709551616).toNat.testBit k
/-- one step of the document's Apply: behind so many words told, and the row as far -/
def docStep (base d : List Int) (i : Nat) (st : Nat × List Int) : Option (Nat × List Int) :=
  if 60 ≤ i % 64 ∨ base.length ≤ 60 * (i / 64) + i % 64 then (if ubS (d.getD (i / 64) 0) (i % 64) then none else some st)
  else if ubS (d.getD (i / 64) 0) (i % 64) = false then some (st.1, st.2 ++ [base.getD (60 * (i / 64) + i % 64) 0])
  else if d.length ≤ st.1 ∨ d.getD st.1 0 = base.getD (60 * (i / 64) + i % 64) 0 then none
  else some (st.1 + 1, st.2 ++ [d.getD st.1 0])
def docS (base d : List Int) : Nat → Option (Nat × List Int)
  | 0 => some (upS base.length, [])
  | i + 1 => (docS base d i).bind (docStep base d i)
def docR (base d : List Int) : Option (List Int) := (docS base d (64 * upS base.length)).bind fun st => if st.1 < d.length then none else some st.2
theorem docS_none {base d : List Int} {i : Nat} (h : docS base d i = none) : ∀ m, docS base d (i + m) = none
  | 0 => h
  | m + 1 => by
    have ih := docS_none h m
    rw [← Nat.add_assoc]
    show (docS base d (i + m)).bind _ = none
    rw [ih]; rfl
/-- how many places are told, i steps on -/
def qS (n i : Nat) : Nat := min n (60 * (i / 64) + min (i % 64) 60)
theorem qS_no {n i : Nat} (h : 60 ≤ i % 64 ∨ n ≤ 60 * (i / 64) + i % 64) : qS n (i + 1) = qS n i := by unfold qS; omega
theorem qS_yes {n i : Nat} (h : ¬ (60 ≤ i % 64 ∨ n ≤ 60 * (i / 64) + i % 64)) : qS n i = 60 * (i / 64) + i % 64 ∧ qS n (i + 1) = 60 * (i / 64) + i % 64 + 1 ∧ 60 * (i / 64) + i % 64 < n := by unfold qS; omega
theorem qS_end (n : Nat) : qS n (64 * upS n) = n := by unfold qS upS; omega
theorem ubS_nat {m : Nat} (h : m < 2 ^ 60) (k : Nat) : ubS (m : Int) k = m.testBit k := by
  unfold ubS
  have : ((m : Int) % 18446744073709551616).toNat = m := by omega
  rw [this]
theorem take_get {r : List Int} {t : Nat} (h : t < r.length) : r.take (t + 1) = r.take t ++ [r.getD t 0] := by
  rw [List.take_add_one, List.getD_eq_getElem?_getD, List.getElem?_eq_getElem h]; rfl
theorem mask_bit (p : Nat → Bool) {n i : Nat} (hi : i < 64 * upS n) : ubS ((maskS p (upS n) n).getD (i / 64) 0) (i % 64) = (decide (¬ (60 ≤ i % 64 ∨ n ≤ 60 * (i / 64) + i % 64)) && p (60 * (i / 64) + i % 64)) := by
  have hj : i / 64 < upS n := by omega
  rw [maskS_get p hj, ubS_nat (Nat.lt_of_lt_of_le (mwS_lt _ _) (Nat.pow_le_pow_right (by decide) (by omega))), mwS_bit]
  congr 1
  apply decide_eq_decide.2
  omega
theorem diff_get_mask {base r : List Int} (hl : r.length = base.length) {j : Nat} (hj : j < upS base.length) : (diffS base r).getD j 0 = (maskS (dfS base r) (upS base.length) base.length).getD j 0 := by
  unfold diffS
  rw [hl, List.getD_eq_getElem?_getD, List.getElem?_append_left (by rw [maskS_len]; exact hj), ← List.getD_eq_getElem?_getD]
theorem diff_get_other {base r : List Int} (hl : r.length = base.length) {t : Nat} : (diffS base r).getD (upS base.length + t) 0 = (otherS base r base.length).getD t 0 := by
  unfold diffS
  rw [hl, List.getD_eq_getElem?_getD, List.getElem?_append_right (by rw [maskS_len]; omega), maskS_len, Nat.add_sub_cancel_left, ← List.getD_eq_getElem?_getD]
/-- a row's delta tells the row -/
theorem doc_back {base r : List Int} (hl : r.length = base.length) : ∀ i, i ≤ 64 * upS base.length → docS base (diffS base r) i = some (upS base.length + (otherS base r (qS base.length i)).length, r.take (qS base.length i))
  | 0, _ => by
    have : qS base.length 0 = 0 := by unfold qS; omega
    rw [this]; simp [docS, otherS]
  | i + 1, h => by
    have ih := doc_back hl i (by omega)
    have hb := mask_bit (dfS base r) (n := base.length) (i := i) (by omega)
    rw [← diff_get_mask hl (by omega)] at hb
    show (docS base (diffS base r) i).bind _ = _
    rw [ih]
    show docStep base (diffS base r) i _ = _
    unfold docStep
    by_cases hv : 60 ≤ i % 64 ∨ base.length ≤ 60 * (i / 64) + i % 64
    · rw [if_pos hv, hb, qS_no hv, decide_eq_false (fun h => h hv)]
      rfl
    · obtain ⟨q1, q2, q3⟩ := qS_yes hv
      rw [if_neg hv, hb, q1, q2, decide_eq_true hv, Bool.true_and]
      cases hd : dfS base r (60 * (i / 64) + i % 64)
      · have e : r.getD (60 * (i / 64) + i % 64) 0 = base.getD (60 * (i / 64) + i % 64) 0 := by simpa [dfS] using hd
        rw [if_pos rfl, take_get (by omega), e]
        simp [otherS, hd]
      · have e : ¬ r.getD (60 * (i / 64) + i % 64) 0 = base.getD (60 * (i / 64) + i % 64) 0 := by simpa [dfS] using hd
        obtain ⟨t, ht⟩ := other_prefix base r (i := 60 * (i / 64) + i % 64 + 1) (n := base.length) (by omega)
        have eo : otherS base r (60 * (i / 64) + i % 64 + 1) = otherS base r (60 * (i / 64) + i % 64) ++ [r.getD (60 * (i / 64) + i % 64) 0] := by simp [otherS, hd]
        have hg : (diffS base r).getD (upS base.length + (otherS base r (60 * (i / 64) + i % 64)).length) 0 = r.getD (60 * (i / 64) + i % 64) 0 := by
          rw [diff_get_other hl, ht, eo, List.append_assoc, List.getD_eq_getElem?_getD, List.getElem?_append_right (Nat.le_refl _)]
          simp
        have hlen : ¬ (diffS base r).length ≤ upS base.length + (otherS base r (60 * (i / 64) + i % 64)).length := by
          rw [diffS_len, hl, ht, eo]; simp
        rw [if_neg (by decide)]
        simp only
        rw [hg, if_neg (fun h => h.elim hlen e), take_get (by omega), eo, List.length_append]
        rfl
theorem docR_back {base r : List Int} (hl : r.length = base.length) : docR base (diffS base r) = some r := by
  unfold docR
  rw [doc_back hl _ (Nat.le_refl _), qS_end]
  show (if _ then _ else _) = _
  rw [if_neg (by rw [diffS_len, hl]; simp)]
  rw [← hl, List.take_length]
/-- what is told is as long as the places -/
theorem doc_len {base d : List Int} : ∀ {i st}, docS base d i = some st → st.2.length = qS base.length i
  | 0, st, h => by
    have : qS base.length 0 = 0 := by unfold qS; omega
    simp [docS] at h; subst h; simp [this]
  | i + 1, st, h => by
    have h' : (docS base d i).bind (docStep base d i) = some st := h
    cases hs : docS base d i with
    | none => rw [hs] at h'; cases h'
    | some s0 =>
      have ih := doc_len hs
      rw [hs] at h'
      have h2 : docStep base d i s0 = some st := h'
      unfold docStep at h2
      by_cases hv : 60 ≤ i % 64 ∨ base.length ≤ 60 * (i / 64) + i % 64
      · rw [if_pos hv] at h2
        rw [qS_no hv]
        split at h2
        · cases h2
        · cases h2; exact ih
      · obtain ⟨q1, q2, q3⟩ := qS_yes hv
        rw [if_neg hv] at h2
        rw [q1] at ih
        rw [q2]
        split at h2
        · cases h2; simp [ih]
        · split at h2
          · cases h2
          · cases h2; simp [ih]
/-- what is told stays told -/
theorem doc_step_prefix {base d : List Int} {i : Nat} {s t : Nat × List Int} (h : docStep base d i s = some t) : ∃ u, t.2 = s.2 ++ u := by
  unfold docStep at h
  split at h
  · split at h
    · cases h
    · cases h; exact ⟨[], by simp⟩
  · split at h
    · cases h; exact ⟨_, rfl⟩
    · split at h
      · cases h
      · cases h; exact ⟨_, rfl⟩
theorem doc_prefix {base d : List Int} {i : Nat} {s : Nat × List Int} (hs : docS base d i = some s) : ∀ m t, docS base d (i + m) = some t → ∃ u, t.2 = s.2 ++ u
  | 0, t, h => by rw [Nat.add_zero, hs] at h; cases h; exact ⟨[], by simp⟩
  | m + 1, t, h => by
    have h' : (docS base d (i + m)).bind (docStep base d (i + m)) = some t := h
    cases hq : docS base d (i + m) with
    | none => rw [hq] at h'; cases h'
    | some q =>
      rw [hq] at h'
      obtain ⟨u, hu⟩ := doc_prefix hs m q hq
      obtain ⟨v, hv⟩ := doc_step_prefix (show docStep base d (i + m) q = some t from h')
      exact ⟨u ++ v, by rw [hv, hu, List.append_assoc]⟩
/-- whatever it is told of is the row's delta -/
theorem doc_forth {base d r : List Int} {a : Nat} (h : docS base d (64 * upS base.length) = some (a, r)) : ∀ i, i ≤ 64 * upS base.length →
    ∃ a', docS base d i = some (a', r.take (qS base.length i)) ∧ a' = upS base.length + (otherS base r (qS base.length i)).length ∧ (a' ≤ max d.length (upS base.length)) ∧ (d.drop (upS base.length)).take (otherS base r (qS base.length i)).length = otherS base r (qS base.length i) ∧
      ∀ t, t < i → ubS (d.getD (t / 64) 0) (t % 64) = (decide (¬ (60 ≤ t % 64 ∨ base.length ≤ 60 * (t / 64) + t % 64)) && dfS base r (60 * (t / 64) + t % 64))
  | 0, _ => by
    have : qS base.length 0 = 0 := by unfold qS; omega
    rw [this]
    exact ⟨upS base.length, by simp [docS], by simp [otherS], by omega, by simp [otherS], fun t ht => absurd ht (Nat.not_lt_zero _)⟩
  | i + 1, hi => by
    obtain ⟨a', hs, ha, hle, htk, hbits⟩ := doc_forth h i (by omega)
    have hrl : r.length = base.length := by have := doc_len h; rw [qS_end] at this; exact this
    have hsome : ∃ st, docS base d (i + 1) = some st := by
      cases hq : docS base d (i + 1) with
      | some st => exact ⟨st, rfl⟩
      | none =>
        have := docS_none hq (64 * upS base.length - (i + 1))
        rw [show i + 1 + (64 * upS base.length - (i + 1)) = 64 * upS base.length by omega, h] at this
        cases this
    obtain ⟨st, hst⟩ := hsome
    obtain ⟨u, hu⟩ := doc_prefix hst (64 * upS base.length - (i + 1)) (a, r) (by rw [show i + 1 + (64 * upS base.length - (i + 1)) = 64 * upS base.length by omega]; exact h)
    have hl1 := doc_len hst
    have hst2 : st.2 = r.take (qS base.length (i + 1)) := by
      have hu' : r = st.2 ++ u := hu
      rw [hu', ← hl1, List.take_left' rfl]
    have h' : (docS base d i).bind (docStep base d i) = some st := hst
    rw [hs] at h'
    have h2 : docStep base d i (a', r.take (qS base.length i)) = some st := h'
    rw [hst]
    unfold docStep at h2
    by_cases hv : 60 ≤ i % 64 ∨ base.length ≤ 60 * (i / 64) + i % 64
    · rw [if_pos hv] at h2
      cases hb : ubS (d.getD (i / 64) 0) (i % 64) with
      | true => rw [hb] at h2; cases h2
      | false =>
        rw [hb] at h2
        cases h2
        rw [qS_no hv]
        refine ⟨a', rfl, ha, hle, htk, fun t ht => ?_⟩
        by_cases e : t = i
        · subst e; rw [hb, decide_eq_false (fun h => h hv)]; rfl
        · exact hbits t (by omega)
    · obtain ⟨q1, q2, q3⟩ := qS_yes hv
      rw [if_neg hv] at h2
      rw [q1] at ha htk h2
      rw [q2] at hst2 ⊢
      rw [take_get (by omega)] at hst2
      cases hb : ubS (d.getD (i / 64) 0) (i % 64) with
      | false =>
        rw [hb, if_pos rfl] at h2
        cases h2
        have e : base.getD (60 * (i / 64) + i % 64) 0 = r.getD (60 * (i / 64) + i % 64) 0 := by
          have := List.append_cancel_left hst2
          simpa using this
        have hd : dfS base r (60 * (i / 64) + i % 64) = false := decide_eq_false (fun h => h e.symm)
        have eo : otherS base r (60 * (i / 64) + i % 64 + 1) = otherS base r (60 * (i / 64) + i % 64) := by simp [otherS, hd]
        rw [eo]
        refine ⟨a', by rw [take_get (by omega), e], ha, hle, htk, fun t ht => ?_⟩
        by_cases e : t = i
        · subst e; rw [hb, hd, Bool.and_false]
        · exact hbits t (by omega)
      | true =>
        rw [hb, if_neg (by decide)] at h2
        by_cases hw : d.length ≤ a' ∨ d.getD a' 0 = base.getD (60 * (i / 64) + i % 64) 0
        · simp only at h2; rw [if_pos hw] at h2; cases h2
        · simp only at h2
          rw [if_neg hw] at h2
          cases h2
          have hw1 : a' < d.length := by omega
          have e : d.getD a' 0 = r.getD (60 * (i / 64) + i % 64) 0 := by
            have := List.append_cancel_left hst2
            simpa using this
          have hne : ¬ r.getD (60 * (i / 64) + i % 64) 0 = base.getD (60 * (i / 64) + i % 64) 0 := fun h => hw (Or.inr (e.trans h))
          have hd : dfS base r (60 * (i / 64) + i % 64) = true := decide_eq_true hne
          have eo : otherS base r (60 * (i / 64) + i % 64 + 1) = otherS base r (60 * (i / 64) + i % 64) ++ [r.getD (60 * (i / 64) + i % 64) 0] := by simp [otherS, hd]
          rw [eo]
          refine ⟨a' + 1, by rw [take_get (by omega), e], by rw [List.length_append, ha]; rfl, by omega, ?_, fun t ht => ?_⟩
          · have hx : (d.drop (upS base.length))[(otherS base r (60 * (i / 64) + i % 64)).length]? = some (r.getD (60 * (i / 64) + i % 64) 0) := by
              rw [List.getElem?_drop, ← ha, ← e, List.getD_eq_getElem?_getD, List.getElem?_eq_getElem hw1]; rfl
            rw [List.length_append, show [r.getD (60 * (i / 64) + i % 64) 0].length = 1 from rfl, List.take_add_one, htk, hx]
            rfl
          · by_cases e : t = i
            · subst e; rw [hb, hd, decide_eq_true hv]; rfl
            · exact hbits t (by omega)
theorem word_of_bits {x : Int} (h0 : -9223372036854775808 ≤ x) (h1 : x ≤ 9223372036854775807) {m : Nat} (hm : m < 2 ^ 60) (hb : ∀ k, k < 64 → ubS x k = m.testBit k) : x = (m : Int) := by
  have e : (x % 18446744073709551616).toNat = m := by
    apply Nat.eq_of_testBit_eq
    intro k
    by_cases hk : k < 64
    · exact hb k hk
    · have hp : (2 : Nat) ^ 64 ≤ 2 ^ k := Nat.pow_le_pow_right (by decide) (by omega)
      rw [Nat.testBit_lt_two_pow (x := (x % 18446744073709551616).toNat) (by omega), Nat.testBit_lt_two_pow (x := m) (by omega)]
  omega
theorem docR_forth {base d r : List Int} (hU : upS base.length ≤ d.length) (hr : ∀ x ∈ d, -9223372036854775808 ≤ x ∧ x ≤ 9223372036854775807) (h : docR base d = some r) : r.length = base.length ∧ diffS base r = d := by
  unfold docR at h
  cases hs : docS base d (64 * upS base.length) with
  | none => rw [hs] at h; cases h
  | some st =>
    rw [hs] at h
    have h2 : (if st.1 < d.length then none else some st.2) = some r := h
    obtain ⟨a, r'⟩ := st
    by_cases ha : a < d.length
    · simp only at h2; rw [if_pos ha] at h2; cases h2
    · simp only at h2
      rw [if_neg ha] at h2
      cases h2
      have hrl : r.length = base.length := by have := doc_len hs; rw [qS_end] at this; exact this
      obtain ⟨a', e1, e2, e3, e4, e5⟩ := doc_forth hs _ (Nat.le_refl _)
      rw [hs] at e1
      rw [qS_end] at e2 e4
      have ea : a = a' := (Prod.mk.inj (Option.some.inj e1)).1
      subst ea
      refine ⟨hrl, ?_⟩
      have hdrop : d.drop (upS base.length) = otherS base r base.length := by
        rw [List.take_of_length_le (by rw [List.length_drop]; omega)] at e4
        exact e4
      have htake : d.take (upS base.length) = maskS (dfS base r) (upS base.length) base.length := by
        apply List.ext_getElem
        · rw [List.length_take, maskS_len]; omega
        · intro j q1 q2
          have hj : j < upS base.length := by rw [maskS_len] at q2; exact q2
          rw [List.getElem_take]
          simp only [maskS, List.getElem_map, List.getElem_range]
          have hjd : j < d.length := by omega
          have hx := hr d[j] (List.getElem_mem hjd)
          refine word_of_bits hx.1 hx.2 (Nat.lt_of_lt_of_le (mwS_lt _ _) (Nat.pow_le_pow_right (by decide) (by omega))) fun k hk => ?_
          have e6 := e5 (64 * j + k) (by omega)
          rw [show (64 * j + k) / 64 = j by omega, show (64 * j + k) % 64 = k by omega, List.getD_eq_getElem?_getD, List.getElem?_eq_getElem hjd] at e6
          rw [mwS_bit]
          refine e6.trans ?_
          congr 1
          apply decide_eq_decide.2
          omega
      unfold diffS
      rw [hrl, ← hdrop, ← htake, List.take_append_drop]
end Dm
end Go.Proofs.Ytehlibeedieclaa.Gr
