/-
  Ends of a channel, plain: what goes out, what comes in; what follows.
-/
import Derived.Test.YtbhgffbmeaomkaaGR
namespace Go.Proofs.Ytbhgffbmeaomkaa.Gr
open Go.RowKit
namespace Lm
set_option linter.unusedVariables false
/-- an end -/
structure Lk where
  own : Int
  other : Int
  first : Int
  sent : List Int
  next : Int
deriving DecidableEq
/-- a packet -/
structure Pk where
  frm : Int
  to : Int
  place : Int
  words : List Int
  wait : Int
def far : Int := 4611686018427387904
def outL (l : Lk) : Pk := ⟨l.own, l.other, l.first, l.sent, l.next⟩
def fullL (l : Lk) : Bool := decide (l.sent.length = 8)
def sendL (l : Lk) (w : Int) : Lk := if fullL l = true then l else { l with sent := l.sent ++ [w] }
def sendE (l : Lk) : Int := if fullL l = true then 7 else 0
def rightL (l : Lk) : Bool := decide (1 ≤ l.own) && decide (l.own ≤ 4611686018427387904) && decide (0 ≤ l.other) && decide (l.other ≤ 4611686018427387904) && decide (0 ≤ l.first) && decide (l.first ≤ 4611686018427387904) && decide (0 ≤ l.next) && decide (l.next ≤ 4611686018427387904) && decide (l.sent.length ≤ 8)
theorem rightL_iff {l : Lk} : rightL l = true ↔ 1 ≤ l.own ∧ l.own ≤ 4611686018427387904 ∧ 0 ≤ l.other ∧ l.other ≤ 4611686018427387904 ∧ 0 ≤ l.first ∧ l.first ≤ 4611686018427387904 ∧ 0 ≤ l.next ∧ l.next ≤ 4611686018427387904 ∧ l.sent.length ≤ 8 := by
  unfold rightL; simp [and_assoc]
def newE (own : Int) : Int := if own < 1 ∨ 4611686018427387904 < own then 1 else 0
def newL (own : Int) : Lk := if own < 1 ∨ 4611686018427387904 < own then ⟨0, 0, 0, [], 0⟩ else ⟨own, 0, 0, [], 0⟩
/-- a packet is let in -/
def letP (l : Lk) (p : Pk) : Prop := 1 ≤ p.frm ∧ p.frm ≤ 4611686018427387904 ∧ l.other ≤ p.frm ∧ (p.to = 0 ∨ p.to = l.own) ∧ 0 ≤ p.place ∧ p.place ≤ 4611686018427387896 ∧ 0 ≤ p.wait ∧ p.wait ≤ 4611686018427387904 ∧ p.words.length ≤ 8
instance (l : Lk) (p : Pk) : Decidable (letP l p) := by unfold letP; exact inferInstance
/-- the other end may be a new one -/
def baseL (l : Lk) (p : Pk) : Lk := if l.other < p.frm then { l with other := p.frm, next := 0, first := 0 } else l
/-- so many are heard of -/
def ackN (l : Lk) (p : Pk) : Nat := if p.to = l.own ∧ l.first < p.wait ∧ p.wait ≤ l.first + l.sent.length then (p.wait - l.first).toNat else 0
def ackL (l : Lk) (p : Pk) : Lk := { l with first := l.first + ackN l p, sent := l.sent.drop (ackN l p) }
def tellW (l : Lk) (p : Pk) : List Int := if p.place ≤ l.next then p.words.drop (l.next - p.place).toNat else []
def inL (l : Lk) (p : Pk) : Lk := if letP l p then { ackL (baseL l p) p with next := (baseL l p).next + (tellW (baseL l p) p).length } else l
def inW (l : Lk) (p : Pk) : List Int := if letP l p then tellW (baseL l p) p else []
theorem ackN_le (l : Lk) (p : Pk) : ackN l p ≤ l.sent.length := by unfold ackN; split <;> omega
theorem ackN_wait {l : Lk} {p : Pk} (h : 0 < ackN l p) : l.first + ackN l p = p.wait := by
  unfold ackN at h ⊢; split at h <;> rename_i h1
  · rw [if_pos h1]; omega
  · omega
theorem base_own (l : Lk) (p : Pk) : (baseL l p).own = l.own := by unfold baseL; split <;> rfl
theorem base_sent (l : Lk) (p : Pk) : (baseL l p).sent = l.sent := by unfold baseL; split <;> rfl
theorem base_other {l : Lk} {p : Pk} (h : letP l p) : (baseL l p).other = p.frm := by
  unfold letP at h
  unfold baseL; split
  · rfl
  · show l.other = p.frm; omega
theorem tell_len {l : Lk} {p : Pk} : (tellW l p).length ≤ p.words.length := by
  unfold tellW; split
  · rw [List.length_drop]; omega
  · simp
theorem inW_len (l : Lk) (p : Pk) : (inW l p).length ≤ p.words.length := by
  unfold inW; split
  · exact tell_len
  · simp
/-- a packet that came already tells nothing, and changes nothing more -/
theorem in_twice (l : Lk) (p : Pk) (hn : 0 ≤ l.next) : inW (inL l p) p = [] ∧ inL (inL l p) p = inL l p := by
  by_cases h : letP l p
  · have hb := base_other h
    have hw := base_own l p
    have hbn : 0 ≤ (baseL l p).next := by unfold baseL; split <;> simp [hn]
    generalize hB : baseL l p = b at hb hw hbn
    have e1 : inL l p = { ackL b p with next := b.next + (tellW b p).length } := by unfold inL; rw [if_pos h, hB]
    rw [e1]
    obtain ⟨a, ha⟩ : ∃ a : Lk, { ackL b p with next := b.next + (tellW b p).length } = a := ⟨_, rfl⟩
    rw [ha]
    have aown : a.own = l.own := by rw [← ha]; exact hw
    have aoth : a.other = p.frm := by rw [← ha]; exact hb
    have anext : a.next = b.next + (tellW b p).length := by rw [← ha]
    have afirst : a.first = b.first + ackN b p := by rw [← ha]; rfl
    have asent : a.sent = b.sent.drop (ackN b p) := by rw [← ha]; rfl
    have h2 : letP a p := by unfold letP at h ⊢; rw [aown, aoth]; refine ⟨h.1, h.2.1, Int.le_refl _, h.2.2.2⟩
    have hba : baseL a p = a := by unfold baseL; rw [if_neg (by omega)]
    have hack : ackN a p = 0 := by
      have hle := ackN_le b p
      unfold ackN
      rw [if_neg]
      rintro ⟨q1, q2, q3⟩
      rw [aown, ← hw] at q1
      rw [afirst] at q2 q3
      rw [asent, List.length_drop] at q3
      by_cases h0 : 0 < ackN b p
      · have := ackN_wait h0; omega
      · have hz : ackN b p = 0 := by omega
        have : ackN b p = (p.wait - b.first).toNat := by unfold ackN; rw [if_pos ⟨q1, by omega, by omega⟩]
        omega
    have htell : tellW a p = [] := by
      unfold tellW
      split
      · rename_i h3
        apply List.drop_eq_nil_of_le
        rw [anext] at h3 ⊢
        unfold tellW at h3 ⊢
        split at h3
        · rename_i h4
          rw [if_pos h4]
          rw [List.length_drop] at h3 ⊢
          omega
        · rename_i h4
          simp only [List.length_nil] at h3
          omega
      · rfl
    constructor
    · unfold inW; rw [if_pos h2, hba, htell]
    · unfold inL; rw [if_pos h2, hba, htell]
      unfold ackL
      rw [hack]
      simp
  · have e1 : inL l p = l := by unfold inL; rw [if_neg h]
    have e2 : inW l p = [] := by unfold inW; rw [if_neg h]
    rw [e1]; exact ⟨e2, e1⟩
/-- what comes out is right, as long as places are small -/
theorem in_stays {l : Lk} {p : Pk} (h : rightL l = true) (h1 : l.next ≤ 2305843009213693952) (h2 : l.first ≤ 2305843009213693952) (h3 : p.place ≤ 2305843009213693952) (h4 : p.wait ≤ 2305843009213693952) : rightL (inL l p) = true := by
  by_cases hl : letP l p
  · rw [rightL_iff] at h ⊢
    unfold inL
    rw [if_pos hl]
    have hb := base_other hl
    have hbf : 0 ≤ (baseL l p).first ∧ (baseL l p).first ≤ 2305843009213693952 ∧ 0 ≤ (baseL l p).next ∧ (baseL l p).next ≤ 2305843009213693952 := by
      unfold baseL; split
      · simp
      · omega
    have hs := base_sent l p
    have hw := base_own l p
    unfold letP at hl
    generalize baseL l p = b at hb hbf hs hw ⊢
    have hk := ackN_le b p
    have ht : b.next + ((tellW b p).length : Int) ≤ 2305843009213693960 := by
      unfold tellW; split
      · rw [List.length_drop]; omega
      · simp; omega
    have hf : b.first + (ackN b p : Int) ≤ 2305843009213693952 := by
      by_cases h0 : 0 < ackN b p
      · rw [ackN_wait h0]; exact h4
      · have : ackN b p = 0 := by omega
        rw [this]; omega
    refine ⟨?_, ?_, ?_, ?_, ?_, ?_, ?_, ?_, ?_⟩
    · show 1 ≤ b.own; omega
    · show b.own ≤ _; omega
    · show 0 ≤ b.other; omega
    · show b.other ≤ _; omega
    · show 0 ≤ b.first + (ackN b p : Int); omega
    · show b.first + (ackN b p : Int) ≤ _; omega
    · show 0 ≤ b.next + _; omega
    · show b.next + _ ≤ _; omega
    · show (b.sent.drop (ackN b p)).length ≤ 8; rw [List.length_drop, hs]; omega
  · have e1 : inL l p = l := by unfold inL; rw [if_neg hl]
    rw [e1]; exact h
theorem send_right {l : Lk} (w : Int) (h : rightL l = true) : rightL (sendL l w) = true := by
  unfold sendL
  split
  · exact h
  · rename_i hf
    have hf' : l.sent.length ≠ 8 := by unfold fullL at hf; simpa using hf
    rw [rightL_iff] at h ⊢
    refine ⟨h.1, h.2.1, h.2.2.1, h.2.2.2.1, h.2.2.2.2.1, h.2.2.2.2.2.1, h.2.2.2.2.2.2.1, h.2.2.2.2.2.2.2.1, ?_⟩
    show (l.sent ++ [w]).length ≤ 8
    rw [List.length_append, List.length_singleton]
    omega
/-- of an end that isn't known yet the words from its beginning on are told -/
theorem in_first {from' known : Int} {ws : List Int} (h8 : ws.length ≤ 8) (h1 : 1 ≤ from') (h2 : from' ≤ 4611686018427387904) (h3 : known ≤ from') (h0 : 0 ≤ known) :
    inW ⟨3, known, 0, [], 0⟩ ⟨from', 0, 0, ws, 0⟩ = ws ∧ inL ⟨3, known, 0, [], 0⟩ ⟨from', 0, 0, ws, 0⟩ = ⟨3, from', 0, [], (ws.length : Int)⟩ := by
  have hl : letP ⟨3, known, 0, [], 0⟩ ⟨from', 0, 0, ws, 0⟩ := ⟨h1, h2, h3, .inl rfl, Int.le_refl _, by show (0 : Int) ≤ _; omega, Int.le_refl _, by show (0 : Int) ≤ _; omega, h8⟩
  have hb : baseL ⟨3, known, 0, [], 0⟩ ⟨from', 0, 0, ws, 0⟩ = ⟨3, from', 0, [], 0⟩ := by
    unfold baseL
    by_cases h : known < from'
    · rw [if_pos h]
    · rw [if_neg h]
      have : known = from' := by omega
      rw [this]
  have ht : tellW ⟨3, from', 0, [], 0⟩ ⟨from', 0, 0, ws, 0⟩ = ws := by unfold tellW; simp
  have ha : ackN ⟨3, from', 0, [], 0⟩ ⟨from', 0, 0, ws, 0⟩ = 0 := by unfold ackN; simp
  refine ⟨by unfold inW; rw [if_pos hl, hb, ht], ?_⟩
  unfold inL
  rw [if_pos hl, hb, ht]
  unfold ackL
  rw [ha]
  simp
theorem in_older {from' known : Int} {ws : List Int} (h : from' < known) : inW ⟨3, known, 0, [], 0⟩ ⟨from', 0, 0, ws, 0⟩ = [] ∧ inL ⟨3, known, 0, [], 0⟩ ⟨from', 0, 0, ws, 0⟩ = ⟨3, known, 0, [], 0⟩ := by
  have hl : ¬ letP ⟨3, known, 0, [], 0⟩ ⟨from', 0, 0, ws, 0⟩ := fun hh => by
    have : known ≤ from' := hh.2.2.1
    omega
  exact ⟨by unfold inW; rw [if_neg hl], by unfold inL; rw [if_neg hl]⟩
/-- one way: all that is on its way is told -/
theorem in_all {o o' to ob f wt : Int} {ws : List Int} (h8 : ws.length ≤ 8) (h1 : 1 ≤ o') (h2 : o' ≤ 1000) (hob : ob = 0 ∧ f = 0 ∨ ob = o') (hf : 0 ≤ f) (hf2 : f ≤ 1000) (hto : to = 0 ∨ to = o) :
    inW ⟨o, ob, 0, [], f⟩ ⟨o', to, f, ws, 0⟩ = ws ∧ inL ⟨o, ob, 0, [], f⟩ ⟨o', to, f, ws, 0⟩ = ⟨o, o', 0, [], f + (ws.length : Int)⟩ := by
  have hl : letP ⟨o, ob, 0, [], f⟩ ⟨o', to, f, ws, 0⟩ := by
    refine ⟨h1, by show o' ≤ _; omega, ?_, hto, hf, by show f ≤ _; omega, Int.le_refl _, by show (0 : Int) ≤ _; omega, h8⟩
    show ob ≤ o'
    omega
  have hb : baseL ⟨o, ob, 0, [], f⟩ ⟨o', to, f, ws, 0⟩ = ⟨o, o', 0, [], f⟩ := by
    unfold baseL
    rcases hob with ⟨rfl, rfl⟩ | rfl
    · rw [if_pos (by show (0 : Int) < o'; omega)]
    · rw [if_neg (by show ¬ ob < ob; omega)]
  have ht : tellW ⟨o, o', 0, [], f⟩ ⟨o', to, f, ws, 0⟩ = ws := by unfold tellW; simp
  have ha : ackN ⟨o, o', 0, [], f⟩ ⟨o', to, f, ws, 0⟩ = 0 := by unfold ackN; rw [if_neg]; rintro ⟨_, q2, _⟩; exact absurd q2 (by show ¬ (0 : Int) < 0; omega)
  refine ⟨by unfold inW; rw [if_pos hl, hb, ht], ?_⟩
  unfold inL
  rw [if_pos hl, hb, ht]
  unfold ackL
  rw [ha]
  simp
/-- and back: all of it is heard of -/
theorem in_heard {o o' oa f : Int} {ws : List Int} (h8 : ws.length ≤ 8) (h1 : 1 ≤ o') (h2 : o' ≤ 1000) (hoa : oa = 0 ∧ f = 0 ∨ oa = o') (hf : 0 ≤ f) (hf2 : f ≤ 1000) :
    inW ⟨o, oa, f, ws, 0⟩ ⟨o', o, 0, [], f + (ws.length : Int)⟩ = [] ∧ inL ⟨o, oa, f, ws, 0⟩ ⟨o', o, 0, [], f + (ws.length : Int)⟩ = ⟨o, o', f + (ws.length : Int), [], 0⟩ := by
  have hl : letP ⟨o, oa, f, ws, 0⟩ ⟨o', o, 0, [], f + (ws.length : Int)⟩ := by
    refine ⟨h1, by show o' ≤ _; omega, ?_, .inr rfl, Int.le_refl _, by show (0 : Int) ≤ _; omega, by show 0 ≤ f + (ws.length : Int); omega, by show f + (ws.length : Int) ≤ _; omega, by show 0 ≤ 8; omega⟩
    show oa ≤ o'
    omega
  have hb : baseL ⟨o, oa, f, ws, 0⟩ ⟨o', o, 0, [], f + (ws.length : Int)⟩ = ⟨o, o', f, ws, 0⟩ := by
    unfold baseL
    rcases hoa with ⟨rfl, rfl⟩ | rfl
    · rw [if_pos (by show (0 : Int) < o'; omega)]
    · rw [if_neg (by show ¬ oa < oa; omega)]
  have ht : tellW ⟨o, o', f, ws, 0⟩ ⟨o', o, 0, [], f + (ws.length : Int)⟩ = [] := by unfold tellW; simp
  have ha : ackN ⟨o, o', f, ws, 0⟩ ⟨o', o, 0, [], f + (ws.length : Int)⟩ = ws.length := by
    unfold ackN
    by_cases h0 : 0 < ws.length
    · rw [if_pos ⟨rfl, by show f < f + (ws.length : Int); omega, by show f + (ws.length : Int) ≤ f + (ws.length : Int); omega⟩]
      show (f + (ws.length : Int) - f).toNat = _
      omega
    · rw [if_neg]
      · omega
      · rintro ⟨_, q2, _⟩
        have q3 : f < f + (ws.length : Int) := q2
        omega
  refine ⟨by unfold inW; rw [if_pos hl, hb, ht], ?_⟩
  unfold inL
  rw [if_pos hl, hb, ht]
  unfold ackL
  rw [ha]
  simp
end Lm
end Go.Proofs.Ytbhgffbmeaomkaa.Gr
