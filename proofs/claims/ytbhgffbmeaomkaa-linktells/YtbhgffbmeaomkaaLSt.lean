/-
  Ends: small steps for the walks of the laws.
-/
import Derived.Test.YtbhgffbmeaomkaaLJ
import Derived.Test.YtbhgffbmeaomkaaLE
import Derived.Test.YtbhgffbmeaomkaaLF
import Derived.Test.YtbhgffbmeaomkaaLR
namespace Go.Proofs.Ytbhgffbmeaomkaa.Gr
open Go.RowKit Go.Sort Lm
set_option linter.unusedVariables false

theorem slice_of {w : World} {v : Value} {xs : List Int} {n : Nat} (h : SeesI w v xs) (hn : xs.length = n) : ∃ ao cap, v = .slice ao n cap := by
  subst hn
  exact h.slice
theorem add_zero0 (a : Addr) : a.add 0 = a := by unfold Addr.add; simp
/-- what comes out of a right end stays small -/
theorem in_ok {l : Lk} (p : Pk) (h : rightL l = true) : (inL l p).sent.length ≤ 8 ∧ 0 ≤ (inL l p).first ∧ (inL l p).first ≤ 4611686018427387904 ∧ 0 ≤ (inL l p).next ∧ (inL l p).next ≤ 4611686018427388904 := by
  rw [rightL_iff] at h
  by_cases hl : letP l p
  · unfold inL
    rw [if_pos hl]
    have hbf : 0 ≤ (baseL l p).first ∧ (baseL l p).first ≤ 4611686018427387904 ∧ 0 ≤ (baseL l p).next ∧ (baseL l p).next ≤ 4611686018427387904 := by
      unfold baseL; split
      · simp
      · omega
    have hs := base_sent l p
    unfold letP at hl
    generalize baseL l p = b at hbf hs ⊢
    have hk := ackN_le b p
    have ht : ((tellW b p).length : Int) ≤ 8 := by
      have := tell_len (l := b) (p := p)
      omega
    have hf : b.first + (ackN b p : Int) ≤ 4611686018427387904 := by
      by_cases h0 : 0 < ackN b p
      · rw [ackN_wait h0]; omega
      · have : ackN b p = 0 := by omega
        rw [this]; omega
    refine ⟨?_, ?_, ?_, ?_, ?_⟩
    · show (b.sent.drop (ackN b p)).length ≤ 8; rw [List.length_drop, hs]; omega
    · show 0 ≤ b.first + (ackN b p : Int); omega
    · show b.first + (ackN b p : Int) ≤ _; omega
    · show 0 ≤ b.next + ((tellW b p).length : Int); omega
    · show b.next + ((tellW b p).length : Int) ≤ _; omega
  · have e : inL l p = l := by unfold inL; rw [if_neg hl]
    rw [e]
    omega
theorem in_own (l : Lk) (p : Pk) : (inL l p).own = l.own := by
  unfold inL
  split
  · show (baseL l p).own = l.own
    exact base_own l p
  · rfl
theorem send_own (l : Lk) (x : Int) : (sendL l x).own = l.own := by unfold sendL; split <;> rfl
theorem sameK_refl (a : Lk) : sameK a a = true := by unfold sameK; simp
theorem sees_nil {w w' : World} {v : Value} (h : SeesI w v []) : SeesI w' v [] := by
  obtain ⟨ao, cap, rfl, hc, _⟩ := h
  exact ⟨ao, cap, rfl, hc, fun k u hu => by simp at hu⟩
/-- a store of five cells into a variable: what lies elsewhere is kept -/
theorem st5_keep {u : World} {A b : Nat} {o : Obj} (h : u.heap[b]? = some o) (hn : b ≠ A) (y0 y1 y2 y3 y4 : Value) : (World.heap (((((u.setCell ⟨A, 0, none⟩ y0).setCell ⟨A, 1, none⟩ y1).setCell ⟨A, 2, none⟩ y2).setCell ⟨A, 3, none⟩ y3).setCell ⟨A, 4, none⟩ y4))[b]? = some o :=
  ((gb_all5 u A y0 y1 y2 y3 y4).block b (lt_of_block h) (fun e => hn (by injection e))).trans h
theorem st5_sees {u : World} {A B : Nat} {v : Value} {xs : List Int} (h : SeesI u v xs) (hn : New B v) (hA : A < B) (y0 y1 y2 y3 y4 : Value) : SeesI (((((u.setCell ⟨A, 0, none⟩ y0).setCell ⟨A, 1, none⟩ y1).setCell ⟨A, 2, none⟩ y2).setCell ⟨A, 3, none⟩ y3).setCell ⟨A, 4, none⟩ y4) v xs :=
  h.grown hn (gb_all5 u A y0 y1 y2 y3 y4) (fun k e => by cases e; exact hA)
theorem st5_or {u : World} {A Z : Nat} {v : Value} {xs : List Int} (h : SeesI u v xs) (hn : xs = [] ∨ New Z v) (hA : A < Z) (y0 y1 y2 y3 y4 : Value) : SeesI (((((u.setCell ⟨A, 0, none⟩ y0).setCell ⟨A, 1, none⟩ y1).setCell ⟨A, 2, none⟩ y2).setCell ⟨A, 3, none⟩ y3).setCell ⟨A, 4, none⟩ y4) v xs := by
  rcases hn with rfl | hn
  · exact sees_nil h
  · exact st5_sees h hn hA y0 y1 y2 y3 y4
theorem take_next (xs : List Int) {k : Nat} (h : k < xs.length) : xs.take k ++ [xs.getD k 0] = xs.take (k + 1) := by
  rw [List.take_succ_eq_append_getElem h]
  congr 2
  rw [List.getD_eq_getElem?_getD, List.getElem?_eq_getElem h]
  rfl
theorem own_st5 {u : World} {A base e size n : Nat} {v : Value} {xs : List Value} (h : u.ownsRow base e size v n xs) (hA : A < base) (y0 y1 y2 y3 y4 : Value) : World.ownsRow (((((u.setCell ⟨A, 0, none⟩ y0).setCell ⟨A, 1, none⟩ y1).setCell ⟨A, 2, none⟩ y2).setCell ⟨A, 3, none⟩ y3).setCell ⟨A, 4, none⟩ y4) base e size v n xs := by
  obtain ⟨hl, h1 | ⟨g, cap, cur, hv, hb, hg, r⟩⟩ := h
  · exact ⟨hl, .inl h1⟩
  · exact ⟨hl, .inr ⟨g, cap, cur, hv, hb, st5_keep hg (by omega) y0 y1 y2 y3 y4, r⟩⟩
theorem st5_below {w u : World} {A B : Nat} (h : Below B w u) (hA : B ≤ A) (hu : A < u.heap.size) (y0 y1 y2 y3 y4 : Value) : Below B w (((((u.setCell ⟨A, 0, none⟩ y0).setCell ⟨A, 1, none⟩ y1).setCell ⟨A, 2, none⟩ y2).setCell ⟨A, 3, none⟩ y3).setCell ⟨A, 4, none⟩ y4) :=
  h.grown (gb_all5 u A y0 y1 y2 y3 y4) (by omega) (fun k e => by cases e; exact hA)
theorem below_up {w u u' : World} {B : Nat} (h : Below B w u) (hB : B ≤ u.heap.size) (hb : Below u.heap.size u u') : Below B w u' := h.trans (hb.mono hB)
end Go.Proofs.Ytbhgffbmeaomkaa.Gr
