/-
  Encode and Decode, whatever comes in.
-/
import Derived.Test.YtnkghcbjokmooaaDoorFS
namespace Go.Proofs.YtnkghcbjokmooaaDoor.Gr
open Go.RowKit Go.Sort Qm
set_option linter.unusedVariables false

namespace Qm
def encA (k : Int) (xs : List Int) : List (BitVec 8) := if rightS k xs.length then encS k xs else []
def encE (k : Int) (n : Nat) : Int := if rightS k n then 0 else 1
theorem encA_len (k : Int) (xs : List Int) : (encA k xs).length ≤ 150 := by
  unfold encA
  by_cases h : rightS k xs.length = true
  · rw [if_pos h, encS_len]
    have := right_bounds h
    omega
  · rw [if_neg h]; simp
theorem decN_len (bs : List (BitVec 8)) : (decN bs).length ≤ 18 := by
  unfold decN
  by_cases h : decE bs = 0
  · rw [if_pos h, wordsS_len]; exact longS_le _
  · rw [if_neg h]; simp
end Qm
theorem encode_any (k : Int) (v : Value) (xs : List Int) (w : World) (hs : SeesI w v xs) (hG : Longs w) :
    Calls Tryd.prog 11 #[.agg #[.int .i64 k, v]] w fun e b => ∃ x, e = .returned (.tuple #[x, .int .i64 (encE k xs.length)]) ∧ SeesB b x (encA k xs) ∧ Below w.heap.size w b := by
  unfold encA encE
  by_cases h : rightS k xs.length = true
  · rw [if_pos h, if_pos h]
    refine (encode_yes k v xs h w hs hG).mono ?_
    rintro e b ⟨g, G, rfl, ho, hb⟩
    exact ⟨_, rfl, Row.own ho, hb⟩
  · rw [if_neg h, if_neg h]
    obtain ⟨ao, cap, rfl⟩ := hs.slice
    refine (encode_no k ao xs.length cap (by simpa using h) w hG).mono ?_
    rintro e b ⟨rfl, hb⟩
    exact ⟨_, rfl, Row.nil b, hb⟩
theorem rencode_any (k : Int) (v : Value) (xs : List Int) (w : World) (hs : SeesI w v xs) :
    Calls Tryd.prog 12 #[.agg #[.int .i64 k, v]] w fun e b => ∃ x, e = .returned (.tuple #[x, .int .i64 (encE k xs.length)]) ∧ SeesB b x (encA k xs) ∧ Below w.heap.size w b := by
  unfold encA encE
  by_cases h : rightS k xs.length = true
  · rw [if_pos h, if_pos h]
    refine (rencode_yes k v xs h w hs).mono ?_
    rintro e b ⟨x, rfl, ho, hb⟩
    exact ⟨_, rfl, ho, hb⟩
  · rw [if_neg h, if_neg h]
    obtain ⟨ao, cap, rfl⟩ := hs.slice
    refine (rencode_no k ao xs.length cap (by simpa using h) w).mono ?_
    rintro e b ⟨rfl, hb⟩
    exact ⟨_, rfl, Row.nil b, hb⟩
theorem decode_any (v : Value) (bs : List (BitVec 8)) (hn : bs.length ≤ 3500) (w : World) (hs : SeesB w v bs) (hG : Longs w) :
    Calls Tryd.prog 13 #[v] w fun e b => ∃ x, e = .returned (.tuple #[.agg #[.int .i64 (decK bs), x], .int .i64 (decE bs)]) ∧ SeesI b x (decN bs) ∧ Below w.heap.size w b := by
  by_cases h : decE bs = 0
  · rw [h]
    exact decode_yes v bs hn h w hs hG
  · have hk : decK bs = 0 := by unfold decK; rw [if_neg h]
    have hN : decN bs = [] := by unfold decN; rw [if_neg h]
    rw [hk, hN]
    refine (decode_no v bs hn h w hs hG).mono ?_
    rintro e b ⟨rfl, hb⟩
    exact ⟨_, rfl, Row.nil b, hb⟩
theorem rdecode_any (v : Value) (bs : List (BitVec 8)) (hn : bs.length ≤ 3500) (w : World) (hs : SeesB w v bs) :
    Calls Tryd.prog 14 #[v] w fun e b => ∃ x, e = .returned (.tuple #[.agg #[.int .i64 (decK bs), x], .int .i64 (decE bs)]) ∧ SeesI b x (decN bs) ∧ Below w.heap.size w b := by
  by_cases h : decE bs = 0
  · rw [h]
    exact rdecode_yes v bs hn h w hs
  · have hk : decK bs = 0 := by unfold decK; rw [if_neg h]
    have hN : decN bs = [] := by unfold decN; rw [if_neg h]
    rw [hk, hN]
    refine (rdecode_no v bs hn h w hs).mono ?_
    rintro e b ⟨rfl, hb⟩
    exact ⟨_, rfl, Row.nil b, hb⟩
end Go.Proofs.YtnkghcbjokmooaaDoor.Gr
