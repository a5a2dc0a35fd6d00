/-
  The store of two slots, plain.
-/
import Derived.Test.YtcfobifldlkfnaaCT
import Derived.Test.YtcfobifldlkfnaaBY
namespace Go.Proofs.Ytcfobifldlkfnaa.Gr
open Go.RowKit Qm
namespace Nm
/-- a store: two slots, words and commit word each -/
structure Nv where
  a : List Int
  c : Int
  b : List Int
  d : Int
deriving DecidableEq
/-- the commit word -/
def comS (ws : List Int) : Int := 4294967296 + iv (ofS (layS ws))
theorem comS_ge (ws : List Int) : 4294967296 ≤ comS ws := by have := (iv_lt32 (ofS (layS ws))).1; unfold comS; omega
theorem comS_lt (ws : List Int) : comS ws < 8589934592 := by have := (iv_lt32 (ofS (layS ws))).2; unfold comS; omega
/-- the first word -/
def hd (ws : List Int) : Int := ws.getD 0 0
/-- a slot is whole -/
def whS (ws : List Int) (c : Int) : Bool := decide (0 < ws.length) && decide (0 ≤ hd ws) && decide (hd ws ≤ 4611686018427387904) && decide (c = comS ws)
theorem whS_iff {ws : List Int} {c : Int} : whS ws c = true ↔ 0 < ws.length ∧ 0 ≤ hd ws ∧ hd ws ≤ 4611686018427387904 ∧ c = comS ws := by
  unfold whS; simp [and_assoc]
theorem whS_zero (ws : List Int) : whS ws 0 = false := by
  have := comS_ge ws
  cases h : whS ws 0 with
  | false => rfl
  | true => have := (whS_iff.1 h).2.2.2; omega
/-- the place of the newest whole slot; -1: none -/
def pick2 (p q : Bool) (x y : Int) : Int := if p = true then (if q = true ∧ x < y then 1 else 0) else if q = true then 1 else -1
def plc (s : Nv) : Int := pick2 (whS s.a s.c) (whS s.b s.d) (hd s.a) (hd s.b)
theorem plc_cases (s : Nv) : plc s = -1 ∨ plc s = 0 ∨ plc s = 1 := by
  unfold plc pick2; split <;> (try split) <;> simp
theorem plc_zero {s : Nv} (h : plc s = 0) : whS s.a s.c = true := by
  unfold plc pick2 at h
  split at h
  · assumption
  · split at h <;> simp at h
theorem plc_one {s : Nv} (h : plc s = 1) : whS s.b s.d = true := by
  unfold plc pick2 at h
  split at h
  · split at h
    · rename_i h1; exact h1.1
    · simp at h
  · split at h
    · assumption
    · simp at h
theorem plc_neg {s : Nv} (h : plc s = -1) : whS s.a s.c = false ∧ whS s.b s.d = false := by
  unfold plc pick2 at h
  cases h1 : whS s.a s.c <;> cases h2 : whS s.b s.d <;> simp [h1, h2] at h ⊢
  split at h <;> simp at h
def keptS (s : Nv) : List Int := if plc s = 0 then s.a.drop 1 else if plc s = 1 then s.b.drop 1 else []
def numS (s : Nv) : Int := if plc s = 0 then hd s.a else if plc s = 1 then hd s.b else 0
def isS (s : Nv) : Bool := decide (plc s ≠ -1)
theorem numS_range (s : Nv) : 0 ≤ numS s ∧ numS s ≤ 4611686018427387904 := by
  unfold numS
  split
  · rename_i h; have := whS_iff.1 (plc_zero h); omega
  · split
    · rename_i h; have := whS_iff.1 (plc_one h); omega
    · omega
theorem isS_no {s : Nv} (h : isS s = false) : plc s = -1 ∧ numS s = 0 ∧ keptS s = [] := by
  unfold isS at h
  have h1 : plc s = -1 := by simpa using h
  refine ⟨h1, ?_, ?_⟩
  · unfold numS; rw [h1]; simp
  · unfold keptS; rw [h1]; simp
def bigS (s : Nv) (ws : List Int) : Bool := decide (600 < ws.length) || decide (numS s = 4611686018427387904)
/-- one slot is another one: the second one (true), the first one (false) -/
def putS (s : Nv) (t : Bool) (l : List Int) (k : Int) : Nv := if t = true then ⟨s.a, s.c, l, k⟩ else ⟨l, k, s.b, s.d⟩
def toS (s : Nv) : Bool := decide (plc s = 0)
def oldS (s : Nv) : List Int := if plc s = 0 then s.b else s.a
def recS (s : Nv) (ws : List Int) : List Int := (numS s + 1) :: ws
def tornS (s : Nv) (ws : List Int) (done : Int) : Nv :=
  if bigS s ws = true then s else if done ≤ 0 then s else if done = 1 then putS s (toS s) (oldS s) 0
  else if done < 3 + (ws.length : Int) then putS s (toS s) ((recS s ws).take (done - 1).toNat) 0 else putS s (toS s) (recS s ws) (comS (recS s ws))
def writeS (s : Nv) (ws : List Int) : Nv := if bigS s ws = true then s else putS s (toS s) (recS s ws) (comS (recS s ws))
def errS (s : Nv) (ws : List Int) : Int := if bigS s ws = true then 5 else 0
theorem torn_write (s : Nv) (ws : List Int) (done : Int) (h : 3 + (ws.length : Int) ≤ done) : tornS s ws done = writeS s ws := by
  unfold tornS writeS
  split
  · rfl
  · rw [if_neg (by omega), if_neg (by omega), if_neg (by omega)]
theorem torn_big {s : Nv} {ws : List Int} (h : bigS s ws = true) (done : Int) : tornS s ws done = s := by unfold tornS; rw [if_pos h]
theorem torn_zero (s : Nv) (ws : List Int) {done : Int} (h : done ≤ 0) : tornS s ws done = s := by unfold tornS; simp [h]
theorem write_big {s : Nv} {ws : List Int} (h : bigS s ws = true) : writeS s ws = s := by unfold writeS; rw [if_pos h]
theorem bigS_iff {s : Nv} {ws : List Int} : bigS s ws = true ↔ 600 < ws.length ∨ numS s = 4611686018427387904 := by unfold bigS; simp
theorem bigS_no {s : Nv} {ws : List Int} (h : bigS s ws = false) : ws.length ≤ 600 ∧ numS s < 4611686018427387904 := by
  unfold bigS at h
  have := numS_range s
  simp at h
  omega
theorem hd_rec (s : Nv) (ws : List Int) : hd (recS s ws) = numS s + 1 := rfl
theorem whS_rec {s : Nv} {ws : List Int} (h : bigS s ws = false) : whS (recS s ws) (comS (recS s ws)) = true := by
  have := bigS_no h
  have := numS_range s
  rw [whS_iff, hd_rec]
  exact ⟨by simp [recS], by omega, by omega, rfl⟩
/-- what is written is read -/
theorem read_write {s : Nv} {ws : List Int} (h : bigS s ws = false) : isS (writeS s ws) = true ∧ numS (writeS s ws) = numS s + 1 ∧ keptS (writeS s ws) = ws := by
  have hr := whS_rec h
  have hw : writeS s ws = putS s (toS s) (recS s ws) (comS (recS s ws)) := by unfold writeS; rw [h]; rfl
  have hn := hd_rec s ws
  have ht : (recS s ws).drop 1 = ws := rfl
  rw [hw]
  rcases plc_cases s with h0 | h0 | h0
  · have h1 := plc_neg h0
    have hp : putS s (toS s) (recS s ws) (comS (recS s ws)) = ⟨recS s ws, comS (recS s ws), s.b, s.d⟩ := by unfold putS toS; rw [h0]; rfl
    have hq : plc (⟨recS s ws, comS (recS s ws), s.b, s.d⟩ : Nv) = 0 := by
      unfold plc pick2
      simp only [hr, h1.2]
      simp
    rw [hp]
    refine ⟨by unfold isS; rw [hq]; rfl, by unfold numS at hn ⊢; rw [hq]; exact hn, by unfold keptS; rw [hq]; exact ht⟩
  · have h1 := plc_zero h0
    have hs : numS s = hd s.a := by unfold numS; rw [if_pos h0]
    have hp : putS s (toS s) (recS s ws) (comS (recS s ws)) = ⟨s.a, s.c, recS s ws, comS (recS s ws)⟩ := by unfold putS toS; rw [h0]; rfl
    have hq : plc (⟨s.a, s.c, recS s ws, comS (recS s ws)⟩ : Nv) = 1 := by
      unfold plc pick2
      simp only [hr, h1, hn, hs]
      rw [if_pos trivial, if_pos ⟨trivial, by omega⟩]
    rw [hp]
    refine ⟨by unfold isS; rw [hq]; rfl, by unfold numS at hn ⊢; rw [hq]; exact hn, by unfold keptS; rw [hq]; exact ht⟩
  · have h1 := plc_one h0
    have hs : numS s = hd s.b := by unfold numS; rw [h0]; simp
    have hp : putS s (toS s) (recS s ws) (comS (recS s ws)) = ⟨recS s ws, comS (recS s ws), s.b, s.d⟩ := by unfold putS toS; rw [h0]; rfl
    have hq : plc (⟨recS s ws, comS (recS s ws), s.b, s.d⟩ : Nv) = 0 := by
      unfold plc pick2
      simp only [hr, h1, hn, hs]
      rw [if_pos trivial, if_neg (by omega)]
    rw [hp]
    refine ⟨by unfold isS; rw [hq]; rfl, by unfold numS at hn ⊢; rw [hq]; exact hn, by unfold keptS; rw [hq]; exact ht⟩
/-- a slot that isn't whole, in the place of the other one: what is read stays -/
theorem read_put (s : Nv) (l : List Int) : isS (putS s (toS s) l 0) = isS s ∧ numS (putS s (toS s) l 0) = numS s ∧ keptS (putS s (toS s) l 0) = keptS s := by
  have hz := whS_zero l
  rcases plc_cases s with h0 | h0 | h0
  · have h1 := plc_neg h0
    have hp : putS s (toS s) l 0 = ⟨l, 0, s.b, s.d⟩ := by unfold putS toS; rw [h0]; rfl
    have hq : plc (⟨l, 0, s.b, s.d⟩ : Nv) = -1 := by unfold plc pick2; simp only [hz, h1.2]; simp
    rw [hp]; unfold isS numS keptS; rw [h0, hq]; simp
  · have h1 := plc_zero h0
    have hp : putS s (toS s) l 0 = ⟨s.a, s.c, l, 0⟩ := by unfold putS toS; rw [h0]; rfl
    have hq : plc (⟨s.a, s.c, l, 0⟩ : Nv) = 0 := by unfold plc pick2; simp only [hz, h1]; simp
    rw [hp]; unfold isS numS keptS; rw [h0, hq]; simp
  · have h1 := plc_one h0
    have hp : putS s (toS s) l 0 = ⟨l, 0, s.b, s.d⟩ := by unfold putS toS; rw [h0]; rfl
    have hq : plc (⟨l, 0, s.b, s.d⟩ : Nv) = 1 := by unfold plc pick2; simp only [hz, h1]; simp
    rw [hp]; unfold isS numS keptS; rw [h0, hq]; simp
theorem read_torn {s : Nv} {ws : List Int} {done : Int} (h : done < 3 + (ws.length : Int)) : isS (tornS s ws done) = isS s ∧ numS (tornS s ws done) = numS s ∧ keptS (tornS s ws done) = keptS s := by
  unfold tornS
  split
  · exact ⟨rfl, rfl, rfl⟩
  · split
    · exact ⟨rfl, rfl, rfl⟩
    · split
      · exact read_put s _
      · first | exact read_put s _ | (split; · exact read_put s _
                                      · omega)
end Nm
end Go.Proofs.Ytcfobifldlkfnaa.Gr
