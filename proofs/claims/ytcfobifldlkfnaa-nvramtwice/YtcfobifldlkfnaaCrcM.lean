/-
  CRC-32, over numbers of 32 bits. No program in sight.
-/
import Derived.Test.YtcfobifldlkfnaaRows
namespace Go.Proofs.Ytcfobifldlkfnaa.Gr
namespace Qm
abbrev U32 := BitVec 32
abbrev U8 := BitVec 8
/-- a number of 32 bits gone on by one bit -/
def on1 (c : BitVec 32) : BitVec 32 := if c.getLsbD 0 then (c >>> 1) ^^^ 3988292384#32 else c >>> 1
def onN : Nat → BitVec 32 → BitVec 32
  | 0, c => c
  | n + 1, c => onN n (on1 c)
theorem onN_add (n m : Nat) (c : BitVec 32) : onN (n + m) c = onN m (onN n c) := by
  induction n generalizing c with
  | zero => rw [Nat.zero_add]; rfl
  | succ n ih => rw [Nat.succ_add]; exact ih (on1 c)
theorem onN_out (n : Nat) (c : BitVec 32) : onN (n + 1) c = on1 (onN n c) := onN_add n 1 c
theorem on1_xor (a b : BitVec 32) : on1 (a ^^^ b) = on1 a ^^^ on1 b := by
  unfold on1
  rw [BitVec.getLsbD_xor, BitVec.ushiftRight_xor_distrib]
  generalize 3988292384#32 = D
  cases a.getLsbD 0 <;> cases b.getLsbD 0 <;> simp [BitVec.xor_assoc]
  · rw [BitVec.xor_comm]
  · rw [BitVec.xor_comm _ D, ← BitVec.xor_assoc D D, BitVec.xor_self, BitVec.zero_xor]
theorem onN_xor (n : Nat) (a b : BitVec 32) : onN n (a ^^^ b) = onN n a ^^^ onN n b := by
  induction n generalizing a b with
  | zero => rfl
  | succ n ih => show onN n (on1 (a ^^^ b)) = _; rw [on1_xor]; exact ih _ _
theorem onN_zero (n : Nat) : onN n 0#32 = 0#32 := by
  induction n with
  | zero => rfl
  | succ n ih => exact ih
theorem on1_inj {c : BitVec 32} (h : on1 c = 0#32) : c = 0#32 := by
  unfold on1 at h
  have hs : (c >>> 1).getLsbD 31 = false := by simp
  split at h
  · have := congrArg (fun v => v.getLsbD 31) h
    simp only [BitVec.getLsbD_xor, hs] at this
    simp at this
  · rename_i h0
    apply BitVec.eq_of_getLsbD_eq
    intro i hi
    cases i with
    | zero => simpa using h0
    | succ i =>
      have := congrArg (fun v => v.getLsbD i) h
      simp only [BitVec.getLsbD_ushiftRight] at this
      rw [Nat.add_comm] at this
      simpa using this
theorem onN_inj {n : Nat} {c : BitVec 32} (h : onN n c = 0#32) : c = 0#32 := by
  induction n generalizing c with
  | zero => exact h
  | succ n ih => exact on1_inj (ih h)
theorem onN_inj2 {n : Nat} {a b : BitVec 32} (h : onN n a = onN n b) : a = b := by
  have : onN n (a ^^^ b) = 0#32 := by rw [onN_xor, h, BitVec.xor_self]
  have h2 := onN_inj this
  have : a ^^^ b ^^^ b = 0#32 ^^^ b := by rw [h2]
  rw [BitVec.xor_assoc, BitVec.xor_self] at this; simpa using this

/-- a byte as a number of 32 bits -/
def wide (x : BitVec 8) : BitVec 32 := x.setWidth 32
/-- one byte on: as it is told -/
def byteOn (c : BitVec 32) (x : BitVec 8) : BitVec 32 := (c >>> 8) ^^^ onN 8 (wide (c.setWidth 8 ^^^ x))
/-- even numbers go on by being moved -/
theorem on1_even {c : BitVec 32} (h : c.getLsbD 0 = false) : on1 c = c >>> 1 := by unfold on1; rw [h]; rfl
theorem onN_low {n : Nat} {c : BitVec 32} (h : ∀ i, i < n → c.getLsbD i = false) : onN n c = c >>> n := by
  induction n generalizing c with
  | zero => simp [onN]
  | succ n ih =>
    show onN n (on1 c) = _
    rw [on1_even (h 0 (by omega)), ih (fun i hi => by rw [BitVec.getLsbD_ushiftRight, Nat.add_comm]; exact h (i + 1) (by omega)), ← BitVec.shiftRight_add, Nat.add_comm]
/-- ... and as it goes on -/
theorem byteOn_on (c : BitVec 32) (x : BitVec 8) : byteOn c x = onN 8 (c ^^^ wide x) := by
  have hc : c ^^^ wide x = ((c >>> 8) <<< 8) ^^^ wide (c.setWidth 8 ^^^ x) := by
    apply BitVec.eq_of_getLsbD_eq
    intro i hi
    unfold wide
    simp only [BitVec.getLsbD_xor, BitVec.getLsbD_setWidth, BitVec.getLsbD_shiftLeft, BitVec.getLsbD_ushiftRight, hi, decide_true, Bool.true_and]
    by_cases h8 : i < 8
    · simp [h8]
    · have : 8 + (i - 8) = i := by omega
      have hx : x.getLsbD i = false := BitVec.getLsbD_of_ge _ _ (by omega)
      simp [h8, this, hx]
  rw [hc, onN_xor]
  unfold byteOn
  congr 1
  rw [onN_low (fun i hi => by simp [hi])]
  apply BitVec.eq_of_getLsbD_eq
  intro i hi
  simp only [BitVec.getLsbD_shiftLeft, BitVec.getLsbD_ushiftRight]
  by_cases h : 8 + i < 32
  · have h1 : ¬ (8 + i < 8) := by omega
    simp [h, h1]
  · simp [h, BitVec.getLsbD_of_ge c (8 + i) (by omega)]

def moreS (c : BitVec 32) (bs : List (BitVec 8)) : BitVec 32 := bs.foldl byteOn c
def ofS (bs : List (BitVec 8)) : BitVec 32 := ~~~(moreS 4294967295#32 bs)
theorem moreS_append (c : BitVec 32) (a b : List (BitVec 8)) : moreS c (a ++ b) = moreS (moreS c a) b := List.foldl_append
theorem wide_xor (x y : BitVec 8) : wide (x ^^^ y) = wide x ^^^ wide y := by
  apply BitVec.eq_of_getLsbD_eq; intro i hi; unfold wide; simp
theorem byteOn_xor (a b : BitVec 32) (x y : BitVec 8) : byteOn (a ^^^ b) (x ^^^ y) = byteOn a x ^^^ byteOn b y := by
  rw [byteOn_on, byteOn_on, byteOn_on, wide_xor, ← onN_xor]
  congr 1
  rw [BitVec.xor_assoc, ← BitVec.xor_assoc b, BitVec.xor_comm b (wide x), BitVec.xor_assoc, BitVec.xor_assoc]
def xorS (a b : List (BitVec 8)) : List (BitVec 8) := List.zipWith (· ^^^ ·) a b
theorem moreS_xor (c d : BitVec 32) (a b : List (BitVec 8)) (h : a.length = b.length) : moreS (c ^^^ d) (xorS a b) = moreS c a ^^^ moreS d b := by
  induction a generalizing b c d with
  | nil => cases b with
    | nil => rfl
    | cons => simp at h
  | cons x a ih =>
    cases b with
    | nil => simp at h
    | cons y b =>
      show moreS (byteOn (c ^^^ d) (x ^^^ y)) (xorS a b) = _
      rw [byteOn_xor]
      exact ih _ _ b (by simpa using h)

/-- a few bytes as a number, the lowest first -/
def packS : List (BitVec 8) → BitVec 32
  | [] => 0#32
  | x :: r => wide x ^^^ (packS r <<< 8)
theorem packS_high (r : List (BitVec 8)) {i : Nat} (h : 8 * r.length ≤ i) : (packS r).getLsbD i = false := by
  induction r generalizing i with
  | nil => simp [packS]
  | cons x r ih =>
    simp only [List.length_cons] at h
    unfold packS wide
    simp only [BitVec.getLsbD_xor, BitVec.getLsbD_setWidth, BitVec.getLsbD_shiftLeft]
    rw [BitVec.getLsbD_of_ge x i (by omega), ih (i := i - 8) (by omega)]
    simp
theorem moreS_pack (c : BitVec 32) (r : List (BitVec 8)) (h : r.length ≤ 4) : moreS c r = onN (8 * r.length) (c ^^^ packS r) := by
  induction r generalizing c with
  | nil => simp [moreS, packS, onN]
  | cons x r ih =>
    simp only [List.length_cons] at h
    show moreS (byteOn c x) r = _
    rw [ih _ (by omega), byteOn_on]
    have hp : packS r = onN 8 (packS r <<< 8) := by
      rw [onN_low (fun i hi => by simp [hi])]
      apply BitVec.eq_of_getLsbD_eq
      intro i hi
      simp only [BitVec.getLsbD_ushiftRight, BitVec.getLsbD_shiftLeft]
      by_cases h : 8 + i < 32
      · have h1 : ¬ (8 + i < 8) := by omega
        simp [h, h1]
      · rw [packS_high r (by omega)]; simp [h]
    rw [List.length_cons, Nat.mul_add, Nat.add_comm (8 * r.length), onN_add]
    congr 1
    rw [packS, ← BitVec.xor_assoc, onN_xor 8 (c ^^^ wide x), ← hp]
theorem packS_zero (r : List (BitVec 8)) (h : r.length ≤ 4) (hz : packS r = 0#32) : ∀ x ∈ r, x = 0#8 := by
  induction r with
  | nil => intro x hx; cases hx
  | cons x r ih =>
    simp only [List.length_cons] at h
    have hx : x = 0#8 := by
      apply BitVec.eq_of_getLsbD_eq
      intro i hi
      have := congrArg (fun v => v.getLsbD i) hz
      simp only [packS, wide, BitVec.getLsbD_xor, BitVec.getLsbD_setWidth, BitVec.getLsbD_shiftLeft] at this
      simpa [hi, show i < 32 by omega] using this
    have hr : packS r = 0#32 := by
      apply BitVec.eq_of_getLsbD_eq
      intro i hi
      by_cases h8 : i + 8 < 32
      · have := congrArg (fun v => v.getLsbD (i + 8)) hz
        simp only [packS, wide, BitVec.getLsbD_xor, BitVec.getLsbD_setWidth, BitVec.getLsbD_shiftLeft] at this
        rw [BitVec.getLsbD_of_ge x (i + 8) (by omega)] at this
        simpa [h8] using this
      · rw [packS_high r (by omega)]; simp
    intro y hy
    rcases List.mem_cons.1 hy with rfl | hy
    · exact hx
    · exact ih (by omega) hr y hy
/-- a sum as bytes, the lowest first -/
def laidS (n : BitVec 32) : List (BitVec 8) := [n.setWidth 8, (n >>> 8).setWidth 8, (n >>> 16).setWidth 8, (n >>> 24).setWidth 8]
theorem pack_laid (n : BitVec 32) : packS (laidS n) = n := by
  apply BitVec.eq_of_getLsbD_eq
  intro i hi
  unfold laidS packS packS packS packS packS wide
  simp only [BitVec.getLsbD_xor, BitVec.getLsbD_setWidth, BitVec.getLsbD_shiftLeft, BitVec.getLsbD_ushiftRight, BitVec.getLsbD_zero, hi, decide_true, Bool.true_and]
  by_cases h1 : i < 8
  · simp [h1]
  · by_cases h2 : i < 16
    · have : i - 8 < 8 := by omega
      have e : 8 + (i - 8) = i := by omega
      simp [h1, this, e, show i - 8 < 32 by omega]
    · by_cases h3 : i < 24
      · have a1 : ¬ (i - 8 < 8) := by omega
        have a2 : i - 8 - 8 < 8 := by omega
        have e : 16 + (i - 8 - 8) = i := by omega
        have a3 : i - 8 < 32 := by omega
        simp [h1, a1, a2, a3, e, show i - 8 - 8 < 32 by omega]
      · have a1 : ¬ (i - 8 < 8) := by omega
        have a2 : ¬ (i - 8 - 8 < 8) := by omega
        have a4 : i - 8 - 8 - 8 < 8 := by omega
        have e : 24 + (i - 8 - 8 - 8) = i := by omega
        have a3 : i - 8 < 32 := by omega
        have a5 : i - 8 - 8 < 32 := by omega
        simp [h1, a1, a2, a3, a4, a5, e, show i - 8 - 8 - 8 < 32 by omega]
theorem packS_inj (a b : List (BitVec 8)) (ha : a.length = b.length) (h4 : a.length ≤ 4) (h : packS a = packS b) : a = b := by
  induction a generalizing b with
  | nil => cases b with
    | nil => rfl
    | cons => simp at ha
  | cons x a ih =>
    cases b with
    | nil => simp at ha
    | cons y b =>
      simp only [List.length_cons] at ha h4
      have hx : x = y := by
        apply BitVec.eq_of_getLsbD_eq
        intro i hi
        have := congrArg (fun v => v.getLsbD i) h
        simp only [packS, wide, BitVec.getLsbD_xor, BitVec.getLsbD_setWidth, BitVec.getLsbD_shiftLeft] at this
        simpa [hi, show i < 32 by omega] using this
      subst hx
      have hr : packS a = packS b := by
        apply BitVec.eq_of_getLsbD_eq
        intro i hi
        by_cases h8 : i + 8 < 32
        · have := congrArg (fun v => v.getLsbD (i + 8)) h
          simp only [packS, wide, BitVec.getLsbD_xor, BitVec.getLsbD_setWidth, BitVec.getLsbD_shiftLeft] at this
          rw [BitVec.getLsbD_of_ge x (i + 8) (by omega)] at this
          simpa [h8, show ¬ (i + 8 < 8) by omega] using this
        · rw [packS_high a (by omega), packS_high b (by omega)]
      rw [ih b (by omega) (by omega) hr]
/-- is what lies behind what is laid there? -/
def okS (ys : List (BitVec 8)) : Bool := decide (4 ≤ ys.length) && decide (ys.drop (ys.length - 4) = laidS (ofS (ys.take (ys.length - 4))))
def sealS (bs : List (BitVec 8)) : List (BitVec 8) := bs ++ laidS (ofS bs)
theorem sealS_len (bs : List (BitVec 8)) : (sealS bs).length = bs.length + 4 := by unfold sealS; rw [List.length_append]; rfl
theorem seal_ok (bs : List (BitVec 8)) : okS (sealS bs) = true := by
  unfold okS
  rw [sealS_len]
  simp [sealS]
theorem seal_open (bs : List (BitVec 8)) : (sealS bs).take ((sealS bs).length - 4) = bs := by
  rw [sealS_len]; simp [sealS]
/-- whole: all of it goes on to one number -/
theorem ok_more (ys : List (BitVec 8)) (h : 4 ≤ ys.length) : okS ys = decide (moreS 4294967295#32 ys = onN 32 4294967295#32) := by
  have hl : (ys.drop (ys.length - 4)).length = 4 := by rw [List.length_drop]; omega
  have hm : moreS 4294967295#32 ys = onN 32 (moreS 4294967295#32 (ys.take (ys.length - 4)) ^^^ packS (ys.drop (ys.length - 4))) := by
    conv => lhs; rw [← List.take_append_drop (ys.length - 4) ys]
    rw [moreS_append, moreS_pack _ _ (by omega), hl]
  unfold okS
  rw [hm, decide_eq_true h, Bool.true_and]
  congr 1
  generalize hc : moreS 4294967295#32 (ys.take (ys.length - 4)) = c
  have ho : ofS (ys.take (ys.length - 4)) = ~~~c := by unfold ofS; rw [hc]
  rw [ho]
  have hn : 4294967295#32 = BitVec.allOnes 32 := by rfl
  apply propext
  constructor
  · intro e
    have hx : c ^^^ ~~~c = BitVec.allOnes 32 := by (apply BitVec.eq_of_getLsbD_eq; intro i hi; simp only [BitVec.getLsbD_xor, BitVec.getLsbD_not, BitVec.getLsbD_allOnes, hi, decide_true, Bool.true_and]; cases c.getLsbD i <;> rfl)
    rw [e, pack_laid, hx, hn]
  · intro e
    have e2 := onN_inj2 e
    refine packS_inj _ _ (by rw [hl]; rfl) (by omega) ?_
    rw [pack_laid]
    have : c ^^^ (c ^^^ packS (ys.drop (ys.length - 4))) = c ^^^ 4294967295#32 := by rw [e2]
    rw [← BitVec.xor_assoc, BitVec.xor_self, BitVec.zero_xor, hn, BitVec.xor_allOnes] at this
    exact this
theorem moreS_zeros (n : Nat) : moreS 0#32 (List.replicate n 0#8) = 0#32 := by
  induction n with
  | zero => rfl
  | succ n ih => rw [List.replicate_succ]; exact ih
theorem moreS_zeros' (n : Nat) (c : BitVec 32) : moreS c (List.replicate n 0#8) = onN (8 * n) c := by
  induction n generalizing c with
  | zero => rfl
  | succ n ih =>
    rw [List.replicate_succ]
    show moreS (byteOn c 0#8) _ = _
    have : wide 0#8 = 0#32 := rfl
    rw [ih, byteOn_on, this, BitVec.xor_zero, Nat.mul_add, Nat.add_comm (8 * n), onN_add]
/-- up to four bytes side by side, one at least another one: it is told -/
theorem burst (ys e : List (BitVec 8)) (p q : Nat) (hy : okS ys = true) (h4 : e.length ≤ 4) (hl : ys.length = p + e.length + q) (hne : ∃ x ∈ e, x ≠ 0#8) :
    okS (xorS ys (List.replicate p 0#8 ++ e ++ List.replicate q 0#8)) = false := by
  have hy4 : 4 ≤ ys.length := by unfold okS at hy; simp at hy; exact hy.1
  rw [ok_more ys hy4] at hy
  have hy' := of_decide_eq_true hy
  have hlen : ys.length = (List.replicate p 0#8 ++ e ++ List.replicate q 0#8).length := by simp; omega
  have hxl : (xorS ys (List.replicate p 0#8 ++ e ++ List.replicate q 0#8)).length = ys.length := by unfold xorS; rw [List.length_zipWith, ← hlen]; omega
  rw [ok_more _ (by omega), decide_eq_false_iff_not]
  intro hx
  have h0 := moreS_xor 4294967295#32 0#32 ys _ hlen
  rw [BitVec.xor_zero, hx, hy'] at h0
  have h1 : moreS 0#32 (List.replicate p 0#8 ++ e ++ List.replicate q 0#8) = 0#32 := by
    have := congrArg (fun v => onN 32 4294967295#32 ^^^ v) h0
    simp only [← BitVec.xor_assoc, BitVec.xor_self, BitVec.zero_xor] at this
    exact this.symm
  rw [moreS_append, moreS_append, moreS_zeros, moreS_zeros', moreS_pack _ _ h4, BitVec.zero_xor] at h1
  have h2 := onN_inj (onN_inj h1)
  obtain ⟨x, hx, hx0⟩ := hne
  exact hx0 (packS_zero e h4 h2 x hx)
theorem not_xor (a b c : BitVec 32) : ~~~a ^^^ ~~~b ^^^ ~~~c = ~~~(a ^^^ b ^^^ c) := by
  apply BitVec.eq_of_getLsbD_eq; intro i hi; simp [hi]
/-- of three rows -/
theorem of_lines (a b c : List (BitVec 8)) (h1 : a.length = b.length) (h2 : b.length = c.length) : ofS a ^^^ ofS b ^^^ ofS c = ofS (xorS (xorS a b) c) := by
  unfold ofS
  have hl : (xorS a b).length = c.length := by unfold xorS; rw [List.length_zipWith]; omega
  have e : 4294967295#32 = 4294967295#32 ^^^ 4294967295#32 ^^^ 4294967295#32 := rfl
  rw [not_xor]
  conv => rhs; rw [e]
  rw [moreS_xor _ _ _ _ hl, moreS_xor _ _ _ _ h1]
end Qm
end Go.Proofs.Ytcfobifldlkfnaa.Gr
