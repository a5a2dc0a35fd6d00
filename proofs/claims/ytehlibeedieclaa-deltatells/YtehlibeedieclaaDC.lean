/-
  'copy' into a row that the call made, as a law for the walk; told's plain side.
-/
import Derived.Test.YtehlibeedieclaaDF
namespace Go.Proofs.Ytehlibeedieclaa.Gr
open Go.RowKit Go.Sort

theorem splice_take {α : Type} (A vs : List α) (off m : Nat) (h : off + vs.length ≤ m) (hm : m ≤ A.length) : (A.take off ++ vs ++ A.drop (off + vs.length)).take m = splice (A.take m) off vs := by
  unfold splice
  have h1 : (A.take off).length = off := by rw [List.length_take]; omega
  rw [List.append_assoc, List.take_append, h1, List.take_append, List.take_take, List.take_take, List.drop_take, Nat.min_eq_right (by omega : off ≤ m), Nat.min_eq_left (by omega : off ≤ m), List.take_of_length_le (by omega : vs.length ≤ m - off)]
  congr 3
  omega
theorem splice_nil {α : Type} (A : List α) (off : Nat) : splice A off [] = A := by simp [splice]
theorem splice_all {α : Type} (A vs : List α) (h : A.length = vs.length) : splice A 0 vs = vs := by simp [splice, ← h]

theorem run_copyO {P : Program} (w : World) (dT sT ty elem : TypeId) (hu : P.underlying dT = some (.slice elem)) (hsz : (P.info? elem).map (·.size) = some 1)
    {base : Nat} {e : TypeId} {size n cap g : Nat} {xs : List Value} (hown : w.ownsRow base e size (.slice (some ⟨g, 0, none⟩) n cap) n xs) (off dLen dCap : Nat) (dp sp : Option Addr) (sLen sCap : Nat) (vs : List Value)
    (hn : vs.length = Nat.min sLen dLen) (hpos : 0 < vs.length → dp = some ⟨g, off, none⟩ ∧ ∃ ad, sp = some ad ∧ ∀ j v, vs[j]? = some v → w.cell? (ad.add j) = some v)
    (hfit : off + vs.length ≤ n * size) (h1 : ∀ v ∈ vs, v.oneCell' = true) :
    ∃ w', (Builtin.copy_ #[dT, sT] ty #[.slice dp dLen dCap, .slice sp sLen sCap]).run P w = .ok (goInt vs.length) w' ∧ w'.ownsRow base e size (.slice (some ⟨g, 0, none⟩) n cap) n (splice xs off vs) ∧ w.grownBy w' (some g) := by
  by_cases h0 : vs.length = 0
  · obtain rfl : vs = [] := List.eq_nil_of_length_eq_zero h0
    exact ⟨w, run_copy_none (P := P) w dT sT ty elem dp sp dLen dCap sLen sCap hu hsz (by simpa using hn.symm), by rw [splice_nil]; exact hown, gb_refl _ _⟩
  · obtain ⟨rfl, ad, rfl, hsrc⟩ := hpos (by omega)
    obtain ⟨hl, ⟨h', _⟩ | ⟨g', cap', cur, h', hb, hg, hnc, hcm, hcs, htake⟩⟩ := id hown
    · simp at h'
    · simp only [Value.slice.injEq, Option.some.injEq, Addr.mk.injEq, and_true, true_and] at h'
      obtain ⟨rfl, rfl⟩ := h'
      have hm : n * size ≤ cur.toList.length := by simp; rw [hcs]; exact Nat.mul_le_mul_right _ hnc
      have hsz' : cur.toList.length = cur.size := by simp
      have hrun := run_copy_row (P := P) w dT sT ty elem g off dLen dCap ad sLen sCap cur e vs hu hsz hg hn hsrc (by omega) h1
      refine ⟨_, hrun, ⟨?_, .inr ⟨g, cap, _, rfl, hb, setRow_heap w g _ _ e _ hg, hnc, hcm, ?_, ?_⟩⟩, ⟨rfl, rfl, rfl, by simp [World.setRow], fun k hk hne => setRow_other w g k _ (fun ee => hne (by rw [ee]))⟩⟩
      · rw [length_splice _ _ _ (by omega)]; exact hl
      · simp; omega
      · rw [← htake]; exact splice_take _ _ _ _ hfit hm
theorem wpList_copyO {P : Program} {w : World} {ops : Array Oper} {rest : List Oper} {o : Oper} {a : Act} {Q : Exit → Act → World → Prop} (hgd : o.guard = none) (d s : Operand) (dT sT : TypeId)
    (ho : o.op = .call { callee := .builtin .copy, args := #[d, s], argTypes := #[dT, sT] }) (elem : TypeId) (hu : P.underlying dT = some (.slice elem)) (hsz : (P.info? elem).map (·.size) = some 1)
    (dp sp : Option Addr) (dLen dCap sLen sCap : Nat) (hd : a.eval d = .slice dp dLen dCap) (hs : a.eval s = .slice sp sLen sCap)
    {base : Nat} {e : TypeId} {size n cap g : Nat} {xs : List Value} (hown : w.ownsRow base e size (.slice (some ⟨g, 0, none⟩) n cap) n xs) (off : Nat) (vs : List Value)
    (hn : vs.length = Nat.min sLen dLen) (hpos : 0 < vs.length → dp = some ⟨g, off, none⟩ ∧ ∃ ad, sp = some ad ∧ ∀ j v, vs[j]? = some v → w.cell? (ad.add j) = some v)
    (hfit : off + vs.length ≤ n * size) (h1 : ∀ v ∈ vs, v.oneCell' = true)
    (h : ∀ w', w'.ownsRow base e size (.slice (some ⟨g, 0, none⟩) n cap) n (splice xs off vs) → w.grownBy w' (some g) → wpList P ops Q rest (a.put o.dst (goInt vs.length)) w') : wpList P ops Q (o :: rest) a w := by
  refine wpList_plain hgd fun K hK => ?_
  obtain ⟨w', hrun, r1, r2⟩ := run_copyO (P := P) w dT sT o.type elem hu hsz hown off dLen dCap dp sp sLen sCap vs hn hpos hfit h1
  unfold Oper.wp
  simp [execOp, ho, resolve, invoke, builtin, hd, hs, hrun, Result.andThen]
  exact hK _ _ (h w' r1 r2)
theorem step_copyO {P : Program} {w : World} {ops : Array Oper} {o : Oper} {a : Act} {K : Act → World → Prop} {Q : Exit → Act → World → Prop} {E : Prop} (hgd : o.guard = none) (d s : Operand) (dT sT : TypeId)
    (ho : o.op = .call { callee := .builtin .copy, args := #[d, s], argTypes := #[dT, sT] }) (elem : TypeId) (hu : P.underlying dT = some (.slice elem)) (hsz : (P.info? elem).map (·.size) = some 1)
    (dp sp : Option Addr) (dLen dCap sLen sCap : Nat) (hd : a.eval d = .slice dp dLen dCap) (hs : a.eval s = .slice sp sLen sCap)
    {base : Nat} {e : TypeId} {size n cap g : Nat} {xs : List Value} (hown : w.ownsRow base e size (.slice (some ⟨g, 0, none⟩) n cap) n xs) (off : Nat) (vs : List Value)
    (hn : vs.length = Nat.min sLen dLen) (hpos : 0 < vs.length → dp = some ⟨g, off, none⟩ ∧ ∃ ad, sp = some ad ∧ ∀ j v, vs[j]? = some v → w.cell? (ad.add j) = some v)
    (hfit : off + vs.length ≤ n * size) (h1 : ∀ v ∈ vs, v.oneCell' = true)
    (h : ∀ w', w'.ownsRow base e size (.slice (some ⟨g, 0, none⟩) n cap) n (splice xs off vs) → w.grownBy w' (some g) → K (a.put o.dst (goInt vs.length)) w') :
    if Region.wanted o (yielded ops a.tmps) = true then Oper.wp P o a w K Q else E := by
  have hw : Region.wanted o (yielded ops a.tmps) = true := by simp [Region.wanted, hgd]
  rw [if_pos hw]
  obtain ⟨w', hrun, r1, r2⟩ := run_copyO (P := P) w dT sT o.type elem hu hsz hown off dLen dCap dp sp sLen sCap vs hn hpos hfit h1
  unfold Oper.wp
  simp [execOp, ho, resolve, invoke, builtin, hd, hs, hrun, Result.andThen]
  exact h w' r1 r2

namespace Dm
/-- a bit of a word -/
def bitS (x : Int) (t : Nat) : Bool := decide (x / 2 ^ t % 2 = 1)
theorem and1_i64 (x : Int) : bits .and .i64 x 1 = x % 2 := by
  show IntKind.i64.wrap ((BitVec.ofInt 64 x &&& 1#64).toNat : Int) = _
  have : (BitVec.ofInt 64 x &&& 1#64).toNat = (x % 2).toNat := by
    rw [BitVec.toNat_and]
    show (BitVec.ofInt 64 x).toNat &&& 1 = _
    rw [Nat.and_one_is_mod, BitVec.toNat_ofInt]
    omega
  rw [this]
  have h := Int.emod_nonneg x (by decide : (2 : Int) ≠ 0)
  have h2 := Int.emod_lt_of_pos x (by decide : (0 : Int) < 2)
  rw [Int.toNat_of_nonneg h]
  generalize x % 2 = y at h h2
  simp [IntKind.wrap, IntKind.bits, IntKind.signed]
  omega
/-- how many of the words are used, i places on -/
def usedS (b : Nat → Bool) (W : Nat) : Nat → Nat
  | 0 => 0
  | i + 1 => usedS b W i + if decide (usedS b W i < W) && b i then 1 else 0
theorem usedS_le (b : Nat → Bool) (W : Nat) : ∀ i, usedS b W i ≤ W ∧ usedS b W i ≤ i
  | 0 => ⟨Nat.zero_le _, Nat.le_refl _⟩
  | i + 1 => by
    have ih := usedS_le b W i
    unfold usedS
    split
    · rename_i h
      simp at h
      omega
    · omega
def valS (b : Nat → Bool) (base ws : List Int) (i : Nat) : Int := if decide (usedS b ws.length i < ws.length) && b i then ws.getD (usedS b ws.length i) 0 else base.getD i 0
/-- the row, as far as it has been told -/
def toldS (b : Nat → Bool) (base ws : List Int) (i : Nat) : List Int := (List.range base.length).map fun t => if t < i then valS b base ws t else base.getD t 0
theorem toldS_len (b : Nat → Bool) (base ws : List Int) (i : Nat) : (toldS b base ws i).length = base.length := by simp [toldS]
theorem toldS_zero (b : Nat → Bool) (base ws : List Int) : toldS b base ws 0 = base := by
  apply List.ext_getElem
  · simp [toldS]
  · intro i h1 h2
    simp [toldS, List.getD_eq_getElem?_getD, h2]
theorem toldS_set (b : Nat → Bool) (base ws : List Int) (i : Nat) : (toldS b base ws i).set i (valS b base ws i) = toldS b base ws (i + 1) := by
  unfold toldS
  apply List.ext_getElem
  · simp
  · intro j h1 h2
    rw [List.getElem_set]
    simp only [List.getElem_map, List.getElem_range]
    by_cases e : i = j
    · subst e; rw [if_pos rfl, if_pos (by omega)]
    · rw [if_neg e]
      by_cases hi : j < i
      · rw [if_pos hi, if_pos (by omega)]
      · rw [if_neg hi, if_neg (by omega)]
theorem toldS_no {b : Nat → Bool} {base ws : List Int} {i : Nat} (h : (decide (usedS b ws.length i < ws.length) && b i) = false) : toldS b base ws (i + 1) = toldS b base ws i ∧ usedS b ws.length (i + 1) = usedS b ws.length i := by
  constructor
  · unfold toldS
    apply List.map_congr_left
    intro j _
    by_cases e : i = j
    · subst e
      rw [if_pos (by omega), if_neg (by omega)]
      unfold valS; rw [h]; rfl
    · by_cases hi : j < i
      · rw [if_pos hi, if_pos (by omega)]
      · rw [if_neg hi, if_neg (by omega)]
  · simp [usedS, h]
theorem toldS_yes {b : Nat → Bool} {base ws : List Int} {i : Nat} (h : (decide (usedS b ws.length i < ws.length) && b i) = true) : (toldS b base ws i).set i (ws.getD (usedS b ws.length i) 0) = toldS b base ws (i + 1) ∧ usedS b ws.length (i + 1) = usedS b ws.length i + 1 := by
  constructor
  · rw [← toldS_set]; unfold valS; rw [h]; rfl
  · simp [usedS, h]
end Dm
end Go.Proofs.Ytehlibeedieclaa.Gr
