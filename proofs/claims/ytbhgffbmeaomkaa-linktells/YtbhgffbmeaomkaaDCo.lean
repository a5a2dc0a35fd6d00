/-
  'copy' into a row that the call made, as a law for the walk; told's plain side.
-/
import Derived.Test.YtbhgffbmeaomkaaDW
namespace Go.Proofs.Ytbhgffbmeaomkaa.Gr
open Go.RowKit Go.Sort

theorem splice_take {α : Type} (A vs : List α) (off m : Nat) (h : off + vs.length ≤ m) (hm : m ≤ A.length) : (A.take off ++ vs ++ A.drop (off + vs.length)).take m = splice (A.take m) off vs := by
  unfold splice
  have h1 : (A.take off).length = off := by rw [List.length_take]; omega
  rw [List.append_assoc, List.take_append, h1, List.take_append, List.take_take, List.take_take, List.drop_take, Nat.min_eq_right (by omega : off ≤ m), Nat.min_eq_left (by omega : off ≤ m), List.take_of_length_le (by omega : vs.length ≤ m - off)]
  congr 3
  omega
theorem splice_nil {α : Type} (A : List α) (off : Nat) : splice A off [] = A := by simp [splice]
theorem splice_all {α : Type} (A vs : List α) (h : A.length = vs.length) : splice A 0 vs = vs := by simp [splice, ← h]

theorem run_copyO {P : Program} (w : World) (dT sT ty elem : TypeId) (hu : P.underlying dT = some (.slice elem)) (hsz : (P.info? elem).map (·.size) = some 1)
    {base : Nat} {e : TypeId} {size n cap g : Nat} {xs : List Value} (hown : w.ownsRow base e size (.slice (some ⟨g, 0, none⟩) n cap) n xs) (off dLen dCap : Nat) (dp sp : Option Addr) (sLen sCap : Nat) (vs : List Value)
    (hn : vs.length = Nat.min sLen dLen) (hpos : 0 < vs.length → dp = some ⟨g, off, none⟩ ∧ ∃ ad, sp = some ad ∧ ∀ j v, vs[j]? = some v → w.cell? (ad.add j) = some v)
    (hfit : off + vs.length ≤ n * size) (h1 : ∀ v ∈ vs, v.oneCell' = true) :
    ∃ w', (Builtin.copy_ #[dT, sT] ty #[.slice dp dLen dCap, .slice sp sLen sCap]).run P w = .ok (goInt vs.length) w' ∧ w'.ownsRow base e size (.slice (some ⟨g, 0, none⟩) n cap) n (splice xs off vs) ∧ w.grownBy w' (some g) := by
  by_cases h0 : vs.length = 0
  · obtain rfl : vs = [] := List.eq_nil_of_length_eq_zero h0
    exact ⟨w, run_copy_none (P := P) w dT sT ty elem dp sp dLen dCap sLen sCap hu hsz (by simpa using hn.symm), by rw [splice_nil]; exact hown, gb_refl _ _⟩
  · obtain ⟨rfl, ad, rfl, hsrc⟩ := hpos (by omega)
    obtain ⟨hl, ⟨h', _⟩ | ⟨g', cap', cur, h', hb, hg, hnc, hcm, hcs, htake⟩⟩ := id hown
    · simp at h'
    · simp only [Value.slice.injEq, Option.some.injEq, Addr.mk.injEq, and_true, true_and] at h'
      obtain ⟨rfl, rfl⟩ := h'
      have hm : n * size ≤ cur.toList.length := by simp; rw [hcs]; exact Nat.mul_le_mul_right _ hnc
      have hsz' : cur.toList.length = cur.size := by simp
      have hrun := run_copy_row (P := P) w dT sT ty elem g off dLen dCap ad sLen sCap cur e vs hu hsz hg hn hsrc (by omega) h1
      refine ⟨_, hrun, ⟨?_, .inr ⟨g, cap, _, rfl, hb, setRow_heap w g _ _ e _ hg, hnc, hcm, ?_, ?_⟩⟩, ⟨rfl, rfl, rfl, by simp [World.setRow], fun k hk hne => setRow_other w g k _ (fun ee => hne (by rw [ee]))⟩⟩
      · rw [length_splice _ _ _ (by omega)]; exact hl
      · simp; omega
      · rw [← htake]; exact splice_take _ _ _ _ hfit hm
theorem wpList_copyO {P : Program} {w : World} {ops : Array Oper} {rest : List Oper} {o : Oper} {a : Act} {Q : Exit → Act → World → Prop} (hgd : o.guard = none) (d s : Operand) (dT sT : TypeId)
    (ho : o.op = .call { callee := .builtin .copy, args := #[d, s], argTypes := #[dT, sT] }) (elem : TypeId) (hu : P.underlying dT = some (.slice elem)) (hsz : (P.info? elem).map (·.size) = some 1)
    (dp sp : Option Addr) (dLen dCap sLen sCap : Nat) (hd : a.eval d = .slice dp dLen dCap) (hs : a.eval s = .slice sp sLen sCap)
    {base : Nat} {e : TypeId} {size n cap g : Nat} {xs : List Value} (hown : w.ownsRow base e size (.slice (some ⟨g, 0, none⟩) n cap) n xs) (off : Nat) (vs : List Value)
    (hn : vs.length = Nat.min sLen dLen) (hpos : 0 < vs.length → dp = some ⟨g, off, none⟩ ∧ ∃ ad, sp = some ad ∧ ∀ j v, vs[j]? = some v → w.cell? (ad.add j) = some v)
    (hfit : off + vs.length ≤ n * size) (h1 : ∀ v ∈ vs, v.oneCell' = true)
    (h : ∀ w', w'.ownsRow base e size (.slice (some ⟨g, 0, none⟩) n cap) n (splice xs off vs) → w.grownBy w' (some g) → wpList P ops Q rest (a.put o.dst (goInt vs.length)) w') : wpList P ops Q (o :: rest) a w := by
  refine wpList_plain hgd fun K hK => ?_
  obtain ⟨w', hrun, r1, r2⟩ := run_copyO (P := P) w dT sT o.type elem hu hsz hown off dLen dCap dp sp sLen sCap vs hn hpos hfit h1
  unfold Oper.wp
  simp [execOp, ho, resolve, invoke, builtin, hd, hs, hrun, Result.andThen]
  exact hK _ _ (h w' r1 r2)
theorem step_copyO {P : Program} {w : World} {ops : Array Oper} {o : Oper} {a : Act} {K : Act → World → Prop} {Q : Exit → Act → World → Prop} {E : Prop} (hgd : o.guard = none) (d s : Operand) (dT sT : TypeId)
    (ho : o.op = .call { callee := .builtin .copy, args := #[d, s], argTypes := #[dT, sT] }) (elem : TypeId) (hu : P.underlying dT = some (.slice elem)) (hsz : (P.info? elem).map (·.size) = some 1)
    (dp sp : Option Addr) (dLen dCap sLen sCap : Nat) (hd : a.eval d = .slice dp dLen dCap) (hs : a.eval s = .slice sp sLen sCap)
    {base : Nat} {e : TypeId} {size n cap g : Nat} {xs : List Value} (hown : w.ownsRow base e size (.slice (some ⟨g, 0, none⟩) n cap) n xs) (off : Nat) (vs : List Value)
    (hn : vs.length = Nat.min sLen dLen) (hpos : 0 < vs.length → dp = some ⟨g, off, none⟩ ∧ ∃ ad, sp = some ad ∧ ∀ j v, vs[j]? = some v → w.cell? (ad.add j) = some v)
    (hfit : off + vs.length ≤ n * size) (h1 : ∀ v ∈ vs, v.oneCell' = true)
    (h : ∀ w', w'.ownsRow base e size (.slice (some ⟨g, 0, none⟩) n cap) n (splice xs off vs) → w.grownBy w' (some g) → K (a.put o.dst (goInt vs.length)) w') :
    if Region.wanted o (yielded ops a.tmps) = true then Oper.wp P o a w K Q else E := by
  have hw : Region.wanted o (yielded ops a.tmps) = true := by simp [Region.wanted, hgd]
  rw [if_pos hw]
  obtain ⟨w', hrun, r1, r2⟩ := run_copyO (P := P) w dT sT o.type elem hu hsz hown off dLen dCap dp sp sLen sCap vs hn hpos hfit h1
  unfold Oper.wp
  simp [execOp, ho, resolve, invoke, builtin, hd, hs, hrun, Result.andThen]
  exact h w' r1 r2

theorem SeesI.cut3 {w : World} {ao : Option Addr} {n cap : Nat} {xs : List Int} (h : SeesI w (.slice ao n cap) xs) {m : Nat} (hm : m ≤ xs.length) : SeesI w (.slice ao m m) (xs.take m) := by
  have h1 := h.take hm
  obtain ⟨ao', cap', e, hc, hk⟩ := h1
  injection e with e1 e2 e3
  subst e1
  refine ⟨ao, m, by rw [← e2], ⟨by rw [← e2]; exact Nat.le_refl _, fun e0 => ?_⟩, hk⟩
  subst e0
  have := (Row.of_none h).1
  have := h.le.2
  omega
theorem SeesI.seg {w : World} {ao : Option Addr} {n cap : Nat} {xs : List Int} (h : SeesI w (.slice ao n cap) xs) {lo hi : Nat} (h1 : lo ≤ hi) (h2 : hi ≤ xs.length) : SeesI w (.slice (if hi = lo then ao else ao.map (·.add lo)) (hi - lo) (hi - lo)) ((xs.drop lo).take (hi - lo)) := by
  have hc := h.le.1
  by_cases e : hi = lo
  · subst e
    rw [if_pos rfl, Nat.sub_self, List.take_zero]
    exact ⟨ao, 0, rfl, ⟨Nat.le_refl _, fun _ => rfl⟩, fun k u hu => by simp at hu⟩
  · have hd := h.drop (k := lo) (by omega)
    rw [if_neg (by omega)] at hd
    rw [if_neg e]
    exact hd.cut3 (m := hi - lo) (by rw [List.length_drop]; omega)
theorem sees_src {w : World} {ao : Option Addr} {n cap : Nat} {xs : List Int} (h : SeesI w (.slice ao n cap) xs) (hp : 0 < (xs.map vw).length) : ∃ ad, ao = some ad ∧ ∀ j v, (xs.map vw)[j]? = some v → w.cell? (ad.add j) = some v := by
  obtain ⟨ad, e, _, _⟩ := Row.at h (k := 0) (List.getElem?_eq_getElem hp)
  subst e
  exact ⟨ad, rfl, seesI_cells h⟩
end Go.Proofs.Ytbhgffbmeaomkaa.Gr
