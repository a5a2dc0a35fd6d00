/-
  The contracts of sum.Open and of the document's.
-/
import Derived.Test.YtnkghcbjokmooaaDoorCU
import Derived.Laws.StructEq
namespace Go.Proofs.YtnkghcbjokmooaaDoor.Gr
open Go.RowKit Qm

/-- arrays of numbers, each in one cell, place by place -/
theorem equalIn_row {P : Program} (k : IntKind) (w : World) (d : Nat) (t e : TypeId) (n : Nat) (ht : P.underlying t = some (.array n e)) (he : P.underlying e = some (.int k)) (hsz : ∀ w, (sizeOf e).run P w = .ok 1 w)
    (xs ys : List Int) (hx : xs.length = n) (hy : ys.length = n) :
    (Op.equalIn (d + 2) t (.agg (xs.map (Value.int k)).toArray) (.agg (ys.map (Value.int k)).toArray)).run P w = .ok ((List.range n).all fun i => xs.getD i 0 == ys.getD i 0) w := by
  rw [List.range_eq_range', Op.equalIn]
  simp only [Sem.run_bind, run_underlying ht, Result.andThen_ok, hsz, Std.Legacy.Range.forIn_eq_forIn_range', Std.Legacy.Range.size, Nat.sub_zero, Nat.add_sub_cancel, Nat.div_one]
  have hl : ∀ i ∈ List.range' 0 n 1, i < n := fun i hi => by simpa using (List.mem_range'_1.1 hi).2
  generalize List.range' 0 n 1 = l at hl ⊢
  induction l with
  | nil => simp
  | cons i l ih =>
    have hi : i < n := hl i (by simp)
    have px : (part e (xs.map (Value.int k)).toArray (i * 1)).run P w = .ok (.int k (xs.getD i 0)) w := by
      simp [part, isAgg, run_underlying he, List.getD, List.getElem?_eq_getElem (show i < xs.length by omega)]
    have py : (part e (ys.map (Value.int k)).toArray (i * 1)).run P w = .ok (.int k (ys.getD i 0)) w := by
      simp [part, isAgg, run_underlying he, List.getD, List.getElem?_eq_getElem (show i < ys.length by omega)]
    have pe : (Op.equalIn (d + 1) e (.int k (xs.getD i 0)) (.int k (ys.getD i 0))).run P w = .ok (xs.getD i 0 == ys.getD i 0) w := run_equalIn_int w d e k k _ _ he
    simp only [List.forIn_cons, Sem.run_bind, px, py, pe, Result.andThen_ok, List.all_cons]
    cases hb : (xs.getD i 0 == ys.getD i 0)
    · simp
    · simp only [Bool.not_true, Bool.false_eq_true, if_false, Sem.run_pure, Result.andThen_ok, Bool.true_and]
      exact ih fun j hj => hl j (by simp [hj])
theorem size5 (w : World) : (sizeOf 5).run Tryd.prog w = .ok 1 w := by kernel_rfl
theorem guard38 : Tryd.prog.eqGuardType Tryd.prog.depth 54 = false := by kernel_rfl
theorem eq_iff_all {n : Nat} {xs ys : List (BitVec 8)} (hx : xs.length = n) (hy : ys.length = n) : ((List.range n).all fun i => (xs.map iv).getD i 0 == (ys.map iv).getD i 0) = decide (xs = ys) := by
  rw [Bool.eq_iff_iff, List.all_eq_true, decide_eq_true_iff]
  constructor
  · intro h
    refine eq_of_get (by omega) fun k hk => ?_
    have := h k (by simp; omega)
    simp only [beq_iff_eq, List.getD_eq_getElem?_getD, List.getElem?_map] at this
    rw [List.getElem?_eq_getElem hk, List.getElem?_eq_getElem (by omega)] at this
    rw [List.getD_eq_getElem?_getD, List.getD_eq_getElem?_getD, List.getElem?_eq_getElem hk, List.getElem?_eq_getElem (by omega)]
    exact iv_inj this
  · rintro rfl i _
    simp
theorem map_vb (xs : List (BitVec 8)) : xs.map vb = (xs.map iv).map (Value.int .u8) := by rw [List.map_map]; rfl
theorem run_eq38 (w : World) (xs ys : List (BitVec 8)) (hx : xs.length = 4) (hy : ys.length = 4) :
    (Op.equalIn 10000 54 (.agg (xs.map vb).toArray) (.agg (ys.map vb).toArray)).run Tryd.prog w = .ok (decide (xs = ys)) w := by
  rw [map_vb, map_vb]
  have := equalIn_row .u8 w 9998 54 5 4 und38 under5 size5 (xs.map iv) (ys.map iv) (by simpa using hx) (by simpa using hy)
  rw [eq_iff_all hx hy] at this
  exact this

namespace Qm
/-- what is opened, and what is told -/
def openS (bs : List (BitVec 8)) : List (BitVec 8) := if okS bs then bs.take (bs.length - 4) else []
def openE (bs : List (BitVec 8)) : Int := if bs.length < 4 then 4 else if okS bs then 0 else 3
theorem ok_seal {bs : List (BitVec 8)} (h : 4 ≤ bs.length) : decide (sealS (bs.take (bs.length - 4)) = bs) = okS bs := by
  unfold okS sealS
  rw [decide_eq_true h, Bool.true_and]
  congr 1
  apply propext
  constructor
  · intro e
    have : (List.take (bs.length - 4) bs ++ laidS (ofS (List.take (bs.length - 4) bs))).drop (bs.length - 4) = bs.drop (bs.length - 4) := by rw [e]
    rw [List.drop_append_of_le_length (by rw [List.length_take]; omega), List.drop_take, Nat.sub_self, List.take_zero, List.nil_append] at this
    exact this.symm
  · intro e
    rw [← e, List.take_append_drop]
theorem ok_short {bs : List (BitVec 8)} (h : bs.length < 4) : okS bs = false := by
  unfold okS; rw [decide_eq_false (by omega), Bool.false_and]
end Qm

set_option maxRecDepth 20000 in
set_option maxHeartbeats 800000 in
theorem ropen_any (v : Value) (bs : List (BitVec 8)) (hn : bs.length ≤ 3500) (w : World) (hs : SeesB w v bs) :
    Calls Tryd.prog 33 #[v] w fun e b => ∃ v', e = .returned (.tuple #[v', .int .i64 (openE bs)]) ∧ SeesB b v' (openS bs) ∧ Below w.heap.size w b := by
  obtain ⟨ao, cap, rfl⟩ := hs.slice
  have hcap := hs.le.1
  obtain ⟨n, hn'⟩ : ∃ n, bs.length = n := ⟨_, rfl⟩
  by_cases h4 : bs.length < 4
  · have e1 : openE bs = 4 := by unfold openE; rw [if_pos h4]
    have e2 : openS bs = [] := by unfold openS; rw [ok_short h4]; rfl
    rw [e1, e2]
    rw [hn'] at h4 ⊢
    go_enter Tryd.func33, Tryd.ntmps33
    go_wp2
    go_ret2
    exact ⟨_, rfl, Row.nil w, Below.refl _ _⟩
  · have h4' : 4 ≤ bs.length := by omega
    obtain ⟨m, rfl⟩ : ∃ m, n = m + 4 := ⟨n - 4, by omega⟩
    have hm : bs.length - 4 = m := by omega
    have HT := hs.take' (m := m) (by omega)
    have hlT : (bs.take m).length = m := by rw [List.length_take]; omega
    have hlT' : Hid ((bs.take m).length = m) := hlT
    have hk := ok_seal h4'
    rw [hm] at hk
    have hE : openE bs = if okS bs then 0 else 3 := by unfold openE; rw [if_neg h4]
    have hS : openS bs = if okS bs then bs.take m else [] := by unfold openS; rw [hm]
    rw [hE, hS]
    have h00 := own_nil8 w w.heap.size rfl
    have hT1 := HT.below (box_below w (.cells #[] 5))
    have hlen : bs.length ≤ 8000 := by omega
    have cS := fun (u : World) v (hu : SeesB u v (bs.take m)) => rseal_any v (bs.take m) (by omega) u hu
    have cE := fun (u : World) va vb' (ha : SeesB u va (sealS (bs.take m))) (hb : SeesB u vb' bs) => rsame_any va vb' (sealS (bs.take m)) bs u (by rw [sealS_len]; omega) hlen ha hb
    rw [hk] at cE
    have HO : Hid (∀ (b : World) (v' : Value), b.ownsRow w.heap.size 5 1 v' (0 + (bs.take m).length) ([] ++ (bs.take m).map vb) → SeesB b v' (bs.take m)) := fun b v' h => Row.own (by simpa using h)
    rw [hn'] at hs ⊢
    generalize sealS (bs.take m) = Z at cS cE
    generalize okS bs = E at cE ⊢
    have HN : Hid (bs.length = m + 4) := hn'
    have hmm : m ≤ 3500 := by omega
    have hmc : m + 4 ≤ cap := by omega
    clear hn' hk hE hS HT hm hlT
    obtain ⟨T, hTT⟩ : ∃ T, bs.take m = T := ⟨_, rfl⟩
    rw [hTT] at hT1 cS HO hlT' ⊢
    clear hTT
    have hw : wrap64 (m : Int) = (m : Int) := by unfold wrap64; omega
    have hd : decide ((m : Int) + 4 < 4) = false := by simp; omega
    cases E
    all_goals
      go_enter Tryd.func33, Tryd.ntmps33
      go_wp2_with (first
        | (at_builtin; refine app8 rfl _ _ rfl w.heap.size _ 0 [] rfl h00 (box_below w _).size _ T rfl hT1 (by rw [hlT'.out]; omega) ?_; intro v2 w2 hown2 hg2; have hb2 : Below w.heap.size w w2 := (box_below w _).grown hg2 (box_below w _).size (fun m e => by cases e; exact Nat.le_refl _); have hs2 := HO.out w2 v2 hown2)
        | (go_at_call 29; refine (cS _ _ hs2).mono ?_; rintro e w3 ⟨v3, rfl, hs3, b3⟩)
        | (go_at_call 15; refine (cE _ _ _ hs3 (hs.below (bt hb2 b3))).mono ?_; rintro e w4 ⟨rfl, b4⟩))
      go_ret2
    · exact ⟨_, rfl, Row.nil _, bt (bt hb2 b3) b4⟩
    · exact ⟨_, rfl, hs2.below (bt b3 b4), bt (bt hb2 b3) b4⟩
end Go.Proofs.YtnkghcbjokmooaaDoor.Gr
