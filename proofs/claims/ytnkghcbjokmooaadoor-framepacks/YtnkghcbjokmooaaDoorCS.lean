/-
  The contracts of sum.Seal and sum.Open, of what they call of Go's own library, and of the document's.
-/
import Derived.Test.YtnkghcbjokmooaaDoorCT
import Derived.Lib.AppendZerosOnto
import Derived.Deep.QuietTactic
import Derived.BigQuiet
import Derived.Lib.QuietBelow
import Derived.Deep.DeepMust
import Derived.Laws.Cover3
namespace Go.Proofs.YtnkghcbjokmooaaDoor.Gr
open Go.RowKit Qm

theorem get_ne {xs ys : List (BitVec 8)} {k : Nat} (h : xs.getD k 0#8 ≠ ys.getD k 0#8) : decide (xs = ys) = false := by
  rw [decide_eq_false_iff_not]; intro e; rw [e] at h; exact h rfl
theorem eq_of_get {xs ys : List (BitVec 8)} (h : xs.length = ys.length) (g : ∀ k, k < xs.length → xs.getD k 0#8 = ys.getD k 0#8) : xs = ys := by
  apply List.ext_getElem h
  intro k h1 h2
  have := g k h1
  rw [List.getD_eq_getElem?_getD, List.getD_eq_getElem?_getD, List.getElem?_eq_getElem h1, List.getElem?_eq_getElem h2] at this
  exact this
theorem iv_inj {n : Nat} {a b : BitVec n} (h : iv a = iv b) : a = b := by unfold iv at h; exact BitVec.eq_of_toNat_eq (by omega)

set_option maxRecDepth 20000 in
set_option maxHeartbeats 400000 in
theorem rsame_any (va vb : Value) (xs ys : List (BitVec 8)) (w : World) (hx : xs.length ≤ 8000) (hy : ys.length ≤ 8000) (sa : SeesB w va xs) (sb : SeesB w vb ys) :
    Calls Tryd.prog 15 #[va, vb] w fun e w' => e = .returned (.bool (decide (xs = ys))) ∧ Below w.heap.size w w' := by
  obtain ⟨ao, cap, rfl⟩ := sa.slice
  obtain ⟨bo, bcap, rfl⟩ := sb.slice
  obtain ⟨n, hn⟩ : ∃ n, xs.length = n := ⟨_, rfl⟩
  obtain ⟨m, hm⟩ : ∃ m, ys.length = m := ⟨_, rfl⟩
  rw [hn] at hx sa ⊢
  rw [hm] at hy sb ⊢
  by_cases hne : n = m
  · subst hne
    have HN : Hid (xs.length = n ∧ ys.length = n) := ⟨hn, hm⟩
    obtain ⟨E, hE⟩ : ∃ E, decide (xs = ys) = E := ⟨_, rfl⟩
    rw [hE]
    have HE : Hid (decide (xs = ys) = E) := hE
    clear hn hm hE
    go_enter Tryd.func15, Tryd.ntmps15
    go_wp2
    go_loopw [5] (fun i wr => ∃ k : Nat, k ≤ n ∧ i = .int .i64 k ∧ Hid (∀ j, j < k → xs.getD j 0#8 = ys.getD j 0#8) ∧ Below w.heap.size w wr) (fun i _ => n - (intOf i).toNat)
    case atStart => exact ⟨0, Nat.zero_le _, rfl, fun j hj => absurd hj (Nat.not_lt_zero _), Below.refl _ _⟩
    case round =>
      obtain ⟨k, hk, rfl, hno, hbl⟩ := hrel
      by_cases hlt : k < n
      · obtain ⟨ad, rfl, la, ca⟩ := sa.at k (by rw [HN.out.1]; exact hlt)
        obtain ⟨bd, rfl, lb, cb⟩ := sb.at k (by rw [HN.out.2]; exact hlt)
        have ca' : wr.cell? (ad.add k) = _ := (hbl.cell (by rw [add_block]; exact la)).trans ca
        have cb' : wr.cell? (bd.add k) = _ := (hbl.cell (by rw [add_block]; exact lb)).trans cb
        clear ca cb
        by_cases he : xs.getD k 0#8 = ys.getD k 0#8
        · have HX : Hid (xs.getD k 0#8 = ys.getD k 0#8) := he
          rw [he] at ca'
          generalize ys.getD k 0#8 = x at ca' cb'
          unfold vb at ca' cb'
          generalize iv x = X at ca' cb'
          clear he
          go_wp2
          go_quiet (fail)
          go_wp2
          go_roundw
          case rel =>
            refine ⟨k + 1, by omega, by go_num, ?_, Below.trans hbl (below_drewN (Below.refl _ _) _)⟩
            intro j hj
            by_cases e : j = k
            · subst e; exact HX.out
            · exact hno.out j (by omega)
          case measure => simp [intOf]; omega
        · have HX : Hid (decide (xs = ys) = false) := get_ne he
          have he2 : ¬ (iv (xs.getD k 0#8) = iv (ys.getD k 0#8)) := fun e => he (iv_inj e)
          clear he
          unfold vb at ca' cb'
          generalize iv (xs.getD k 0#8) = X at ca' he2
          generalize iv (ys.getD k 0#8) = Y at cb' he2
          go_wp2
          go_quiet (fail)
          go_wp2
          go_ret
          exact ⟨by rw [← HE.out, HX.out]; rfl, Below.trans hbl (below_drewN (Below.refl _ _) _)⟩
      · have e : k = n := by omega
        subst e
        go_wp2
        go_ret
        refine ⟨?_, hbl⟩
        rw [← HE.out, decide_eq_true (eq_of_get (by rw [HN.out.1, HN.out.2]) (by rw [HN.out.1]; exact hno.out))]
        rfl
  · have hE : decide (xs = ys) = false := by rw [decide_eq_false_iff_not]; intro e; rw [e] at hn; omega
    rw [hE]
    clear hE hn hm
    have e1 : ¬ ((n : Int) = (m : Int)) := by omega
    go_enter Tryd.func15, Tryd.ntmps15
    go_wp2
    go_ret
    exact ⟨rfl, Below.refl _ _⟩

theorem bs_one (bs : List (BitVec 8)) : ∀ u ∈ bs.map vb, u.oneCell' = true := by
  intro u hu
  obtain ⟨x, _, rfl⟩ := List.mem_map.1 hu
  rfl
theorem sees_cells {w : World} {ad : Addr} {n cap : Nat} {bs : List (BitVec 8)} (h : SeesB w (.slice (some ad) n cap) bs) : ∀ (j : Nat) (u : Value), (bs.map vb)[j]? = some u → w.cell? (ad.add j) = some u := by
  intro j u hj
  obtain ⟨ad', e, _, hc⟩ := Row.at h hj
  cases e
  exact hc
theorem run_nil23 (a : Option Addr) (l c : Nat) (w : World) : Sem.run Tryd.prog (binOp BinOp.eql 25 (.slice a l c) (.slice none 0 0)) w = .ok (.bool a.isNone) w := by
  have h := run_equal_slice_nil (P := Tryd.prog) (w := w) 25 5 a l c under23
  simp [binOp, go_sem, h]

set_option maxRecDepth 20000 in
set_option maxHeartbeats 400000 in
theorem clone_any (ad : Addr) (n cap : Nat) (bs : List (BitVec 8)) (hn : bs.length ≤ 8000) (w : World) (hs : SeesB w (.slice (some ad) n cap) bs) :
    Calls Tryd.prog 43 #[.slice (some ad) n cap] w fun e b => ∃ v', e = .returned v' ∧ SeesB b v' bs ∧ Below w.heap.size w b := by
  obtain ⟨i0, hi, hz0, hz1, hz2⟩ := info_parts info5
  have hv := fun o => sees_cells (hs.below (box_below w o))
  have HE : Hid (∀ (b : World) (v : Value), b.ownsRow w.heap.size 5 1 v bs.length (bs.map vb) → SeesB b v bs) := fun b v h => Row.own h
  have hl : (bs.map vb).length = bs.length := by simp
  have ho := bs_one bs
  obtain rfl : n = bs.length := hs.le.2
  generalize bs.map vb = vals at hv hl HE ho
  generalize bs.length = n at hn hl hs HE hv ⊢
  have HL : Hid (vals.length = n * 1) := by rw [Nat.mul_one]; exact hl
  have hnil := fun v => run_nil23 (some ad) n cap v
  have h0 : (w.alloc (.cells #[] 5)).ownsRow w.heap.size 5 1 (.slice (some ⟨w.heap.size, 0, none⟩) 0 0) 0 [] := ⟨rfl, .inr ⟨_, 0, #[], rfl, Nat.le_refl _, heap_new _ _, Nat.le_refl _, Nat.zero_le _, rfl, rfl⟩⟩
  clear hl
  go_enter Tryd.func43, Tryd.ntmps43
  go_wp2_with (at_builtin; go_must (refine wpList_append_own _ rfl _ _ 25 rfl w.heap.size 5 i0 (.int .u8 0) 1 1 under23 hi hz0 hz1 hz2 rfl (by decide) _ _ _ rfl h0 ad n cap vals rfl HL.out (hv _) ho (by unfold maxLen; omega) (by omega) (by simp) ?_); intro v2 w2 hown2 hg2 hnil2)
  have b2 : Below w.heap.size w w2 := (box_below w _).trans (((Below.refl _ _)).grown hg2 (by simp) (fun m e => by cases e; exact Nat.le_refl _))
  have h3 := HE.out w2 v2 (by simpa using hown2)
  clear hown2 hg2 hnil2
  go_wp2
  go_ret
  exact ⟨_, rfl, h3, b2⟩
end Go.Proofs.YtnkghcbjokmooaaDoor.Gr
