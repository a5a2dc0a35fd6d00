/-
  Rows of words: what is appended to them, made, compared, cut.
-/
import Derived.Test.YtbhgffbmeaomkaaGR
import Derived.StillTailTactics
import Derived.Deep.QuietTactic
import Derived.BigQuiet
import Derived.Lib.QuietBelow
import Derived.Deep.DeepMust
import Derived.Laws.Cover3
import Derived.Laws.BitsAllLaws
import Derived.Deep.RegionLaw
import Derived.Laws.CopyOwn
import Derived.RangeFuncBox
namespace Go.Proofs.Ytbhgffbmeaomkaa.Gr
open Go.RowKit Go.Sort

theorem cell_of_tab {w : World} {g : Nat} {cs : Array Value} {t : TypeId} (h : w.heap[g]? = some (.cells cs t (0, 0))) (k : Nat) : w.cell? ⟨g, k, none⟩ = cs[k]? := cell_of_row w g k cs t (0, 0) h

theorem add_add (ad : Addr) (k j : Nat) : (ad.add k).add j = ad.add (k + j) := by
  unfold Addr.add
  by_cases hk : k = 0 <;> by_cases hj : j = 0 <;> simp [hk, hj, Nat.add_assoc]
/-- a word -/
abbrev vw (x : Int) : Value := .int .i64 x
/-- what a slice of words shows -/
def SeesI (w : World) (v : Value) (xs : List Int) : Prop := Row w v (xs.map vw)
section
variable {w w' : World} {v : Value} {xs : List Int}
theorem SeesI.below (h : SeesI w v xs) (hb : Below w.heap.size w w') : SeesI w' v xs := Row.below h hb
theorem SeesI.slice (h : SeesI w v xs) : ∃ ao cap, v = .slice ao xs.length cap := by
  obtain ⟨ao, cap, e⟩ := Row.slice h
  exact ⟨ao, cap, by rw [e, List.length_map]⟩
theorem SeesI.le {ao : Option Addr} {n cap : Nat} (h : SeesI w (.slice ao n cap) xs) : xs.length ≤ cap ∧ n = xs.length := by
  have := Row.le h
  rwa [List.length_map] at this
theorem SeesI.at {ao : Option Addr} {n cap : Nat} (h : SeesI w (.slice ao n cap) xs) (k : Nat) (hk : k < xs.length) : ∃ ad, ao = some ad ∧ ad.block < w.heap.size ∧ w.cell? (ad.add k) = some (vw (xs.getD k 0)) :=
  Row.at h (by rw [List.getElem?_map, List.getD_eq_getElem?_getD, List.getElem?_eq_getElem hk]; rfl)
end
theorem ws_one (xs : List Int) : ∀ u ∈ xs.map vw, u.oneCell' = true := by
  intro u hu
  obtain ⟨x, _, rfl⟩ := List.mem_map.1 hu
  rfl
theorem seesI_cells {w : World} {ad : Addr} {n cap : Nat} {xs : List Int} (h : SeesI w (.slice (some ad) n cap) xs) : ∀ (j : Nat) (u : Value), (xs.map vw)[j]? = some u → w.cell? (ad.add j) = some u := by
  intro j u hj
  obtain ⟨ad', e, _, hc⟩ := Row.at h hj
  cases e
  exact hc
theorem getI_ne {xs ys : List Int} {k : Nat} (h : xs.getD k 0 ≠ ys.getD k 0) : decide (xs = ys) = false := by
  rw [decide_eq_false_iff_not]; intro e; rw [e] at h; exact h rfl
theorem eqI_of_get {xs ys : List Int} (h : xs.length = ys.length) (g : ∀ k, k < xs.length → xs.getD k 0 = ys.getD k 0) : xs = ys := by
  apply List.ext_getElem h
  intro k h1 h2
  have := g k h1
  rw [List.getD_eq_getElem?_getD, List.getD_eq_getElem?_getD, List.getElem?_eq_getElem h1, List.getElem?_eq_getElem h2] at this
  exact this
theorem under22 : Try.prog.underlying 22 = some (.slice 2) := by kernel_rfl
theorem under2 : Try.prog.underlying 2 = some (.int .i64) := by kernel_rfl
theorem info2 : (Try.prog.info? 2).map (fun i => (i.zero, i.size, i.bytes)) = some (some (.int .i64 0), 1, 8) := by kernel_rfl
theorem cells2 : Try.prog.cellsOf 2 = 1 := by kernel_rfl

/-- 'append' of a row of words, whatever it is, to a row that the call made -/
theorem app64 {ops : Array Oper} {rest : List Oper} {o : Oper} {a : Act} {Q : Exit → Act → World → Prop} {w : World} (hg : o.guard = none) (s x : Operand)
    (hop : o.op = Op.call { callee := Callee.builtin Builtin.append, args := #[s, x], argTypes := #[22, 22] }) (base : Nat) (v : Value) (n : Nat) (xs : List Value)
    (hs : a.eval s = v) (hown : w.ownsRow base 2 1 v n xs) (hb : base ≤ w.heap.size) (vx : Value) (zs : List Int) (hx : a.eval x = vx) (sx : SeesI w vx zs) (hl : n + zs.length ≤ 100000)
    (hK : ∀ v' w', w'.ownsRow base 2 1 v' (n + zs.length) (xs ++ zs.map vw) → w.grownBy w' v.ownBlock → wpList Try.prog ops Q rest (a.put o.dst v') w') : wpList Try.prog ops Q (o :: rest) a w := by
  obtain ⟨i0, hi, hz0, hz1, hz2⟩ := info_parts info2
  obtain ⟨ao, cap, rfl⟩ := sx.slice
  cases ao with
  | some ad => exact wpList_append_own _ hg _ _ 22 hop base 2 i0 (.int .i64 0) 1 8 under22 hi hz0 hz1 hz2 rfl (by decide) _ _ _ hs hown ad zs.length cap (zs.map vw) hx (by simp) (seesI_cells sx) (ws_one zs) (by unfold maxLen; omega) (by omega) hb (fun v' w' h1 h2 _ => hK v' w' h1 h2)
  | none =>
    have h0 : zs.length = 0 := by have := (Row.of_none sx).1; simpa using this
    have hc0 : cap = 0 := (Row.of_none sx).2
    obtain rfl : zs = [] := List.eq_nil_of_length_eq_zero h0
    subst hc0
    refine wpList_plain hg fun K hK' => ?_
    have hrun := run_append_owned_none (P := Try.prog) w base 22 o.type 2 i0 1 under22 hi _ n xs hown
    unfold Oper.wp
    simp [execOp, hop, resolve, invoke, builtin, hs, hx, hrun, Result.andThen]
    exact hK' _ _ (hK v w (by simpa using hown) (gb_refl _ _))
theorem one64 (w : World) (x : Int) : SeesI (w.alloc (.cells #[.int .i64 x] 2)) (.slice (some ⟨w.heap.size, 0, none⟩) 1 1) [x] := by
  refine ⟨some ⟨w.heap.size, 0, none⟩, 1, rfl, ⟨Nat.le_refl _, fun e => by cases e⟩, fun k u hu => ⟨_, rfl, by simp, ?_⟩⟩
  have hk : k = 0 := by have := (List.getElem?_eq_some_iff.1 hu).1; simp at this; omega
  subst hk
  have ha : (⟨w.heap.size, 0, none⟩ : Addr).add 0 = ⟨w.heap.size, 0, none⟩ := by unfold Addr.add; split <;> simp_all
  rw [ha, cell_of_tab (heap_new w _)]
  simpa using hu

set_option maxRecDepth 20000 in
set_option maxHeartbeats 400000 in
theorem ints_any (va vb' : Value) (xs ys : List Int) (w : World) (hx : xs.length ≤ 100000) (hy : ys.length ≤ 140737488351232) (sa : SeesI w va xs) (sb : SeesI w vb' ys) :
    Calls Try.prog 21 #[va, vb'] w fun e w' => e = .returned (.bool (decide (xs = ys))) ∧ Below w.heap.size w w' := by
  obtain ⟨ao, cap, rfl⟩ := sa.slice
  obtain ⟨bo, bcap, rfl⟩ := sb.slice
  obtain ⟨n, hn⟩ : ∃ n, xs.length = n := ⟨_, rfl⟩
  obtain ⟨m, hm⟩ : ∃ m, ys.length = m := ⟨_, rfl⟩
  rw [hn] at hx sa ⊢
  rw [hm] at hy sb ⊢
  by_cases hne : n = m
  · subst hne
    have HN : Hid (xs.length = n ∧ ys.length = n) := ⟨hn, hm⟩
    obtain ⟨E, hE⟩ : ∃ E, decide (xs = ys) = E := ⟨_, rfl⟩
    rw [hE]
    have HE : Hid (decide (xs = ys) = E) := hE
    clear hn hm hE
    go_enter Try.func21, Try.ntmps21
    go_wp2
    go_loopw [5] (fun i wr => ∃ k : Nat, k ≤ n ∧ i = .int .i64 k ∧ Hid (∀ j, j < k → xs.getD j 0 = ys.getD j 0) ∧ Below w.heap.size w wr) (fun i _ => n - (intOf i).toNat)
    case atStart => exact ⟨0, Nat.zero_le _, rfl, fun j hj => absurd hj (Nat.not_lt_zero _), Below.refl _ _⟩
    case round =>
      obtain ⟨k, hk, rfl, hno, hbl⟩ := hrel
      by_cases hlt : k < n
      · obtain ⟨ad, rfl, la, ca⟩ := sa.at k (by rw [HN.out.1]; exact hlt)
        obtain ⟨bd, rfl, lb, cb⟩ := sb.at k (by rw [HN.out.2]; exact hlt)
        have ca' : wr.cell? (ad.add k) = _ := (hbl.cell (by rw [add_block]; exact la)).trans ca
        have cb' : wr.cell? (bd.add k) = _ := (hbl.cell (by rw [add_block]; exact lb)).trans cb
        clear ca cb
        by_cases he : xs.getD k 0 = ys.getD k 0
        · have HX : Hid (xs.getD k 0 = ys.getD k 0) := he
          rw [he] at ca'
          generalize ys.getD k 0 = x at ca' cb'
          clear he
          go_wp2
          go_quiet (fail)
          go_wp2
          go_roundw
          case rel =>
            refine ⟨k + 1, by omega, by go_num, ?_, Below.trans hbl (below_drewN (Below.refl _ _) _)⟩
            intro j hj
            by_cases e : j = k
            · subst e; exact HX.out
            · exact hno.out j (by omega)
          case measure => simp [intOf]; omega
        · have HX : Hid (decide (xs = ys) = false) := getI_ne he
          generalize xs.getD k 0 = X at ca' he
          generalize ys.getD k 0 = Y at cb' he
          go_wp2
          go_quiet (fail)
          go_wp2
          go_ret
          exact ⟨by rw [← HE.out, HX.out]; rfl, Below.trans hbl (below_drewN (Below.refl _ _) _)⟩
      · have e : k = n := by omega
        subst e
        go_wp2
        go_ret
        refine ⟨?_, hbl⟩
        rw [← HE.out, decide_eq_true (eqI_of_get (by rw [HN.out.1, HN.out.2]) (by rw [HN.out.1]; exact hno.out))]
        rfl
  · have hE : decide (xs = ys) = false := by rw [decide_eq_false_iff_not]; intro e; rw [e] at hn; omega
    rw [hE]
    clear hE hn hm
    have e1 : ¬ ((n : Int) = (m : Int)) := by omega
    go_enter Try.func21, Try.ntmps21
    go_wp2
    go_ret
    exact ⟨rfl, Below.refl _ _⟩

set_option maxRecDepth 20000 in
set_option maxHeartbeats 400000 in
theorem equal_any (va vb' : Value) (xs ys : List Int) (w : World) (hx : xs.length ≤ 100000) (hy : ys.length ≤ 140737488351232) (sa : SeesI w va xs) (sb : SeesI w vb' ys) :
    Calls Try.prog 26 #[va, vb'] w fun e w' => e = .returned (.bool (decide (xs = ys))) ∧ Below w.heap.size w w' := by
  obtain ⟨ao, cap, rfl⟩ := sa.slice
  obtain ⟨bo, bcap, rfl⟩ := sb.slice
  obtain ⟨n, hn⟩ : ∃ n, xs.length = n := ⟨_, rfl⟩
  obtain ⟨m, hm⟩ : ∃ m, ys.length = m := ⟨_, rfl⟩
  rw [hn] at hx sa ⊢
  rw [hm] at hy sb ⊢
  by_cases hne : n = m
  · subst hne
    have HN : Hid (xs.length = n ∧ ys.length = n) := ⟨hn, hm⟩
    obtain ⟨E, hE⟩ : ∃ E, decide (xs = ys) = E := ⟨_, rfl⟩
    rw [hE]
    have HE : Hid (decide (xs = ys) = E) := hE
    clear hn hm hE
    go_enter Try.func26, Try.ntmps26
    go_wp2
    go_loopw [13] (fun i wr => ∃ k : Nat, k ≤ n ∧ i = .int .i64 k ∧ Hid (∀ j, j < k → xs.getD j 0 = ys.getD j 0) ∧ Below w.heap.size w wr) (fun i _ => n - (intOf i).toNat)
    case atStart => exact ⟨0, Nat.zero_le _, rfl, fun j hj => absurd hj (Nat.not_lt_zero _), Below.refl _ _⟩
    case round =>
      obtain ⟨k, hk, rfl, hno, hbl⟩ := hrel
      by_cases hlt : k < n
      · obtain ⟨ad, rfl, la, ca⟩ := sa.at k (by rw [HN.out.1]; exact hlt)
        obtain ⟨bd, rfl, lb, cb⟩ := sb.at k (by rw [HN.out.2]; exact hlt)
        have ca' : wr.cell? (ad.add k) = _ := (hbl.cell (by rw [add_block]; exact la)).trans ca
        have cb' : wr.cell? (bd.add k) = _ := (hbl.cell (by rw [add_block]; exact lb)).trans cb
        clear ca cb
        by_cases he : xs.getD k 0 = ys.getD k 0
        · have HX : Hid (xs.getD k 0 = ys.getD k 0) := he
          rw [he] at ca'
          generalize ys.getD k 0 = x at ca' cb'
          clear he
          go_wp2
          go_quiet (fail)
          go_wp2
          go_roundw
          case rel =>
            refine ⟨k + 1, by omega, by go_num, ?_, Below.trans hbl (below_drewN (Below.refl _ _) _)⟩
            intro j hj
            by_cases e : j = k
            · subst e; exact HX.out
            · exact hno.out j (by omega)
          case measure => simp [intOf]; omega
        · have HX : Hid (decide (xs = ys) = false) := getI_ne he
          generalize xs.getD k 0 = X at ca' he
          generalize ys.getD k 0 = Y at cb' he
          go_wp2
          go_quiet (fail)
          go_wp2
          go_ret
          exact ⟨by rw [← HE.out, HX.out]; rfl, Below.trans hbl (below_drewN (Below.refl _ _) _)⟩
      · have e : k = n := by omega
        subst e
        go_wp2
        go_ret
        refine ⟨?_, hbl⟩
        rw [← HE.out, decide_eq_true (eqI_of_get (by rw [HN.out.1, HN.out.2]) (by rw [HN.out.1]; exact hno.out))]
        rfl
  · have hE : decide (xs = ys) = false := by rw [decide_eq_false_iff_not]; intro e; rw [e] at hn; omega
    rw [hE]
    clear hE hn hm
    have e1 : ¬ ((n : Int) = (m : Int)) := by omega
    go_enter Try.func26, Try.ntmps26
    go_wp2
    go_ret
    exact ⟨rfl, Below.refl _ _⟩
theorem gb_of_drew {w w' : World} {row : Option Nat} (h : w.drew.grownBy w' row) : w.grownBy w' row := ⟨h.os, h.tape, h.output, h.size, h.block⟩
theorem SeesI.drew {w : World} {v : Value} {xs : List Int} (h : SeesI w v xs) : SeesI w.drew v xs := h
theorem step64 {ops : Array Oper} {o : Oper} {a : Act} {w : World} {K : Act → World → Prop} {Q : Exit → Act → World → Prop} {E : Prop} (hg : o.guard = none) (s x : Operand)
    (hop : o.op = Op.call { callee := Callee.builtin Builtin.append, args := #[s, x], argTypes := #[22, 22] }) (base : Nat) (v : Value) (n : Nat) (xs : List Value)
    (hs : a.eval s = v) (hown : w.ownsRow base 2 1 v n xs) (hb : base ≤ w.heap.size) (ad : Addr) (m c : Nat) (zs : List Int) (hx : a.eval x = .slice (some ad) m c) (sx : SeesI w (.slice (some ad) m c) zs) (hl : n + zs.length ≤ 100000)
    (hK : ∀ v' w', w'.ownsRow base 2 1 v' (n + zs.length) (xs ++ zs.map vw) → w.grownBy w' v.ownBlock → K (a.put o.dst v') w') :
    if Region.wanted o (yielded ops a.tmps) = true then Oper.wp Try.prog o a w K Q else E := by
  have hw : Region.wanted o (yielded ops a.tmps) = true := by simp [Region.wanted, hg]
  rw [if_pos hw]
  obtain ⟨i0, hi, hz0, hz1, hz2⟩ := info_parts info2
  obtain rfl : m = zs.length := sx.le.2
  obtain ⟨v', w', hrun, r1, r2, _⟩ := run_append_own (P := Try.prog) w base 22 o.type 2 i0 (.int .i64 0) 1 8 under22 hi hz0 hz1 hz2 rfl (by decide) v n xs hown ad zs.length c (zs.map vw) (by simp) (seesI_cells sx) (ws_one zs) (by unfold maxLen; omega) (by omega) hb
  unfold Oper.wp
  simp [execOp, hop, resolve, invoke, builtin, hs, hx, hrun, Result.andThen]
  exact hK v' w' r1 r2

theorem le_alloc {B : Nat} {w : World} (h : B ≤ w.heap.size) (o : Obj) : B ≤ (w.alloc o).heap.size := Nat.le_trans h (box_below w o).size
theorem one64' (w : World) (x : Int) (z : Nat) (h : z = w.heap.size) : SeesI (w.alloc (.cells #[.int .i64 x] 2)) (.slice (some ⟨z, 0, none⟩) 1 1) [x] := by subst h; exact one64 w x

theorem lit64 (w : World) (xs : List Int) (z n : Nat) (hz : z = w.heap.size) (hn : n = xs.length) (cs : Array Value) (hc : cs = (xs.map vw).toArray) : SeesI (w.alloc (.cells cs 2)) (.slice (some ⟨z, 0, none⟩) n n) xs := by
  subst hz; subst hn; subst hc
  refine ⟨some ⟨w.heap.size, 0, none⟩, xs.length, by rw [List.length_map], ⟨by rw [List.length_map]; exact Nat.le_refl _, fun e => by cases e⟩, fun k u hu => ⟨_, rfl, by simp, ?_⟩⟩
  have ha : (⟨w.heap.size, 0, none⟩ : Addr).add k = ⟨w.heap.size, k, none⟩ := by unfold Addr.add; split <;> simp_all
  rw [ha, cell_of_tab (heap_new w _)]
  simpa using hu
theorem own_any {W : World} {base : Nat} {e : TypeId} {size : Nat} {v : Value} {k : Nat} {xs : List Value} (h : W.ownsRow base e size v k xs) : ∃ ao cap, v = .slice ao k cap := by
  rcases h.2 with ⟨rfl, h0⟩ | ⟨g, cap, _, rfl, _⟩
  · subst h0; exact ⟨_, _, rfl⟩
  · exact ⟨_, cap, rfl⟩
theorem own_slice {W : World} {base : Nat} {e : TypeId} {size : Nat} {v : Value} {k : Nat} {xs : List Value} (h : W.ownsRow base e size v k xs) (hk : 0 < k) : ∃ g cap, v = .slice (some ⟨g, 0, none⟩) k cap := by
  rcases h.2 with ⟨_, h0⟩ | ⟨g, cap, _, rfl, _⟩
  · omega
  · exact ⟨g, cap, rfl⟩
theorem wrap_i (x : Int) (h0 : -9223372036854775808 ≤ x) (h1 : x < 9223372036854775808) : IntKind.i64.wrap x = x := by
  simp [IntKind.wrap, IntKind.bits, IntKind.signed]
  omega
theorem own_nil64 (w : World) (fz : Nat) (h : fz = w.heap.size) : (w.alloc (.cells #[] 2)).ownsRow fz 2 1 (.slice (some ⟨w.heap.size, 0, none⟩) 0 0) 0 [] :=
  ⟨rfl, .inr ⟨_, 0, #[], rfl, by omega, heap_new _ _, Nat.le_refl _, Nat.zero_le _, rfl, rfl⟩⟩
/-- 'make' of a row of words -/
theorem make64 {ops : Array Oper} {rest : List Oper} {o : Oper} {a : Act} {Q : Exit → Act → World → Prop} {w : World} (hg : o.guard = none) (l c : Operand) (hop : o.op = Op.makeSlice 22 l c) (n : Nat)
    (hl : a.eval l = .int .i64 n) (hc : a.eval c = .int .i64 n) (hn : n ≤ 100000)
    (hK : ∀ w', w'.ownsRow w.heap.size 2 1 (.slice (some ⟨w.heap.size, 0, none⟩) n n) n ((List.replicate n 0).map vw) → Below w.heap.size w w' → wpList Try.prog ops Q rest (a.put o.dst (.slice (some ⟨w.heap.size, 0, none⟩) n n)) w') :
    wpList Try.prog ops Q (o :: rest) a w := by
  obtain ⟨i0, hi, hz0, hz1, hz2⟩ := info_parts info2
  refine wpList_make_full _ hg l c 22 hop w.heap.size 2 i0 (.int .i64 0) 1 under22 hi hz0 hz1 .i64 .i64 n n n hl hc rfl rfl (by rw [hz2]; omega) (by unfold maxLen; omega) (Nat.le_refl _) fun w' h1 h2 => hK w' ?_ (gb_none h2)
  have e : (madeCells (Value.int .i64 0).cells (n * 1)).toList = (List.replicate n 0).map vw := by
    rw [Nat.mul_one]
    show (madeCells #[Value.int .i64 0] n).toList = _
    rw [toList_madeCells_one, List.map_replicate]
  rw [← e]; exact h1
/-- a row of the last ones -/
theorem SeesI.drop {w : World} {ao : Option Addr} {n cap : Nat} {xs : List Int} (h : SeesI w (.slice ao n cap) xs) {k : Nat} (hk : k ≤ xs.length) : SeesI w (.slice (if cap = k then ao else ao.map (·.add k)) (n - k) (cap - k)) (xs.drop k) := by
  obtain ⟨hc, hn⟩ := h.le
  have hnone : ao = none → cap = 0 := fun e => by subst e; exact (Row.of_none h).2
  refine ⟨(if cap = k then ao else ao.map (·.add k)), cap - k, by rw [List.length_map, List.length_drop, hn], ⟨by rw [List.length_map, List.length_drop]; omega, fun e => ?_⟩, fun j u hu => ?_⟩
  · split at e
    · omega
    · have := hnone (by simpa using e); omega
  · rw [List.map_drop, List.getElem?_drop] at hu
    obtain ⟨ad, ha, hl, hcell⟩ := Row.at h hu
    have hlt := (List.getElem?_eq_some_iff.1 hu).1
    rw [List.length_map] at hlt
    rw [if_neg (by omega), ha]
    refine ⟨ad.add k, rfl, by rw [add_block]; exact hl, ?_⟩
    rw [add_add]; exact hcell
theorem SeesI.take {w : World} {ao : Option Addr} {n cap : Nat} {xs : List Int} (h : SeesI w (.slice ao n cap) xs) {m : Nat} (hm : m ≤ xs.length) : SeesI w (.slice ao m cap) (xs.take m) := by
  have := Row.take h rfl (m := m) (by simpa using hm)
  unfold SeesI
  rw [List.map_take]
  exact this
theorem SeesI.own {w : World} {base n : Nat} {v : Value} {xs : List Int} (h : w.ownsRow base 2 1 v n (xs.map vw)) : SeesI w v xs := Row.own h
end Go.Proofs.Ytbhgffbmeaomkaa.Gr
