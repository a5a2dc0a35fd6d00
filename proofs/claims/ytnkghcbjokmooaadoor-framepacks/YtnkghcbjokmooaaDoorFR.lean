/-
  The body of a range over a function, inside the wide fence: what is no 'defer' goes as everywhere.
-/
import Derived.Test.YtnkghcbjokmooaaDoorFD
import Derived.RangeFuncNested
import Derived.RangeFuncBound
import Derived.RangeFuncCalls
import Derived.RangeFuncLeaves
import Derived.Shelf.Abstract
import Derived.Shelf.RegionOpen
import Derived.OwnWalkIn
import Derived.TacticsInMore
import Derived.LoopNIn
import Derived.LoopIn
namespace Go.Proofs.YtnkghcbjokmooaaDoor.Gr
open Go.RowKit Go.Sort Qm

attribute [local go_sem] Oper.semAt_some

theorem wpIn_of_wp {P : Program} (l n : Nat) {o : Oper} {a : Act} {w : World} {K : Act → World → Prop} {Q : Exit → Act → World → Prop} (hd : ∀ c, o.op ≠ .defer c) (h : Oper.wp P o a w K Q) : Oper.wpIn (Fence.wide.inRound l) n P o a w K Q := by
  refine ⟨fun _ _ => trivial, ?_⟩
  show o.uponIn (Fence.wide.inRound l) n P a K Q ((o.semAt (some l) a.eval).run P w)
  rw [Oper.semAt_some l _ _ hd]
  unfold Oper.wp at h
  cases hr : (execOp a.eval o).run P w with
  | ok nx w' =>
    rw [hr] at h
    cases nx with
    | enter f args => exact ⟨fun e => by simp [Fence.inRound, Fence.wide] at e, CallsIn.inRound l (callsIn_wide.2 h)⟩
    | row r args => exact ⟨fun e => by simp [Fence.inRound, Fence.wide] at e, fun c cs _ => by
        obtain ⟨v, w'', h1, h2⟩ := h c cs
        exact ⟨v, w'', h1, stepsIn_wide.2 h2⟩⟩
    | value v => exact h
    | skip => exact h
    | defer d => exact h
    | _ => exact h.elim
  | halt hh w' =>
    rw [hr] at h
    cases hh <;> first | exact h | exact h.elim
theorem anyIn_of_any {P : Program} (l n : Nat) {ops : Array Oper} {Q : Exit → Act → World → Prop} {md : Region.Mode} (hQ : ¬ LetsOut Q) (hd : ∀ (i : Nat) (o : Oper), ops[i]? = some o → ∀ c, o.op ≠ .defer c) : ∀ (fuel : Nat) (listed : Array Bool) (a : Act) (w : World), wpAny P md ops Q fuel listed a w → wpAnyIn (Fence.wide.inRound l) n P md ops Q fuel listed a w
  | 0, _, _, _, h => h
  | fuel + 1, listed, a, w, h => by
    refine ⟨h.1, fun i hi => ?_⟩
    have := h.2 i hi
    unfold wpOp at this
    unfold wpOpIn
    cases ho : ops[i]? with
    | none => rw [ho] at this; exact anyIn_of_any l n hQ hd fuel _ _ _ this
    | some o =>
      rw [ho] at this
      simp only at this ⊢
      split at this
      · rename_i hw
        rw [if_pos hw]
        have h2 := this.resolve_right (fun h => hQ h.2)
        exact wpIn_of_wp l n (hd i o ho) (Oper.wp_mono (fun a' w' h' => anyIn_of_any l n hQ hd fuel _ a' w' h') h2)
      · rename_i hw
        rw [if_neg hw]
        exact ⟨fun _ _ => trivial, anyIn_of_any l n hQ hd fuel _ _ _ this⟩
def noDefer (o : Oper) : Bool := match o.op with
  | .defer _ => false
  | _ => true
theorem no_defer {ops : Array Oper} (h : ops.all noDefer = true) : ∀ (i : Nat) (o : Oper), ops[i]? = some o → ∀ c, o.op ≠ .defer c := by
  intro i o ho c e
  have := (Array.all_eq_true_iff_forall_mem.1 h) o (Array.mem_of_getElem? ho)
  unfold noDefer at this
  rw [e] at this
  cases this
theorem regionIn_of_any {P : Program} (l n : Nat) {id : Nat} {ops : Array Oper} {Q : Exit → Act → World → Prop} {a : Act} {w : World} (hm : P.follows .mixedOrders = true) (hQ : ¬ LetsOut Q) (hd : ∀ (i : Nat) (o : Oper), ops[i]? = some o → ∀ c, o.op ≠ .defer c)
    (h : wpAny P .any ops Q ops.size (Array.replicate ops.size false) a w.drew) : (Code.region id ops true).wpIn (Fence.wide.inRound l) n P Q a w :=
  wpIn_region_any hm (anyIn_of_any l n hQ hd _ _ _ _ h)


/-- what a round keeps: the iterator's two boxes -/
def Kp2 (Bs Bn : Nat) (W W' : World) : Prop := W'.heap[Bs]? = W.heap[Bs]? ∧ W'.heap[Bn]? = W.heap[Bn]?
theorem kp2_t {Bs Bn : Nat} {A B C : World} (h : Kp2 Bs Bn A B) (k : Kp2 Bs Bn B C) : Kp2 Bs Bn A C := ⟨k.1.trans h.1, k.2.trans h.2⟩
theorem kp2_b {Bs Bn : Nat} {w : World} (h1 : Bs < w.heap.size) (h2 : Bn < w.heap.size) (W : World) (l : Nat) (o o' : Obj) (hl : w.heap.size ≤ l) (_ : W.heap[l]? = some o) (_ : o.isCells = false) (_ : o.isWalk = false) : Kp2 Bs Bn W (W.putObj l o') :=
  ⟨World.putObj_heap_other (by omega), World.putObj_heap_other (by omega)⟩
theorem cell_same {W W' : World} {b i : Nat} (h : W'.heap[b]? = W.heap[b]?) : W'.cell? ⟨b, i, none⟩ = W.cell? ⟨b, i, none⟩ := by simp [World.cell?, h]
def fins (m k : Nat) : List (Fin m) := (List.finRange m).take k
theorem fins_succ {m k : Nat} (h : k < m) : fins m (k + 1) = fins m k ++ [⟨k, h⟩] := by
  unfold fins
  rw [List.take_add_one, List.getElem?_eq_getElem (by simpa using h)]
  simp
theorem fins_len {m k : Nat} (h : k ≤ m) : (fins m k).length = k := by unfold fins; simp; omega
theorem fins_all (m : Nat) : fins m m = List.finRange m := by unfold fins; rw [List.take_of_length_le (by simp)]
theorem fins_vals (m : Nat) (f : Nat → Int) : (List.finRange m).map (fun x => f x.1) = (List.range m).map f := by
  apply List.ext_getElem
  · simp
  · intro i h1 h2; simp
set_option maxRecDepth 100000 in
set_option maxHeartbeats 2000000 in
/-- the chunks of a row of eight times m bytes: for every body that keeps the iterator's boxes -/
theorem chunk1_in (n : Nat) (hn : 1 ≤ n) (l Bs Bn m cap : Nat) (ad : Addr) (hm : m ≤ 18) (hcap : 8 * m ≤ cap) (J Jx : List (Fin m) → World → Prop)
    (hY : ∀ pre x W, J pre W → pre.length < m → YieldAt Fence.wide (n - 1) Tryd.prog l #[.slice (some (ad.add (8 * x.1))) 8 8] W fun e W' =>
      (e = .returned (.bool true) ∧ J (pre ++ [x]) W' ∧ Kp2 Bs Bn W W') ∨ (e = .returned (.bool false) ∧ Jx (pre ++ [x]) W'))
    (W : World) (hs : W.cell? ⟨Bs, 0, none⟩ = some (.slice (some ad) (8 * m) cap)) (h8 : W.cell? ⟨Bn, 0, none⟩ = some (.int .i64 8)) (h0 : J [] W)
    (hJd : ∀ pre W d, J pre W → J pre (W.drewN d)) :
    CallsIn Fence.wide n Tryd.prog 44 #[.func (.yield l) #[] #[], .pointer (some ⟨Bs, 0, none⟩), .pointer (some ⟨Bn, 0, none⟩)] W fun e W' => (∃ v, e = .returned v) ∧
      ((∃ ys, ys = List.finRange m ∧ J ys W') ∨ (∃ pre, pre <+: List.finRange m ∧ Jx pre W')) := by
  refine callsIn_of_wp Tryd.func44 rfl trivial ?_ rfl
  simp only [Tryd.ntmps44, List.size_toArray, List.length_cons, List.length_nil, Nat.reduceAdd, Nat.reduceSub, Array.replicate_succ, Array.replicate_zero, List.push_toArray, List.append_toArray, List.nil_append, List.cons_append]
  gi_wp2
  gi_loopw [4] (fun i wr => ∃ k : Nat, k ≤ m ∧ i = .int .i64 (8 * k : Nat) ∧ J (fins m k) wr ∧ Kp2 Bs Bn W wr)
    (fun i _ => 8 * m - (intOf i).toNat)
  case atStart => exact ⟨0, Nat.zero_le _, rfl, h0, rfl, rfl⟩
  case round =>
    clear h0
    obtain ⟨k, hk, rfl, hJs, hnx⟩ := hrel
    have c1 : wr.cell? ⟨Bs, 0, none⟩ = _ := (cell_same hnx.1).trans hs
    have c2 : wr.cell? ⟨Bn, 0, none⟩ = _ := (cell_same hnx.2).trans h8
    by_cases hlt : k < m
    · have d1 : decide (((8 * k : Nat) : Int) < ((8 * m : Nat) : Int)) = true := by simp; omega
      obtain ⟨i, hi⟩ : ∃ i, 8 * k = i := ⟨_, rfl⟩
      obtain ⟨z, hz⟩ : ∃ z, 8 * m = z := ⟨_, rfl⟩
      have hiz : i + 8 ≤ z := by omega
      have hib : i ≤ 144 := by omega
      have z0 : (0 : Int) ≤ (i : Int) := by omega
      have z1 : (i : Int) ≤ (z : Int) := by omega
      have z2 : (z : Int) ≤ (cap : Int) := by omega
      have z3 : (i : Int) ≤ (cap : Int) := by omega
      have z4 : i ≤ cap := by omega
      have z5 : ¬ cap = i := by omega
      have HI : Hid (8 * k = i ∧ 8 * m = z) := ⟨hi, hz⟩
      rw [hi, hz] at d1
      rw [hz] at c1
      rw [hi]
      clear hi hz
      gi_wp2
      refine wpIn_wide.2 ?_
      go_quiet (fail)
      obtain ⟨fn, tmps, assign, body, hy, hR⟩ := hY (fins m k) ⟨k, hlt⟩ (wr.drewN nq) (hJd _ _ _ hJs) (by rw [fins_len hk]; exact hlt)
      have HJ : Hid (∀ V, J (fins m k ++ [⟨k, hlt⟩]) V → J (fins m (k + 1)) V) := fun V h => by rw [fins_succ hlt]; exact h
      have HX : Hid (∀ V, Jx (fins m k ++ [⟨k, hlt⟩]) V → Jx (fins m (k + 1)) V) := fun V h => by rw [fins_succ hlt]; exact h
      have hy' : Sem.run Tryd.prog (Instr.yield l #[.slice (some (ad.add i)) 8 8]) (wr.drewN nq) = .ok (.round l fn tmps assign body) (wr.drewN nq) := by rw [← HI.out.1]; exact hy
      have b3 : Kp2 Bs Bn W (wr.drewN nq) := hnx
      have c1' : (wr.drewN nq).cell? ⟨Bs, 0, none⟩ = _ := c1
      have c2' : (wr.drewN nq).cell? ⟨Bn, 0, none⟩ = _ := c2
      generalize fins m k ++ [⟨k, hlt⟩] = pk at hR HJ HX
      clear hy
      generalize wr.drewN nq = V at *
      clear hY c1 c2 hJs hnx
      have w8 : wrap64 ((i : Int) + 8) = ((i + 8 : Nat) : Int) := by unfold wrap64; omega
      have z6 : (i : Int) ≤ ((i + 8 : Nat) : Int) := by omega
      have z7 : ((i + 8 : Nat) : Int) ≤ (cap : Int) := by omega
      have z8 : i + 8 - i = 8 := by omega
      have z9 : i + 8 ≤ cap := by omega
      gi_wp2
      refine hR.mono ?_
      rintro e W3 (⟨rfl, hJ3, hk3⟩ | ⟨rfl, hJx3⟩)
      · have d1' : W3.cell? ⟨Bs, 0, none⟩ = _ := (cell_same hk3.1).trans c1'
        have d2' : W3.cell? ⟨Bn, 0, none⟩ = _ := (cell_same hk3.2).trans c2'
        have HM : Hid (J (fins m (k + 1)) W3) := HJ.out _ hJ3
        clear hJ3 c1' c2' hR hy'
        gi_wp2
        go_roundw
        case rel => exact ⟨k + 1, by omega, by rw [← HI.out.1]; congr 1, HM.out, kp2_t b3 hk3⟩
        case measure => have := HI.out; simp [intOf]; omega
      · have HM : Hid (Jx (fins m (k + 1)) W3) := HX.out _ hJx3
        clear hJx3 hR hy'
        gi_wp2
        refine bodyPost_ret (results_none rfl _ _ _) rfl ?_
        exact ⟨⟨_, rfl⟩, .inr ⟨_, List.take_prefix _ _, HM.out⟩⟩
    · obtain rfl : k = m := by omega
      rw [fins_all] at hJs
      gi_wp2
      go_end0
      exact ⟨⟨_, rfl⟩, .inl ⟨_, rfl, hJs⟩⟩
theorem chunk_stops (n : Nat) (hn : 1 ≤ n) (Bs Bn m cap : Nat) (ad : Addr) (hm : m ≤ 18) (hcap : 8 * m ≤ cap) (w : World) (hBs : Bs < w.heap.size) (hBn : Bn < w.heap.size)
    (hs : w.cell? ⟨Bs, 0, none⟩ = some (.slice (some ad) (8 * m) cap)) (h8 : w.cell? ⟨Bn, 0, none⟩ = some (.int .i64 8)) :
    SeqStopsK Fence.wide n Tryd.prog 44 #[.pointer (some ⟨Bs, 0, none⟩), .pointer (some ⟨Bn, 0, none⟩)] (fun x : Fin m => #[.slice (some (ad.add (8 * x.1))) 8 8]) (Kp2 Bs Bn) (fun ys => ys = List.finRange m) (fun pre => pre <+: List.finRange m) m w := fun l J Jx W hW hJ _ hY h0 =>
  chunk1_in n hn l Bs Bn m cap ad hm hcap J Jx hY W ((hW.cell (p := ⟨Bs, 0, none⟩) hBs).trans hs) ((hW.cell (p := ⟨Bn, 0, none⟩) hBn).trans h8) h0
    (fun pre V d h => hJ pre V (V.drewN d) none h ⟨rfl, rfl, rfl, Nat.le_refl _, fun _ _ _ => rfl⟩ (fun r e => by cases e))
theorem setCell_heap {w : World} {b i : Nat} {cs : Array Value} {t : TypeId} {f : Nat × Nat} (h : w.heap[b]? = some (.cells cs t f)) (x : Value) : (w.setCell ⟨b, i, none⟩ x).heap[b]? = some (.cells (cs.setIfInBounds i x) t f) := by
  obtain ⟨hlt, hk⟩ := Array.getElem?_eq_some_iff.1 h
  show (w.heap.modify b _)[b]? = _
  rw [Array.getElem?_eq_getElem (by rw [Array.size_modify]; exact hlt), Array.getElem_modify_self, hk]
  rfl
def fRow {α : Type} (F : α → Int) (pre : List α) : List Value := (pre.map F).map vw
theorem fRow_snoc {α : Type} (F : α → Int) (pre : List α) (x : α) : fRow F (pre ++ [x]) = fRow F pre ++ [F x].map vw := by unfold fRow; simp
/-- a frame's box -/
def FBox (W : World) (B : Nat) (k : Int) (v : Value) : Prop := W.heap[B]? = some (.cells #[.int .i64 k, v] 24 (0, 0))
theorem FBox.lt {W : World} {B : Nat} {k : Int} {v : Value} (h : FBox W B k v) : B < W.heap.size := lt_of_block h
theorem FBox.kept {W W' : World} {row : Option Nat} {B : Nat} {k : Int} {v : Value} (h : FBox W B k v) (hg : W.grownBy W' row) (hne : some B ≠ row) : FBox W' B k v := (hg.block B h.lt hne).trans h
theorem FBox.not_row {W : World} {B : Nat} {k : Int} {u : Value} (h : FBox W B k u) {base n : Nat} {v : Value} {xs : List Value} (hr : W.ownsRow base 2 1 v n xs) : some B ≠ v.ownBlock := by
  rcases hr.2 with ⟨rfl, _⟩ | ⟨g, cap, cur, rfl, _, hgb, _⟩
  · simp [Value.ownBlock]
  · intro e'
    obtain rfl : B = g := by simpa [Value.ownBlock] using e'
    have := (show W.heap[B]? = _ from h).symm.trans hgb
    simp at this
theorem fbox_own {β : Type} (n₀ B : Nat) (K : Int) (k : β → Nat) (f : β → List Value) : Own (fun s W => ∃ v, FBox W B K v ∧ W.ownsRow n₀ 2 1 v (k s) (f s)) := by
  rintro s X Y row ⟨v, hv, hr⟩ hg hrow
  refine ⟨v, hv.kept hg (fun e' => ?_), hr.kept hg ?_⟩
  · obtain ⟨o, ho, hc⟩ := hrow B e'.symm
    rw [show X.heap[B]? = _ from hv] at ho; cases ho; cases hc
  · rcases hr.2 with ⟨rfl, _⟩ | ⟨g, cap, cur, rfl, _, hgb, _⟩
    · exact .inl rfl
    · refine .inr fun e' => ?_
      obtain ⟨o, ho, hc⟩ := hrow g (by simpa [Value.ownBlock] using e'.symm)
      rw [hgb] at ho; cases ho; cases hc
theorem gb_setCell1 (W : World) (b i : Nat) (v : Value) : W.grownBy (W.setCell ⟨b, i, none⟩ v) (some b) :=
  ⟨rfl, rfl, rfl, (KeepsWalks.setCell W _ v).size, fun k _ hk => Below.heap_setCell _ _ _ k (fun e => hk (by rw [e]))⟩
/-- a word more in a frame's box -/
theorem FBox.appended {W w1 : World} {n₀ n₁ B n m : Nat} {K : Int} {v v' : Value} {xs ys : List Value} {tmp : Obj}
    (hv : FBox W B K v) (hrow : W.ownsRow n₀ 2 1 v n xs) (hn₀ : n₀ ≤ W.heap.size) (hB : n₁ ≤ B) (h10 : n₁ ≤ n₀)
    (hown' : w1.ownsRow n₀ 2 1 v' m ys) (hgrow : (W.alloc tmp).grownBy w1 v.ownBlock) :
    FBox w1 B K v ∧ FBox (w1.setCell ⟨B, 1, none⟩ v') B K v' ∧ (w1.setCell ⟨B, 1, none⟩ v').ownsRow n₀ 2 1 v' m ys ∧ KeepsOthers W (w1.setCell ⟨B, 1, none⟩ v') ∧ Below n₁ W (w1.setCell ⟨B, 1, none⟩ v') ∧
      ∀ k, k < n₀ → k ≠ B → (w1.setCell ⟨B, 1, none⟩ v').heap[k]? = W.heap[k]? := by
  have hv1 : FBox w1 B K v := (hv.kept (World.grownBy_alloc W tmp none) (by simp)).kept hgrow (hv.not_row hrow)
  have hge : ∀ j, v.ownBlock = some j → n₀ ≤ j := fun j ej => (hrow.lt j ej).1
  refine ⟨hv1, setCell_heap hv1 v', hown'.kept (gb_setCell1 w1 B 1 v') (.inr (hv1.not_row hown').symm), ?_, ?_, ?_⟩
  · refine ((KeepsOthers.alloc W tmp).trans (KeepsOthers.of_grownBy hgrow fun j o ej hj => ?_)).trans (KeepsOthers.setCell _ _ _)
    rcases (hrow.alloc tmp).2 with ⟨rfl, _⟩ | ⟨g, cap, cur, rfl, _, hgb, _⟩
    · simp [Value.ownBlock] at ej
    · obtain rfl : g = j := by simpa [Value.ownBlock] using ej
      rw [hgb] at hj; cases hj; rfl
  · exact (((Below.refl n₁ W).alloc (Nat.le_trans h10 hn₀) tmp).grown hgrow (by simp; omega) fun j ej => Nat.le_trans h10 (hge j ej)).setCell (p := ⟨B, 1, none⟩) hB v'
  · intro k hk hkB
    have hkW : k < W.heap.size := Nat.lt_of_lt_of_le hk hn₀
    rw [Below.heap_setCell _ _ _ k hkB, hgrow.block k (Nat.lt_of_lt_of_le hkW (box_below W tmp).size) (fun e => by have := hge k e.symm; omega)]
    exact Below.heap_alloc W tmp k hkW
/-- a part of a row of bytes -/
theorem SeesB.part {w : World} {bs : List (BitVec 8)} {ad : Addr} {n cap : Nat} (h : SeesB w (.slice (some ad) n cap) bs) (i m : Nat) (hi : i + m ≤ bs.length) : SeesB w (.slice (some (ad.add i)) m m) ((bs.drop i).take m) := by
  have hl : ((bs.drop i).take m).length = m := by rw [List.length_take, List.length_drop]; omega
  refine ⟨some (ad.add i), m, by rw [List.length_map, hl], ⟨by rw [List.length_map, hl]; exact Nat.le_refl _, fun e => by cases e⟩, fun k u hu => ?_⟩
  rw [List.getElem?_map, List.getElem?_take] at hu
  split at hu
  · rw [List.getElem?_drop, ← List.getElem?_map] at hu
    obtain ⟨ad', e, hlt, hc⟩ := Row.at h hu
    cases e
    exact ⟨_, rfl, by rw [add_block]; exact hlt, by rw [Addr.add_add]; exact hc⟩
  · cases hu
set_option maxRecDepth 20000 in
set_option maxHeartbeats 1000000 in
theorem chunk_any (a : Option Addr) (len cap : Nat) (w : World) :
    Calls Tryd.prog 31 #[.slice a len cap, .int .i64 8] w fun e w' => e = .returned (.func (.func 44) #[] #[.pointer (some ⟨w.heap.size, 0, none⟩), .pointer (some ⟨w.heap.size + 1, 0, none⟩)]) ∧ w' = (w.alloc (.cells #[.slice a len cap] 25)).alloc (.cells #[.int .i64 8] 3) := by
  go_enter Tryd.func31, Tryd.ntmps31
  go_wp2
  go_ret
  exact ⟨rfl, rfl⟩
end Go.Proofs.YtnkghcbjokmooaaDoor.Gr
