/-
  The contracts of sum.Table, sum.More, sum.Of, and of the document's.
-/
import Derived.Test.YtcfobifldlkfnaaCB
import Derived.Great.BuildSlice
import Derived.Deep.WholeRow
import Derived.Deep.CutRange
namespace Go.Proofs.Ytcfobifldlkfnaa.Gr
open Go.RowKit Qm

namespace Qm
/-- the Table's i-th number -/
def tbl (i : Nat) : BitVec 32 := onN 8 (BitVec.ofNat 32 i)
/-- the Table, of which n numbers are laid -/
def TT (n : Nat) : Array Value := ((List.range 256).map fun k => if k < n then Value.int .u32 (iv (tbl k)) else .int .u32 0).toArray
theorem TT_size (n : Nat) : (TT n).size = 256 := by unfold TT; simp
theorem TT_one (n : Nat) : (TT n).all (·.oneCell') = true := by
  apply Array.all_eq_true_iff_forall_mem.2
  intro v hv
  unfold TT at hv
  simp at hv
  obtain ⟨k, _, rfl⟩ := hv
  split <;> rfl
theorem TT_at {n k : Nat} (h : k < 256) : (TT n)[k]? = some (if k < n then Value.int .u32 (iv (tbl k)) else .int .u32 0) := by
  unfold TT
  rw [List.getElem?_toArray, List.getElem?_map, List.getElem?_range h]; rfl
theorem TT_zero : TT 0 = Array.replicate 256 (.int .u32 0) := by
  apply Array.ext_getElem?
  intro i
  by_cases h : i < 256
  · rw [TT_at h]; simp [h]
  · rw [Array.getElem?_eq_none (by rw [TT_size]; omega), Array.getElem?_eq_none (by simp; omega)]
theorem TT_succ {n : Nat} (h : n < 256) : (TT n).setIfInBounds n (.int .u32 (iv (tbl n))) = TT (n + 1) := by
  apply Array.ext_getElem?
  intro i
  rw [Array.getElem?_setIfInBounds, TT_size]
  by_cases e : n = i
  · subst e
    rw [if_pos rfl, if_pos h, TT_at h, if_pos (by omega)]
  · rw [if_neg e]
    by_cases hi : i < 256
    · rw [TT_at hi, TT_at hi]
      by_cases hl : i < n
      · rw [if_pos hl, if_pos (by omega)]
      · rw [if_neg hl, if_neg (by omega)]
    · rw [Array.getElem?_eq_none (by rw [TT_size]; omega), Array.getElem?_eq_none (by rw [TT_size]; omega)]
end Qm
/-- an operation that yields a value -/
theorem wp_run {P : Program} {ops : Array Oper} {rest : List Oper} {o : Oper} {a : Act} {w : World} {Q : Exit → Act → World → Prop} (hg : o.guard = none) (d : Option Tmp) (hd : o.dst = d)
    (v : Value) (w' : World) (hrun : (execOp a.eval o).run P w = .ok (.value v) w') (h : wpList P ops Q rest (a.put d v) w') : wpList P ops Q (o :: rest) a w := by
  subst hd
  refine wpList_plain hg fun K hK => ?_
  unfold Oper.wp
  rw [hrun, Oper.upon_value]
  exact hK _ _ h
theorem zero30 : (Try.prog.info? 68).map (fun i => (i.zero, i.size)) = some (some (.agg (Array.replicate 256 (.int .u32 0))), 256) := by kernel_rfl
theorem und30 : Try.prog.underlying 68 = some (.array 256 57) := by kernel_rfl
theorem ofNat_iv (i : Nat) (h : i < 256) : iv (BitVec.ofNat 32 i) = (i : Int) := by unfold iv; rw [BitVec.toNat_ofNat]; omega
theorem cell_of_tab {w : World} {g : Nat} {cs : Array Value} {t : TypeId} (h : w.heap[g]? = some (.cells cs t (0, 0))) (k : Nat) : w.cell? ⟨g, k, none⟩ = cs[k]? := cell_of_row w g k cs t (0, 0) h

theorem gb_setCell (w : World) (a : Addr) (v : Value) : w.grownBy (w.setCell a v) (some a.block) :=
  ⟨rfl, rfl, rfl, by simp [World.setCell], fun k _ hn => heap_setCell_other w a k v (fun e => hn (by rw [e]))⟩
theorem below_setRow {B g : Nat} {w a : World} (h : Below B w a) (hg : B ≤ g) (cs : Array Value) : Below B w (a.setRow g cs) :=
  ⟨h.os, h.tape, h.output, by simp; exact h.size, fun k hk => (setRow_other a g k cs (by omega)).trans (h.block k hk)⟩
set_option maxRecDepth 20000 in
set_option maxHeartbeats 800000 in
theorem table_any (w : World) : Calls Try.prog 42 #[] w fun e w' => e = .returned (.agg (TT 256)) ∧ Below w.heap.size w w' := by
  obtain ⟨z1, z2⟩ := zero_of_info zero30
  go_enter Try.func42, Try.ntmps42
  refine wp_seq (wp_region_lit ?_)
  refine wp_run rfl (some 0) rfl (.pointer (some ⟨w.heap.size, 0, none⟩)) (w.alloc (.cells (Array.replicate 256 (.int .u32 0)) 68)) ?_ ?_
  · simp [execOp, Instr.alloc, z1, go_sem]
  refine wpList_nil ?_
  obtain ⟨W, hW⟩ : ∃ W, w.alloc (.cells (Array.replicate 256 (.int .u32 0)) 68) = W := ⟨_, rfl⟩
  have x1 := heap_new w (.cells (Array.replicate 256 (.int .u32 0)) 68)
  have bW := box_below w (.cells (Array.replicate 256 (.int .u32 0)) 68)
  rw [hW] at x1 bW ⊢
  refine wp_seq (wp_region_lit ?_)
  refine wp_run rfl (some 1) rfl (.pointer (some ⟨W.heap.size, 0, none⟩)) (W.alloc (.cells (Array.replicate 256 (.int .u32 0)) 68)) ?_ ?_
  · simp [execOp, Instr.alloc, z1, go_sem]
  refine wpList_nil ?_
  obtain ⟨V, hV⟩ : ∃ V, W.alloc (.cells (Array.replicate 256 (.int .u32 0)) 68) = V := ⟨_, rfl⟩
  have y1 := heap_old x1 (.cells (Array.replicate 256 (.int .u32 0)) 68)
  have y2 := heap_new W (.cells (Array.replicate 256 (.int .u32 0)) 68)
  have bV := box_below W (.cells (Array.replicate 256 (.int .u32 0)) 68)
  rw [hV] at y1 y2 bV ⊢
  obtain ⟨g, hg⟩ : ∃ g, W.heap.size = g := ⟨_, rfl⟩
  have hlt := lt_of_block x1
  have hBW := bW.size
  rw [hg] at y2 hlt hBW ⊢
  have bb := bt bW bV
  clear hW hV x1 bW bV
  rw [← TT_zero] at y2
  have hgF : V.frozen? ⟨g, 0, none⟩ = false := frozen_of_row _ _ _ _ _ y2
  clear hgF
  go_wp2
  go_loopw [4] (fun i wr => ∃ k : Nat, k ≤ 256 ∧ i = .int .i64 k ∧ wr.heap[g]? = some (.cells (TT k) 68 (0, 0)) ∧ V.grownBy wr (some g)) (fun i _ => 256 - (intOf i).toNat)
  case atStart => exact ⟨0, Nat.zero_le _, rfl, y2, gb_refl _ _⟩
  case round =>
    obtain ⟨k, hk, rfl, hg2, hgb⟩ := hrel
    by_cases hlt2 : k < 256
    · have hc := cell_of_tab hg2 k
      rw [TT_at hlt2, if_neg (Nat.lt_irrefl k)] at hc
      have hf := frozen_of_row _ _ k _ _ hg2
      have hs := heap_setCell_same wr g k _ _ (.int .u32 (iv (tbl k))) hg2
      rw [TT_succ hlt2] at hs
      have hK := ofNat_iv k hlt2
      have hw : IntKind.u32.wrap (k : Int) = (k : Int) := wrap_u32 (by omega) (by omega)
      have hd : decide ((k : Int) < 256) = true := by simp; omega
      go_wp2
      go_loop [9, 3] (fun j c => ∃ m : Nat, m ≤ 8 ∧ j = .int .i64 m ∧ ∃ C, c = .int .u32 (iv C) ∧ Hid (C = onN m (BitVec.ofNat 32 k))) (fun j _ => 8 - (intOf j).toNat)
      case atStart => exact ⟨0, Nat.zero_le _, rfl, BitVec.ofNat 32 k, by rw [hK], rfl⟩
      case round =>
        obtain ⟨m, hm, rfl, C, rfl, hC⟩ := hrel
        by_cases hlm : m < 8
        · go_wp2_with (go_at_call 44; refine (byOne_any C _).mono ?_; rintro e w' ⟨rfl, rfl⟩)
          go_round
          case rel => exact ⟨m + 1, by omega, by go_num, on1 C, rfl, by unfold Hid; rw [hC.out, onN_out]⟩
          case measure => simp [intOf]; omega
        · have e : m = 8 := by omega
          subst e
          have hC' : C = tbl k := hC.out
          subst hC'
          generalize iv (tbl k) = X at hs ⊢
          go_wp2
          go_roundw
          case rel => exact ⟨k + 1, by omega, by go_num, hs, gb_trans hgb (gb_setCell _ _ _)⟩
          case measure => simp [intOf]; omega
    · have e : k = 256 := by omega
      subst e
      have hk1 := hgb.block _ (lt_of_block y1) (fun e => by injection e; omega)
      rw [y1] at hk1
      have hd : decide ((256 : Int) < 256) = false := by decide
      go_upto_region 12 with (fail)
      refine wp_region_lit ?_
      refine wpList_load_row rfl 68 _ rfl g rfl 68 (TT 256) (0, 0) _ hg2 und30 rfl (by rw [TT_size]; exact z2) ?_
      refine wpList_store_row rfl 68 _ _ rfl w.heap.size (TT 256) rfl rfl 68 _ hk1 (by rw [TT_size]; exact z2) (by rw [TT_size]; simp) (TT_one _) ?_
      refine wpList_nil ?_
      go_wp2
      refine bodyPost_ret (v := .agg (TT 256)) (results_cell_row (P := Try.prog) rfl _ _ w.heap.size 68 (TT 256) (0, 0) _ rfl (setRow_heap _ _ _ _ _ _ hk1) und30 rfl (by rw [TT_size]; exact z2)) rfl ⟨rfl, ?_⟩
      exact below_setRow (bb.grown hgb (Nat.le_trans (Nat.le_of_lt hlt) (by have := lt_of_block y2; omega)) (fun m e => by cases e; omega)) (Nat.le_refl _) _
/-- the table's number at a byte -/
theorem tbl_cell {w : World} {g : Nat} (h : w.heap[g]? = some (.cells (TT 256) 68 (0, 0))) (x : BitVec 8) : w.cell? ⟨g, (iv x).toNat, none⟩ = some (.int .u32 (iv (onN 8 (wide x)))) := by
  have hx : (iv x).toNat < 256 := by have := iv_lt8 x; omega
  rw [cell_of_tab h, TT_at hx, if_pos hx]
  have e : BitVec.ofNat 32 (iv x).toNat = wide x := by
    apply BitVec.eq_of_toNat_eq
    unfold iv wide
    rw [BitVec.toNat_ofNat, BitVec.toNat_setWidth]
    simp
  unfold tbl
  rw [e]
theorem moreS_at {bs : List (BitVec 8)} {k : Nat} (c : BitVec 32) (h : k < bs.length) : moreS c (bs.take (k + 1)) = byteOn (moreS c (bs.take k)) (bs.getD k 0#8) := by
  rw [List.take_succ_eq_append_getElem h, moreS_append, List.getD_eq_getElem?_getD, List.getElem?_eq_getElem h]; rfl

set_option maxRecDepth 20000 in
set_option maxHeartbeats 800000 in
theorem more_any (c : BitVec 32) (v : Value) (bs : List (BitVec 8)) (w : World) (hn : bs.length ≤ 9000) (hs : SeesB w v bs) :
    Calls Try.prog 39 #[.int .u32 (iv c), v] w fun e w' => e = .returned (.int .u32 (iv (moreS c bs))) ∧ Below w.heap.size w w' := by
  obtain ⟨z1, z2⟩ := zero_of_info zero30
  obtain ⟨ao, cap, rfl⟩ := hs.slice
  have hsz := TT_size 256
  have hst := fun (v : World) => run_storeCells_new (P := Try.prog) v 68 (Array.replicate 256 (.int .u32 0)) (TT 256) (by rw [hsz]; exact z2) (by simp [hsz]) (TT_one _)
  obtain ⟨T, hT⟩ : ∃ T, TT 256 = T := ⟨_, rfl⟩
  have htab := table_any
  rw [hT] at hsz hst htab
  go_enter Try.func39, Try.ntmps39
  go_upto_region 2 with (go_at_call 42; refine (htab _).mono ?_; rintro e w1 ⟨rfl, b1⟩)
  obtain ⟨V, hV⟩ : ∃ V, w1.alloc (.cells T 68) = V := ⟨_, rfl⟩
  obtain ⟨g, hg⟩ : ∃ g, w1.heap.size = g := ⟨_, rfl⟩
  have y1 := heap_new w1 (.cells T 68)
  have bV := bt b1 (box_below w1 (.cells T 68))
  rw [hV] at y1 bV ⊢
  rw [hg] at y1 ⊢
  rw [← hT] at y1
  have hsV := hs.below bV
  clear hV hg hs b1 hst hsz hT htab z1 z2
  obtain ⟨n, hn'⟩ : ∃ n, bs.length = n := ⟨_, rfl⟩
  rw [hn'] at hn hsV ⊢
  have HN : Hid (bs.length = n) := hn'
  have HE : Hid (moreS c (bs.take n) = moreS c bs) := by unfold Hid; rw [← hn', List.take_length]
  clear hn'
  go_wp2
  go_loop [11, 0] (fun i x => ∃ k : Nat, k ≤ n ∧ i = .int .i64 k ∧ ∃ C, x = .int .u32 (iv C) ∧ Hid (C = moreS c (bs.take k))) (fun i _ => n - (intOf i).toNat)
  case atStart => exact ⟨0, Nat.zero_le _, rfl, c, rfl, rfl⟩
  case round =>
    obtain ⟨k, hk, rfl, C, rfl, hC⟩ := hrel
    by_cases hlt : k < n
    · obtain ⟨ad, rfl, _, hcell⟩ := hsV.at k (by rw [HN.out]; exact hlt)
      have hstep : Hid (byteOn C (bs.getD k 0#8) = moreS c (bs.take (k + 1))) := by unfold Hid; rw [moreS_at c (by rw [HN.out]; exact hlt), hC.out]
      generalize bs.getD k 0#8 = x at hcell hstep
      have hidx := tbl_cell y1 (C.setWidth 8 ^^^ x)
      have h1 := shr_iv C 8
      have h1' : iv C / (256 : Int) = iv (C >>> 8) := h1
      have h2 := low8_iv C
      have h3 := xor_iv8 (C.setWidth 8) x
      have h4 := xor_iv32 (C >>> 8) (onN 8 (wide (C.setWidth 8 ^^^ x)))
      have h5 := iv_lt8 (C.setWidth 8 ^^^ x)
      have h6 := h5.1
      have h7 := h5.2
      go_wp2
      go_round
      case rel => exact ⟨k + 1, by omega, by go_num, _, rfl, hstep⟩
      case measure => simp [intOf]; omega
    · have e : k = n := by omega
      subst e
      have hE : C = moreS c bs := by rw [hC.out, HE.out]
      subst hE
      go_wp2
      go_ret
      exact ⟨rfl, bV⟩

theorem wide_lt (x : BitVec 8) : IntKind.u32.wrap (iv x) = iv (wide x) := by
  rw [wide_iv]; have := iv_lt8 x; rw [IntKind.wrap_u32']; omega
theorem low8_wide (c : BitVec 32) : iv c % 256 = iv (wide (c.setWidth 8)) := by rw [wide_iv, low8_iv]
set_option maxRecDepth 20000 in
set_option maxHeartbeats 800000 in
theorem rmore_any (c : BitVec 32) (v : Value) (bs : List (BitVec 8)) (w : World) (hn : bs.length ≤ 9000) (hs : SeesB w v bs) :
    Calls Try.prog 40 #[.int .u32 (iv c), v] w fun e w' => e = .returned (.int .u32 (iv (moreS c bs))) ∧ w' = w := by
  obtain ⟨ao, cap, rfl⟩ := hs.slice
  obtain ⟨n, hn'⟩ : ∃ n, bs.length = n := ⟨_, rfl⟩
  rw [hn'] at hn hs ⊢
  have HN : Hid (bs.length = n) := hn'
  have HE : Hid (moreS c (bs.take n) = moreS c bs) := by unfold Hid; rw [← hn', List.take_length]
  clear hn'
  have m : ∀ C : Int, 0 ≤ C → C < 4294967296 → C.tmod 256 = C % 256 ∧ C.tdiv 256 % 4294967296 = C / 256 := fun C a b => by
    rw [Int.tmod_eq_emod_of_nonneg a, Int.tdiv_eq_ediv_of_nonneg a]; exact ⟨rfl, by omega⟩
  go_enter Try.func40, Try.ntmps40
  go_wp2
  go_loop [5, 0] (fun i x => ∃ k : Nat, k ≤ n ∧ i = .int .i64 k ∧ ∃ C, x = .int .u32 (iv C) ∧ Hid (C = moreS c (bs.take k))) (fun i _ => n - (intOf i).toNat)
  case atStart => exact ⟨0, Nat.zero_le _, rfl, c, rfl, rfl⟩
  case round =>
    obtain ⟨k, hk, rfl, C, rfl, hC⟩ := hrel
    by_cases hlt : k < n
    · obtain ⟨ad, rfl, _, hcell⟩ := hs.at k (by rw [HN.out]; exact hlt)
      have hstep : Hid (byteOn C (bs.getD k 0#8) = moreS c (bs.take (k + 1))) := by unfold Hid; rw [moreS_at c (by rw [HN.out]; exact hlt), hC.out]
      generalize bs.getD k 0#8 = x at hcell hstep
      obtain ⟨m1, m2⟩ := m (iv C) (iv_lt32 C).1 (iv_lt32 C).2
      have h1 := shr_iv C 8
      have h1' : iv C / (256 : Int) = iv (C >>> 8) := h1
      rw [h1'] at m2
      rw [low8_wide] at m1
      have h2 := wide_lt x
      have h3 := xor_iv32 (wide (C.setWidth 8)) (wide x)
      rw [← wide_xor] at h3
      have hd : decide ((k : Int) < (n : Int)) = true := by simp; omega
      have HS : Hid (byteOn C x = (C >>> 8) ^^^ onN 8 (wide (C.setWidth 8 ^^^ x))) := rfl
      clear m h1
      generalize hY : wide (C.setWidth 8 ^^^ x) = Y at h3 HS
      clear hY
      go_wp2
      go_loop [7, 6] (fun j y => ∃ q : Nat, q ≤ 8 ∧ j = .int .i64 q ∧ ∃ D, y = .int .u32 (iv D) ∧ Hid (D = onN q Y)) (fun j _ => 8 - (intOf j).toNat)
      case atStart => exact ⟨0, Nat.zero_le _, rfl, Y, rfl, rfl⟩
      case round =>
        obtain ⟨q, hq, rfl, D, rfl, hD⟩ := hrel
        by_cases hlm : q < 8
        · go_wp2_with (go_at_call 43; refine (on_any D _).mono ?_; rintro e w' ⟨rfl, rfl⟩)
          go_round
          case rel => exact ⟨q + 1, by omega, by go_num, on1 D, rfl, by unfold Hid; rw [hD.out, onN_out]⟩
          case measure => simp [intOf]; omega
        · have e : q = 8 := by omega
          subst e
          have h4 := xor_iv32 (C >>> 8) D
          have hDe : Hid ((C >>> 8) ^^^ D = moreS c (bs.take (k + 1))) := by unfold Hid; rw [← hstep.out, HS.out, hD.out]
          go_wp2
          go_round
          case rel => exact ⟨k + 1, by omega, by go_num, _, rfl, hDe⟩
          case measure => simp [intOf]; omega
    · have e : k = n := by omega
      subst e
      have hE : C = moreS c bs := by rw [hC.out, HE.out]
      subst hE
      go_wp2
      go_ret
      exact ⟨rfl, rfl⟩

theorem not_iv (c : BitVec 32) : 4294967295 - iv c = iv (~~~c) := by
  unfold iv; rw [BitVec.toNat_not]; have := c.isLt; omega
theorem bits_not_iv (c : BitVec 32) : bits .xor .u32 IntKind.u32.max (iv c) = iv (~~~c) := by
  have h := xor_iv32 4294967295#32 c
  have e : 4294967295#32 ^^^ c = ~~~c := by
    have hn : 4294967295#32 = BitVec.allOnes 32 := by rfl
    rw [hn, BitVec.xor_comm, BitVec.xor_allOnes]
  rw [e] at h
  exact h
set_option maxRecDepth 20000 in
set_option maxHeartbeats 400000 in
theorem of_any (v : Value) (bs : List (BitVec 8)) (w : World) (hn : bs.length ≤ 9000) (hs : SeesB w v bs) :
    Calls Try.prog 31 #[v] w fun e w' => e = .returned (.int .u32 (iv (ofS bs))) ∧ Below w.heap.size w w' := by
  have hm : ∀ u, SeesB u v bs → Calls Try.prog 39 #[.int .u32 4294967295, v] u _ := fun u hu => more_any 4294967295#32 v bs u hn hu
  obtain ⟨ao, cap, rfl⟩ := hs.slice
  unfold ofS
  generalize moreS 4294967295#32 bs = C at hm ⊢
  have hb := bits_not_iv C
  go_enter Try.func31, Try.ntmps31
  go_wp2_with (go_at_call 39; refine (hm _ hs).mono ?_; rintro e w1 ⟨rfl, b1⟩)
  go_ret
  exact ⟨by rw [← hb]; rfl, b1⟩
set_option maxRecDepth 20000 in
set_option maxHeartbeats 400000 in
theorem rof_any (v : Value) (bs : List (BitVec 8)) (w : World) (hn : bs.length ≤ 9000) (hs : SeesB w v bs) :
    Calls Try.prog 32 #[v] w fun e w' => e = .returned (.int .u32 (iv (ofS bs))) ∧ w' = w := by
  have hm : ∀ u, SeesB u v bs → Calls Try.prog 40 #[.int .u32 4294967295, v] u _ := fun u hu => rmore_any 4294967295#32 v bs u hn hu
  obtain ⟨ao, cap, rfl⟩ := hs.slice
  unfold ofS
  generalize moreS 4294967295#32 bs = C at hm ⊢
  have hb := not_iv C
  have hw := wrap_iv32 (~~~C)
  go_enter Try.func32, Try.ntmps32
  go_wp2_with (go_at_call 40; refine (hm _ hs).mono ?_; rintro e w1 ⟨rfl, rfl⟩)
  go_ret
  exact ⟨rfl, rfl⟩
end Go.Proofs.Ytcfobifldlkfnaa.Gr
