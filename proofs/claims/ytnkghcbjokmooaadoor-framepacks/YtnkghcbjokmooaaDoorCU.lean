/-
  The contracts of slices.Grow (of nothing), slices.Concat (of two), sum.Seal, and of the document's Seal.
-/
import Derived.Test.YtnkghcbjokmooaaDoorCS
namespace Go.Proofs.YtnkghcbjokmooaaDoor.Gr
open Go.RowKit Qm

theorem under3 : Tryd.prog.underlying 3 = some (.int .i64) := by kernel_rfl
theorem zeroCells_size (z : Value) (n : Nat) (h : z.cells.size = 1) : (Builtin.zeroCells z.cells n).size = n := by rw [size_zeroCells, h, Nat.mul_one]
set_option maxRecDepth 20000 in
set_option maxHeartbeats 400000 in
theorem grow_any (n : Nat) (h0 : 0 < n) (hn : n ≤ 9000) (w : World) :
    Calls Tryd.prog 47 #[.slice none 0 0, .int .i64 n] w fun e b => ∃ G, e = .returned (.slice (some ⟨w.heap.size, 0, none⟩) 0 G) ∧ n ≤ G ∧
      b.ownsRow w.heap.size 5 1 (.slice (some ⟨w.heap.size, 0, none⟩) 0 G) 0 [] ∧ Below w.heap.size w b := by
  obtain ⟨i0, hi, hz0, hz1, hz2⟩ := info_parts info5
  have hge := grownCap_ge w n 0 5
  have hgm := grownCap_le_maxLen w n 0 5 (by unfold maxLen; omega)
  have hgm' : grownCap w n 0 5 ≤ 9223372036854775807 := by unfold maxLen at hgm; omega
  have hr := fun ty => Lib.run_append_nil_zeros (P := Tryd.prog) w 25 3 ty 5 i0 (.int .u8 0) .i64 .i64 under23 under3 hi hz0 n h0 (by omega) (by omega) (by rw [hz2]; omega)
  generalize grownCap w n 0 5 = G at hge hgm hgm' hr
  have ho : (w.drew.alloc (.cells (Builtin.zeroCells (Value.int .u8 0).cells n ++ Builtin.zeroCells (Value.int .u8 0).cells (G - n)) 5)).ownsRow w.heap.size 5 1 (.slice (some ⟨w.heap.size, 0, none⟩) 0 G) 0 [] := by
    refine ⟨rfl, .inr ⟨w.heap.size, G, _, rfl, Nat.le_refl _, heap_new w.drew _, Nat.zero_le _, hgm, ?_, by simp⟩⟩
    rw [Array.size_append, zeroCells_size _ _ rfl, zeroCells_size _ _ rfl]; omega
  have hb : Below w.heap.size w (w.drew.alloc (.cells (Builtin.zeroCells (Value.int .u8 0).cells n ++ Builtin.zeroCells (Value.int .u8 0).cells (G - n)) 5)) := (Below.refl _ _).drew.alloc (Nat.le_refl _) _
  generalize w.drew.alloc (.cells (Builtin.zeroCells (Value.int .u8 0).cells n ++ Builtin.zeroCells (Value.int .u8 0).cells (G - n)) 5) = V at hr ho hb
  go_enter Tryd.func47, Tryd.ntmps47
  go_wp2_with (at_builtin; refine Lib.wpList_append_run _ rfl _ _ _ _ rfl _ _ rfl rfl _ _ (hr _) ?_)
  go_ret
  exact ⟨G, rfl, hge, ho, hb⟩

/-- what has been laid of two rows -/
def two (xs ys : List (BitVec 8)) : Nat → List (BitVec 8)
  | 0 => []
  | 1 => xs
  | _ => xs ++ ys
def twoL (n m : Nat) : Nat → Nat
  | 0 => 0
  | 1 => n
  | _ => n + m
theorem news_cells {w : World} {v : Value} {ao : Option Addr} {n cap : Nat} {bs : List (BitVec 8)} (h : SeesB w v bs) (hv : v = .slice ao n cap) : ∀ ad, ao = some ad → ∀ (j : Nat) (u : Value), (bs.map vb)[j]? = some u → w.cell? (ad.add j) = some u := by
  intro ad e j u hj
  subst hv
  obtain ⟨ad', e', _, hc⟩ := Row.at h hj
  rw [e] at e'
  cases e'
  exact hc
set_option maxRecDepth 20000 in
set_option maxHeartbeats 800000 in
theorem concat_any (s : Nat) (t : TypeId) (v1 v2 : Value) (xs ys : List (BitVec 8)) (h0 : 0 < xs.length + ys.length) (hx : xs.length ≤ 4000) (hy : ys.length ≤ 4000) (w : World)
    (hs : w.heap[s]? = some (.cells #[v1, v2] t (0, 0))) (s1 : SeesB w v1 xs) (s2 : SeesB w v2 ys) :
    Calls Tryd.prog 41 #[.slice (some ⟨s, 0, none⟩) 2 2] w fun e b => ∃ g G, e = .returned (.slice (some ⟨g, 0, none⟩) (xs.length + ys.length) G) ∧
      b.ownsRow w.heap.size 5 1 (.slice (some ⟨g, 0, none⟩) (xs.length + ys.length) G) (xs.length + ys.length) ((xs ++ ys).map vb) ∧ Below w.heap.size w b := by
  obtain ⟨i0, hi, hz0, hz1, hz2⟩ := info_parts info5
  obtain ⟨ao, cap, hv1⟩ := s1.slice
  obtain ⟨bo, bcap, hv2⟩ := s2.slice
  have HS1 : Hid (SeesB w v1 xs) := s1
  have HS2 : Hid (SeesB w v2 ys) := s2
  have hc0 : w.cell? ⟨s, 0, none⟩ = some v1 := by simp [World.cell?, hs]
  have hc1 : w.cell? ⟨s, 1, none⟩ = some v2 := by simp [World.cell?, hs]
  have hsl := lt_of_block hs
  have L1 : Hid ((xs.map vb).length = xs.length * 1) := by unfold Hid; simp
  have L2 : Hid ((ys.map vb).length = ys.length * 1) := by unfold Hid; simp
  have N1 : Hid (ao = none → xs.length = 0 ∧ cap = 0) := fun e => by rw [hv1, e] at s1; exact Row.of_none s1
  have N2 : Hid (bo = none → ys.length = 0 ∧ bcap = 0) := fun e => by rw [hv2, e] at s2; exact Row.of_none s2
  have HV1 : Hid (v1 = .slice ao xs.length cap) := hv1
  have HV2 : Hid (v2 = .slice bo ys.length bcap) := hv2
  rw [hv1] at hc0
  rw [hv2] at hc1
  have O1 := bs_one xs
  have O2 := bs_one ys
  have HM : Hid (xs.map vb ++ ys.map vb = (xs ++ ys).map vb) := List.map_append.symm
  clear s1 s2 hs hv1 hv2
  generalize hX : xs.map vb = X at L1 O1 HM
  generalize hY : ys.map vb = Y at L2 O2 HM
  generalize hZ : (xs ++ ys).map vb = Z at HM ⊢
  have HX : Hid (xs.map vb = X) := hX
  have HY : Hid (ys.map vb = Y) := hY
  clear hX hY hZ
  generalize hn : xs.length = n at *
  generalize hm : ys.length = m at *
  clear hn hm
  go_enter Tryd.func41, Tryd.ntmps41
  go_wp2
  go_loop [11, 3] (fun i z => ∃ k : Nat, k ≤ 2 ∧ i = .int .i64 k ∧ z = .int .i64 (twoL n m k)) (fun i _ => 2 - (intOf i).toNat)
  case atStart => exact ⟨0, by omega, rfl, rfl⟩
  case round =>
    obtain ⟨k, hk, rfl, rfl⟩ := hrel
    rcases (by omega : k = 0 ∨ k = 1 ∨ k = 2) with rfl | rfl | rfl
    · have e0 : ((twoL n m 0 : Nat) : Int) = 0 := rfl
      go_wp2
      go_round
      case rel => exact ⟨1, by omega, rfl, rfl⟩
      case measure => simp [intOf]
    · have e0 : ((twoL n m 1 : Nat) : Int) = n := rfl
      go_wp2
      go_round
      case rel => exact ⟨2, by omega, rfl, by show _ = Value.int .i64 ((n + m : Nat) : Int); rw [Int.natCast_add]⟩
      case measure => simp [intOf]
    · have e0 : ((twoL n m 2 : Nat) : Int) = ((n + m : Nat) : Int) := rfl
      obtain ⟨q, hq⟩ : ∃ q, n + m = q := ⟨_, rfl⟩
      rw [hq] at e0 h0
      go_wp2_with (go_at_call 47; refine (grow_any q h0 (by omega) _).mono ?_; rintro e w1 ⟨G, rfl, hG, ho1, b1⟩)
      obtain ⟨g, hg⟩ : ∃ g, w.heap.size = g := ⟨_, rfl⟩
      have HG : Hid (w.heap.size = g) := hg
      rw [hg] at ho1 hsl ⊢
      have b1' : Below g w w1 := by rw [← hg]; exact b1
      have HP : Hid (∀ wr, Below g w wr → SeesB wr v1 xs ∧ SeesB wr v2 ys) := fun wr hb => by
        rw [← hg] at hb; exact ⟨HS1.out.below hb, HS2.out.below hb⟩
      clear hg b1 e0
      go_loopw [27, 6] (fun i v wr => ∃ k : Nat, k ≤ 2 ∧ i = .int .i64 k ∧ v = .slice (some ⟨g, 0, none⟩) (twoL n m k) G ∧
        wr.ownsRow g 5 1 (.slice (some ⟨g, 0, none⟩) (twoL n m k) G) (twoL n m k) (if k = 0 then [] else if k = 1 then X else Z) ∧ Below g w wr) (fun i _ _ => 2 - (intOf i).toNat)
      case atStart => exact ⟨0, by omega, rfl, rfl, ho1, b1'⟩
      case round =>
        clear ho1 b1'
        obtain ⟨k, hk, rfl, rfl, hown, hbl⟩ := hrel
        rcases (by omega : k = 0 ∨ k = 1 ∨ k = 2) with rfl | rfl | rfl
        · have t0 : twoL n m 0 = 0 := rfl
          have d0 : (if (0 : Nat) = 0 then ([] : List Value) else if (0 : Nat) = 1 then X else Z) = [] := rfl
          rw [d0, t0] at hown
          rw [t0]
          have c0 : wr.cell? ⟨s, 0, none⟩ = _ := (hbl.cell (p := ⟨s, 0, none⟩) hsl).trans hc0
          have hnews := news_cells (HP.out wr hbl).1 HV1.out
          rw [HX.out] at hnews
          have hsz : g ≤ wr.heap.size := Nat.le_trans (Nat.le_of_eq HG.out.symm) hbl.size
          clear hc0 hc1
          go_wp2_with (at_builtin; refine wpList_append_fits_any _ rfl _ _ 25 rfl g 5 i0 1 under23 hi hz1 g 0 G [] rfl hown ao n cap X rfl L1.out N1.out hnews O1 (by omega) ?_; intro w2 hown2 hg2; have hbl2 : Below g w w2 := hbl.grown hg2 hsz (fun m e => by cases e; exact Nat.le_refl _))
          go_roundw
          case rel => exact ⟨1, by omega, rfl, rfl, by rw [Nat.zero_add] at hown2; exact hown2, hbl2⟩
          case measure => simp [intOf]
        · have t0 : twoL n m 1 = n := rfl
          have d0 : (if (1 : Nat) = 0 then ([] : List Value) else if (1 : Nat) = 1 then X else Z) = X := rfl
          rw [d0, t0] at hown
          rw [t0]
          have c0 : wr.cell? ⟨s, 1, none⟩ = _ := (hbl.cell (p := ⟨s, 1, none⟩) hsl).trans hc1
          have hnews := news_cells (HP.out wr hbl).2 HV2.out
          rw [HY.out] at hnews
          have hsz : g ≤ wr.heap.size := Nat.le_trans (Nat.le_of_eq HG.out.symm) hbl.size
          clear hc0 hc1
          go_wp2_with (at_builtin; refine wpList_append_fits_any _ rfl _ _ 25 rfl g 5 i0 1 under23 hi hz1 g n G X rfl hown bo m bcap Y rfl L2.out N2.out hnews O2 (by omega) ?_; intro w2 hown2 hg2; have hbl2 : Below g w w2 := hbl.grown hg2 hsz (fun m e => by cases e; exact Nat.le_refl _))
          go_roundw
          case rel => exact ⟨2, by omega, rfl, by rw [← hq]; rfl, by rw [HM.out] at hown2; exact hown2, hbl2⟩
          case measure => simp [intOf]
        · have d0 : (if (2 : Nat) = 0 then ([] : List Value) else if (2 : Nat) = 1 then X else Z) = Z := rfl
          rw [d0] at hown
          go_wp2
          go_ret
          refine ⟨g, G, rfl, ?_, ?_⟩
          · rw [HG.out]; exact hown
          · rw [HG.out]; exact hbl

theorem laid_row (w : World) (c : BitVec 32) (o : Obj) : SeesB ((w.alloc (.cells ((laidS c).map vb).toArray 54)).alloc o) (.slice (some ⟨w.heap.size, 0, none⟩) 4 4) (laidS c) := by
  refine ⟨some ⟨w.heap.size, 0, none⟩, 4, rfl, ⟨Nat.le_refl _, fun e => by cases e⟩, fun k u hu => ⟨_, rfl, by simp; omega, ?_⟩⟩
  have h1 := heap_old (heap_new w (.cells ((laidS c).map vb).toArray 54)) o
  have ha : (⟨w.heap.size, 0, none⟩ : Addr).add k = ⟨w.heap.size, k, none⟩ := by unfold Addr.add; split <;> simp_all
  rw [ha, cell_of_tab h1]
  simpa using hu
set_option maxRecDepth 20000 in
set_option maxHeartbeats 800000 in
theorem seal_any (v : Value) (bs : List (BitVec 8)) (hn : bs.length ≤ 3500) (w : World) (hs : SeesB w v bs) :
    Calls Tryd.prog 28 #[v] w fun e b => ∃ g G, e = .returned (.slice (some ⟨g, 0, none⟩) (bs.length + 4) G) ∧
      b.ownsRow w.heap.size 5 1 (.slice (some ⟨g, 0, none⟩) (bs.length + 4) G) (bs.length + 4) ((sealS bs).map vb) ∧ Below w.heap.size w b := by
  obtain ⟨ao, cap, rfl⟩ := hs.slice
  have ho := of_any _ bs w (by omega) hs
  have hl := fun u => laid_any (ofS bs) u
  have HS : Hid (sealS bs = bs ++ laidS (ofS bs)) := rfl
  have hR := fun u o => laid_row u (ofS bs) o
  have hL : ((laidS (ofS bs)).map vb).length = 4 := rfl
  have hst := fun (u : World) => run_storeCells_new (P := Tryd.prog) u 54 #[.int .u8 0, .int .u8 0, .int .u8 0, .int .u8 0] ((laidS (ofS bs)).map vb).toArray size38 rfl (Array.all_eq_true_iff_forall_mem.2 fun x hx => bs_one (laidS (ofS bs)) x (by simpa using hx))
  have hcat := concat_any
  generalize sealS bs = Z at HS ⊢
  generalize ofS bs = C at ho hl HS hR hL hst
  have HR : Hid (∀ (u : World) (o : Obj), SeesB ((u.alloc (.cells ((laidS C).map vb).toArray 54)).alloc o) (.slice (some ⟨u.heap.size, 0, none⟩) 4 4) (laidS C)) := hR
  have HB : Hid ((laidS C).length = 4) := rfl
  obtain ⟨A, hA⟩ : ∃ A, (laidS C).map vb = A := ⟨_, rfl⟩
  have HA : Hid ((laidS C).map vb = A) := hA
  rw [hA] at hl hL hst
  clear hA hR
  go_enter Tryd.func28, Tryd.ntmps28
  go_upto_region 2 with (first
    | (go_at_call 40; refine ho.mono ?_; rintro e w1 ⟨rfl, b1⟩)
    | (go_at_call 39; refine (hl _).mono ?_; rintro e w2 ⟨rfl, b2⟩))
  obtain ⟨g, hg⟩ : ∃ g, w2.heap.size = g := ⟨_, rfl⟩
  obtain ⟨W, hW⟩ : ∃ W, w2.alloc (.cells A.toArray 54) = W := ⟨_, rfl⟩
  have HRW : Hid (∀ o, SeesB (W.alloc o) (.slice (some ⟨g, 0, none⟩) 4 4) (laidS C)) := fun o => by
    have := HR.out w2 o
    rw [HA.out, hW, hg] at this
    exact this
  have b3 : Below w.heap.size w W := by
    have := bt (bt b1 b2) (box_below w2 (.cells A.toArray 54))
    rw [hW] at this; exact this
  rw [hW, hg]
  clear hW hg HR HA b1 b2 hst hl ho hL
  have e4 : bs.length + (laidS C).length = bs.length + 4 := by rw [HB.out]
  go_wp2_with (go_at_call 41; refine (hcat _ _ _ _ bs (laidS C) (by rw [HB.out]; omega) (by omega) (by rw [HB.out]; omega) _ (heap_new _ _) (hs.below (bt b3 (box_below _ _))) (HRW.out _)).mono ?_; rintro e w4 ⟨g4, G4, rfl, ho4, b4⟩)
  go_ret
  rw [HS.out]
  exact ⟨g4, G4, rfl, own_mono ho4 (bt b3 (box_below _ _)).size, bt (bt b3 (box_below _ _)) b4⟩

/-- 'append' of a row of bytes, whatever it is, to a row that the call made -/
theorem app8 {ops : Array Oper} {rest : List Oper} {o : Oper} {a : Act} {Q : Exit → Act → World → Prop} {w : World} (hg : o.guard = none) (s x : Operand)
    (hop : o.op = Op.call { callee := Callee.builtin Builtin.append, args := #[s, x], argTypes := #[25, 25] }) (base : Nat) (v : Value) (n : Nat) (xs : List Value)
    (hs : a.eval s = v) (hown : w.ownsRow base 5 1 v n xs) (hb : base ≤ w.heap.size) (vx : Value) (bs : List (BitVec 8)) (hx : a.eval x = vx) (sx : SeesB w vx bs) (hl : n + bs.length ≤ 100000)
    (hK : ∀ v' w', w'.ownsRow base 5 1 v' (n + bs.length) (xs ++ bs.map vb) → w.grownBy w' v.ownBlock → wpList Tryd.prog ops Q rest (a.put o.dst v') w') : wpList Tryd.prog ops Q (o :: rest) a w := by
  obtain ⟨i0, hi, hz0, hz1, hz2⟩ := info_parts info5
  obtain ⟨ao, cap, rfl⟩ := sx.slice
  cases ao with
  | some ad => exact wpList_append_own _ hg _ _ 25 hop base 5 i0 (.int .u8 0) 1 1 under23 hi hz0 hz1 hz2 rfl (by decide) _ _ _ hs hown ad bs.length cap (bs.map vb) hx (by simp) (sees_cells sx) (bs_one bs) (by unfold maxLen; omega) (by omega) hb (fun v' w' h1 h2 _ => hK v' w' h1 h2)
  | none =>
    have h0 : bs.length = 0 := (Row.of_none sx).1
    have hc0 : cap = 0 := (Row.of_none sx).2
    obtain rfl : bs = [] := List.eq_nil_of_length_eq_zero h0
    subst hc0
    refine wpList_plain hg fun K hK' => ?_
    have hrun := run_append_owned_none (P := Tryd.prog) w base 25 o.type 5 i0 1 under23 hi _ n xs hown
    unfold Oper.wp
    simp [execOp, hop, resolve, invoke, builtin, hs, hx, hrun, Result.andThen]
    exact hK' _ _ (hK v w (by simpa using hown) (gb_refl _ _))
theorem own_nil8 (w : World) (fz : Nat) (h : fz = w.heap.size) : (w.alloc (.cells #[] 5)).ownsRow fz 5 1 (.slice (some ⟨w.heap.size, 0, none⟩) 0 0) 0 [] :=
  ⟨rfl, .inr ⟨_, 0, #[], rfl, by omega, heap_new _ _, Nat.le_refl _, Nat.zero_le _, rfl, rfl⟩⟩
theorem one8 (w : World) (b : BitVec 8) : SeesB (w.alloc (.cells #[.int .u8 (iv b)] 5)) (.slice (some ⟨w.heap.size, 0, none⟩) 1 1) [b] := by
  refine ⟨some ⟨w.heap.size, 0, none⟩, 1, rfl, ⟨Nat.le_refl _, fun e => by cases e⟩, fun k u hu => ⟨_, rfl, by simp, ?_⟩⟩
  have hk : k = 0 := by have := (List.getElem?_eq_some_iff.1 hu).1; simp at this; omega
  subst hk
  have ha : (⟨w.heap.size, 0, none⟩ : Addr).add 0 = ⟨w.heap.size, 0, none⟩ := by unfold Addr.add; split <;> simp_all
  rw [ha, cell_of_tab (heap_new w _)]
  simpa using hu
/-- a sum's bytes, by quotients -/
def byt (c : BitVec 32) (k : Nat) : BitVec 8 := (c >>> (8 * k)).setWidth 8
theorem laid_byt (c : BitVec 32) : laidS c = (List.range 4).map (byt c) := rfl
set_option maxRecDepth 20000 in
set_option maxHeartbeats 800000 in
theorem rseal_any (v : Value) (bs : List (BitVec 8)) (hn : bs.length ≤ 3500) (w : World) (hs : SeesB w v bs) :
    Calls Tryd.prog 29 #[v] w fun e b => ∃ v', e = .returned v' ∧ SeesB b v' (sealS bs) ∧ Below w.heap.size w b := by
  obtain ⟨ao, cap, hv⟩ := hs.slice
  have ho := fun u (hu : SeesB u v bs) => rof_any _ bs u (by omega) hu
  have HS : Hid (sealS bs = bs ++ (List.range 4).map (byt (ofS bs))) := rfl
  have h00 := own_nil8 w w.heap.size rfl
  have hs1 := hs.below (box_below w (.cells #[] 5))
  have HV : Hid (v = .slice ao bs.length cap) := hv
  generalize sealS bs = Z at HS ⊢
  generalize ofS bs = C at ho HS
  subst hv
  go_enter Tryd.func29, Tryd.ntmps29
  go_wp2_with (first
    | (at_builtin; refine app8 rfl _ _ rfl w.heap.size _ 0 [] rfl h00 (box_below w _).size _ bs rfl hs1 (by omega) ?_; intro v2 w2 hown2 hg2; have hb2 : Below w.heap.size w w2 := (box_below w _).grown hg2 (box_below w _).size (fun m e => by cases e; exact Nat.le_refl _))
    | (go_at_call 42; refine (ho _ (hs.below hb2)).mono ?_; rintro e w3 ⟨rfl, hq⟩; rw [hq]; clear hq))
  have HQ : Hid (SeesB w (.slice ao bs.length cap) bs) := hs
  clear ho hs1 h00 hg2 hs
  have ho2 : w2.ownsRow w.heap.size 5 1 v2 (bs.length + 0) (bs.map vb ++ ((List.range 0).map (byt C)).map vb) := by simpa using hown2
  clear hown2
  obtain ⟨g, hg⟩ : ∃ g, w.heap.size = g := ⟨_, rfl⟩
  have HG : Hid (w.heap.size = g) := hg
  obtain ⟨n, hn'⟩ : ∃ n, bs.length = n := ⟨_, rfl⟩
  have HN : Hid (bs.length = n) := hn'
  rw [hg] at ho2 hb2
  rw [hn'] at ho2 hn ⊢
  have m : ∀ D : BitVec 32, (iv D).tmod 256 = iv (D.setWidth 8) ∧ (iv D).tdiv 256 % (4294967296 : Int) = iv (D >>> 8) := fun D => by
    have h0 := iv_lt32 D
    have h1 : iv D / (256 : Int) = iv (D >>> 8) := shr_iv D 8
    rw [Int.tmod_eq_emod_of_nonneg h0.1, Int.tdiv_eq_ediv_of_nonneg h0.1, h1, low8_iv]
    have := iv_lt32 (D >>> 8)
    exact ⟨rfl, by omega⟩
  clear hg hn'
  go_loopw [5, 3, 4] (fun i v s wr => ∃ k : Nat, k ≤ 4 ∧ i = .int .i64 k ∧ s = .int .u32 (iv (C >>> (8 * k))) ∧
    wr.ownsRow g 5 1 v (n + k) (bs.map vb ++ ((List.range k).map (byt C)).map vb) ∧ Below g w wr) (fun i _ _ _ => 4 - (intOf i).toNat)
  case atStart => exact ⟨0, Nat.zero_le _, rfl, rfl, ho2, hb2⟩
  case round =>
    clear ho2 hb2
    obtain ⟨k, hk, rfl, rfl, hown, hbl⟩ := hrel
    have hsz : g ≤ wr.heap.size := Nat.le_trans (Nat.le_of_eq HG.out.symm) hbl.size
    by_cases hlt : k < 4
    · obtain ⟨m1, m2⟩ := m (C >>> (8 * k))
      have e1 : C >>> (8 * k) >>> 8 = C >>> (8 * (k + 1)) := by rw [← BitVec.shiftRight_add, Nat.mul_add]
      rw [e1] at m2
      have HY : Hid ((List.range (k + 1)).map (byt C) = (List.range k).map (byt C) ++ [(C >>> (8 * k)).setWidth 8]) := by unfold Hid; rw [List.range_succ, List.map_append]; rfl
      clear m e1
      generalize (C >>> (8 * k)).setWidth 8 = b at m1 HY
      have m3 : iv b % 256 = iv b := by have := iv_lt8 b; omega
      have hone := one8 wr b
      have h0 := hown.alloc (.cells #[.int .u8 (iv b)] 5)
      obtain ⟨D1, hD1⟩ : ∃ D1, iv (C >>> (8 * (k + 1))) = D1 := ⟨_, rfl⟩
      have HD1 : Hid (iv (C >>> (8 * (k + 1))) = D1) := hD1
      rw [hD1] at m2
      clear hD1
      generalize iv (C >>> (8 * k)) = D at m1 m2
      go_wp2_with (at_builtin; refine app8 rfl _ _ rfl g _ (n + k) _ rfl h0 (Nat.le_trans hsz (box_below _ _).size) _ [b] rfl hone (by simp; omega) ?_; intro v5 w5 hown5 hg5; have hb5 : Below g w w5 := (hbl.alloc hsz _).grown hg5 (Nat.le_trans hsz (box_below _ _).size) (fun m e => (hown.lt m e).1))
      have hown6 : w5.ownsRow g 5 1 v5 (n + (k + 1)) (bs.map vb ++ ((List.range (k + 1)).map (byt C)).map vb) := by
        rw [HY.out, List.map_append, ← List.append_assoc]; exact hown5
      go_roundw
      case rel => exact ⟨k + 1, by omega, by go_num, by rw [HD1.out, m2], hown6, hb5⟩
      case measure => simp [intOf]; omega
    · have e : k = 4 := by omega
      subst e
      go_wp2
      go_ret
      refine ⟨_, rfl, ?_, ?_⟩
      · rw [HS.out]
        have := Row.own hown
        rw [← List.map_append] at this
        exact this
      · rw [HG.out]; exact hbl
end Go.Proofs.YtnkghcbjokmooaaDoor.Gr
