/-
  slices.Grow of nothing, slices.Concat of two rows of words, slices.Clone of a row of words.
-/
import Derived.Test.YtcfobifldlkfnaaDW
import Derived.Test.YtcfobifldlkfnaaDKo
import Derived.Lib.AppendZerosOnto
namespace Go.Proofs.Ytcfobifldlkfnaa.Gr
open Go.RowKit Go.Sort
set_option linter.unusedVariables false

theorem under3i : Try.prog.underlying 3 = some (.int .i64) := by kernel_rfl
theorem zeroCells_one (z : Value) (n : Nat) (h : z.cells.size = 1) : (Builtin.zeroCells z.cells n).size = n := by rw [size_zeroCells, h, Nat.mul_one]
set_option maxRecDepth 20000 in
set_option maxHeartbeats 400000 in
theorem grow64 (n : Nat) (h0 : 0 < n) (hn : n ≤ 9000) (w : World) :
    Calls Try.prog 41 #[.slice none 0 0, .int .i64 n] w fun e b => ∃ G, e = .returned (.slice (some ⟨w.heap.size, 0, none⟩) 0 G) ∧ n ≤ G ∧
      b.ownsRow w.heap.size 2 1 (.slice (some ⟨w.heap.size, 0, none⟩) 0 G) 0 [] ∧ Below w.heap.size w b := by
  obtain ⟨i0, hi, hz0, hz1, hz2⟩ := info_parts info2
  have hge := grownCap_ge w n 0 2
  have hgm := grownCap_le_maxLen w n 0 2 (by unfold maxLen; omega)
  have hgm' : grownCap w n 0 2 ≤ 9223372036854775807 := by unfold maxLen at hgm; omega
  have hr := fun ty => Lib.run_append_nil_zeros (P := Try.prog) w 22 3 ty 2 i0 (.int .i64 0) .i64 .i64 under22 under3i hi hz0 n h0 (by omega) (by omega) (by rw [hz2]; omega)
  generalize grownCap w n 0 2 = G at hge hgm hgm' hr
  have ho : (w.drew.alloc (.cells (Builtin.zeroCells (Value.int .i64 0).cells n ++ Builtin.zeroCells (Value.int .i64 0).cells (G - n)) 2)).ownsRow w.heap.size 2 1 (.slice (some ⟨w.heap.size, 0, none⟩) 0 G) 0 [] := by
    refine ⟨rfl, .inr ⟨w.heap.size, G, _, rfl, Nat.le_refl _, heap_new w.drew _, Nat.zero_le _, hgm, ?_, by simp⟩⟩
    rw [Array.size_append, zeroCells_one _ _ rfl, zeroCells_one _ _ rfl]; omega
  have hb : Below w.heap.size w (w.drew.alloc (.cells (Builtin.zeroCells (Value.int .i64 0).cells n ++ Builtin.zeroCells (Value.int .i64 0).cells (G - n)) 2)) := (Below.refl _ _).drew.alloc (Nat.le_refl _) _
  generalize w.drew.alloc (.cells (Builtin.zeroCells (Value.int .i64 0).cells n ++ Builtin.zeroCells (Value.int .i64 0).cells (G - n)) 2) = V at hr ho hb
  go_enter Try.func41, Try.ntmps41
  go_wp2_with (at_builtin; refine Lib.wpList_append_run _ rfl _ _ _ _ rfl _ _ rfl rfl _ _ (hr _) ?_)
  go_ret
  exact ⟨G, rfl, hge, ho, hb⟩

/-- what has been laid of two rows -/
def two64 (xs ys : List Int) : Nat → List Int
  | 0 => []
  | 1 => xs
  | _ => xs ++ ys
def twoL64 (n m : Nat) : Nat → Nat
  | 0 => 0
  | 1 => n
  | _ => n + m
theorem news64 {w : World} {v : Value} {ao : Option Addr} {n cap : Nat} {bs : List Int} (h : SeesI w v bs) (hv : v = .slice ao n cap) : ∀ ad, ao = some ad → ∀ (j : Nat) (u : Value), (bs.map vw)[j]? = some u → w.cell? (ad.add j) = some u := by
  intro ad e j u hj
  subst hv
  obtain ⟨ad', e', _, hc⟩ := Row.at h hj
  rw [e] at e'
  cases e'
  exact hc
set_option maxRecDepth 20000 in
set_option maxHeartbeats 800000 in
theorem concat64 (s : Nat) (t : TypeId) (v1 v2 : Value) (xs ys : List Int) (h0 : 0 < xs.length + ys.length) (hx : xs.length ≤ 4000) (hy : ys.length ≤ 4000) (w : World)
    (hs : w.heap[s]? = some (.cells #[v1, v2] t (0, 0))) (s1 : SeesI w v1 xs) (s2 : SeesI w v2 ys) :
    Calls Try.prog 38 #[.slice (some ⟨s, 0, none⟩) 2 2] w fun e b => ∃ g G, e = .returned (.slice (some ⟨g, 0, none⟩) (xs.length + ys.length) G) ∧
      b.ownsRow w.heap.size 2 1 (.slice (some ⟨g, 0, none⟩) (xs.length + ys.length) G) (xs.length + ys.length) ((xs ++ ys).map vw) ∧ Below w.heap.size w b := by
  obtain ⟨i0, hi, hz0, hz1, hz2⟩ := info_parts info2
  obtain ⟨ao, cap, hv1⟩ := s1.slice
  obtain ⟨bo, bcap, hv2⟩ := s2.slice
  have HS1 : Hid (SeesI w v1 xs) := s1
  have HS2 : Hid (SeesI w v2 ys) := s2
  have hc0 : w.cell? ⟨s, 0, none⟩ = some v1 := by simp [World.cell?, hs]
  have hc1 : w.cell? ⟨s, 1, none⟩ = some v2 := by simp [World.cell?, hs]
  have hsl := lt_of_block hs
  have L1 : Hid ((xs.map vw).length = xs.length * 1) := by unfold Hid; simp
  have L2 : Hid ((ys.map vw).length = ys.length * 1) := by unfold Hid; simp
  have N1 : Hid (ao = none → xs.length = 0 ∧ cap = 0) := fun e => by rw [hv1, e] at s1; exact Row.of_none s1
  have N2 : Hid (bo = none → ys.length = 0 ∧ bcap = 0) := fun e => by rw [hv2, e] at s2; exact Row.of_none s2
  have HV1 : Hid (v1 = .slice ao xs.length cap) := hv1
  have HV2 : Hid (v2 = .slice bo ys.length bcap) := hv2
  rw [hv1] at hc0
  rw [hv2] at hc1
  have O1 := ws_one xs
  have O2 := ws_one ys
  have HM : Hid (xs.map vw ++ ys.map vw = (xs ++ ys).map vw) := List.map_append.symm
  clear s1 s2 hs hv1 hv2
  generalize hX : xs.map vw = X at L1 O1 HM
  generalize hY : ys.map vw = Y at L2 O2 HM
  generalize hZ : (xs ++ ys).map vw = Z at HM ⊢
  have HX : Hid (xs.map vw = X) := hX
  have HY : Hid (ys.map vw = Y) := hY
  clear hX hY hZ
  generalize hn : xs.length = n at *
  generalize hm : ys.length = m at *
  clear hn hm
  go_enter Try.func38, Try.ntmps38
  go_wp2
  go_loop [11, 3] (fun i z => ∃ k : Nat, k ≤ 2 ∧ i = .int .i64 k ∧ z = .int .i64 (twoL64 n m k)) (fun i _ => 2 - (intOf i).toNat)
  case atStart => exact ⟨0, by omega, rfl, rfl⟩
  case round =>
    obtain ⟨k, hk, rfl, rfl⟩ := hrel
    rcases (by omega : k = 0 ∨ k = 1 ∨ k = 2) with rfl | rfl | rfl
    · have e0 : ((twoL64 n m 0 : Nat) : Int) = 0 := rfl
      go_wp2
      go_round
      case rel => exact ⟨1, by omega, rfl, rfl⟩
      case measure => simp [intOf]
    · have e0 : ((twoL64 n m 1 : Nat) : Int) = n := rfl
      go_wp2
      go_round
      case rel => exact ⟨2, by omega, rfl, by show _ = Value.int .i64 ((n + m : Nat) : Int); rw [Int.natCast_add]⟩
      case measure => simp [intOf]
    · have e0 : ((twoL64 n m 2 : Nat) : Int) = ((n + m : Nat) : Int) := rfl
      obtain ⟨q, hq⟩ : ∃ q, n + m = q := ⟨_, rfl⟩
      rw [hq] at e0 h0
      go_wp2_with (go_at_call 41; refine (grow64 q h0 (by omega) _).mono ?_; rintro e w1 ⟨G, rfl, hG, ho1, b1⟩)
      obtain ⟨g, hg⟩ : ∃ g, w.heap.size = g := ⟨_, rfl⟩
      have HG : Hid (w.heap.size = g) := hg
      rw [hg] at ho1 hsl ⊢
      have b1' : Below g w w1 := by rw [← hg]; exact b1
      have HP : Hid (∀ wr, Below g w wr → SeesI wr v1 xs ∧ SeesI wr v2 ys) := fun wr hb => by
        rw [← hg] at hb; exact ⟨HS1.out.below hb, HS2.out.below hb⟩
      clear hg b1 e0
      go_loopw [27, 6] (fun i v wr => ∃ k : Nat, k ≤ 2 ∧ i = .int .i64 k ∧ v = .slice (some ⟨g, 0, none⟩) (twoL64 n m k) G ∧
        wr.ownsRow g 2 1 (.slice (some ⟨g, 0, none⟩) (twoL64 n m k) G) (twoL64 n m k) (if k = 0 then [] else if k = 1 then X else Z) ∧ Below g w wr) (fun i _ _ => 2 - (intOf i).toNat)
      case atStart => exact ⟨0, by omega, rfl, rfl, ho1, b1'⟩
      case round =>
        clear ho1 b1'
        obtain ⟨k, hk, rfl, rfl, hown, hbl⟩ := hrel
        rcases (by omega : k = 0 ∨ k = 1 ∨ k = 2) with rfl | rfl | rfl
        · have t0 : twoL64 n m 0 = 0 := rfl
          have d0 : (if (0 : Nat) = 0 then ([] : List Value) else if (0 : Nat) = 1 then X else Z) = [] := rfl
          rw [d0, t0] at hown
          rw [t0]
          have c0 : wr.cell? ⟨s, 0, none⟩ = _ := (hbl.cell (p := ⟨s, 0, none⟩) hsl).trans hc0
          have hnews := news64 (HP.out wr hbl).1 HV1.out
          rw [HX.out] at hnews
          have hsz : g ≤ wr.heap.size := Nat.le_trans (Nat.le_of_eq HG.out.symm) hbl.size
          clear hc0 hc1
          go_wp2_with (at_builtin; refine wpList_append_fits_any _ rfl _ _ 22 rfl g 2 i0 1 under22 hi hz1 g 0 G [] rfl hown ao n cap X rfl L1.out N1.out hnews O1 (by omega) ?_; intro w2 hown2 hg2; have hbl2 : Below g w w2 := hbl.grown hg2 hsz (fun m e => by cases e; exact Nat.le_refl _))
          go_roundw
          case rel => exact ⟨1, by omega, rfl, rfl, by rw [Nat.zero_add] at hown2; exact hown2, hbl2⟩
          case measure => simp [intOf]
        · have t0 : twoL64 n m 1 = n := rfl
          have d0 : (if (1 : Nat) = 0 then ([] : List Value) else if (1 : Nat) = 1 then X else Z) = X := rfl
          rw [d0, t0] at hown
          rw [t0]
          have c0 : wr.cell? ⟨s, 1, none⟩ = _ := (hbl.cell (p := ⟨s, 1, none⟩) hsl).trans hc1
          have hnews := news64 (HP.out wr hbl).2 HV2.out
          rw [HY.out] at hnews
          have hsz : g ≤ wr.heap.size := Nat.le_trans (Nat.le_of_eq HG.out.symm) hbl.size
          clear hc0 hc1
          go_wp2_with (at_builtin; refine wpList_append_fits_any _ rfl _ _ 22 rfl g 2 i0 1 under22 hi hz1 g n G X rfl hown bo m bcap Y rfl L2.out N2.out hnews O2 (by omega) ?_; intro w2 hown2 hg2; have hbl2 : Below g w w2 := hbl.grown hg2 hsz (fun m e => by cases e; exact Nat.le_refl _))
          go_roundw
          case rel => exact ⟨2, by omega, rfl, by rw [← hq]; rfl, by rw [HM.out] at hown2; exact hown2, hbl2⟩
          case measure => simp [intOf]
        · have d0 : (if (2 : Nat) = 0 then ([] : List Value) else if (2 : Nat) = 1 then X else Z) = Z := rfl
          rw [d0] at hown
          go_wp2
          go_ret
          refine ⟨g, G, rfl, ?_, ?_⟩
          · rw [HG.out]; exact hown
          · rw [HG.out]; exact hbl


theorem run_nil22 (a : Option Addr) (l c : Nat) (w : World) : Sem.run Try.prog (binOp BinOp.eql 22 (.slice a l c) (.slice none 0 0)) w = .ok (.bool a.isNone) w := by
  have h := run_equal_slice_nil (P := Try.prog) (w := w) 22 2 a l c under22
  simp [binOp, go_sem, h]
set_option maxRecDepth 20000 in
set_option maxHeartbeats 400000 in
theorem clone64 (v : Value) (xs : List Int) (hn : xs.length ≤ 90000) (w : World) (hs : SeesI w v xs) :
    Calls Try.prog 26 #[v] w fun e b => ∃ v', e = .returned v' ∧ b.ownsRow w.heap.size 2 1 v' xs.length (xs.map vw) ∧ Below w.heap.size w b := by
  obtain ⟨ao, cap, rfl⟩ := hs.slice
  have hnil := fun u => run_nil22 ao xs.length cap u
  cases ao with
  | none =>
    have h0 : xs.length = 0 := by have := (Row.of_none hs).1; simpa using this
    have hc : cap = 0 := (Row.of_none hs).2
    obtain rfl : xs = [] := List.eq_nil_of_length_eq_zero h0
    subst hc
    have hnil0 := fun u => run_nil22 none 0 0 u
    have e0 : ([] : List Int).length = 0 := rfl
    rw [e0]
    clear hs hnil e0 h0
    go_enter Try.func26, Try.ntmps26
    go_wp2
    go_ret
    exact ⟨_, rfl, ⟨rfl, .inl ⟨rfl, rfl⟩⟩, Below.refl _ _⟩
  | some ad =>
    have h0 := own_nil64 w w.heap.size rfl
    have bz := box_below w (.cells #[] 2)
    have hs2 := hs.below bz
    obtain ⟨n, hn'⟩ : ∃ n, xs.length = n := ⟨_, rfl⟩
    have HL : Hid (xs.length = n) := hn'
    rw [hn'] at hn hnil hs2 ⊢
    clear hn' hs
    go_enter Try.func26, Try.ntmps26
    go_wp2_with (at_builtin; go_must (refine app64 rfl _ _ rfl w.heap.size _ 0 [] rfl h0 bz.size _ xs rfl hs2 (by rw [HL.out]; omega) ?_); intro v2 w2 hown2 hg2)
    go_ret
    refine ⟨_, rfl, ?_, bz.trans ((Below.refl _ _).grown hg2 bz.size (fun m e => by cases e; exact Nat.le_refl _))⟩
    rw [HL.out] at hown2
    simpa using hown2
end Go.Proofs.Ytcfobifldlkfnaa.Gr
