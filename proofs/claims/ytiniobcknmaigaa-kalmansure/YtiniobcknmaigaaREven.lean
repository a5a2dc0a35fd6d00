/-
  The contract of the document's Even.
-/
import Derived.Test.YtiniobcknmaigaaRTrans
import Derived.Test.YtiniobcknmaigaaRHalf
namespace Go.Proofs.Ytiniobcknmaigaa
open Go.RowKit Go.Sort Qm

namespace Qm
def evt (c : Nat) (xs : List Int) : Nat → Int := fun p => half (ge xs p + ge xs ((p % c) * c + p / c)) 1
theorem evt_at {c i k : Nat} (xs : List Int) (hk : k < c) : evt c xs (i * c + k) = half (ge xs (i * c + k) + ge xs (k * c + i)) 1 := by unfold evt; rw [mod_of hk, div_of hk]
end Qm

set_option maxRecDepth 20000 in
set_option maxHeartbeats 1600000 in
theorem reven_own (C : Nat) (h2 : 1 ≤ C) (hC : C ≤ 8) (v : Value) (xs : List Int) (hn : xs.length = C * C) (hal : AllIn xs) (w : World) (hs : Sees w v xs) :
    Calls Try.prog 39 #[.agg #[.int .i64 C, .int .i64 C, v]] w fun e b =>
      ∃ v, e = .returned (.tuple #[.agg #[.int .i64 C, .int .i64 C, v], .bool false, .int .i64 0]) ∧ b.ownsRow w.heap.size 41 1 v (C * C) ((evn C xs).map (Value.int .i64)) ∧ Below w.heap.size w b := by
  have h64 : C * C ≤ 64 := mul_le_64 hC hC
  have hno := fun w => none_any C C hC hC h2 h2 w
  obtain ⟨n, hn'⟩ : ∃ n, xs.length = n := ⟨_, rfl⟩
  have hq : C * C = n := by omega
  have HQ : Hid (C * C = n) := hq
  rw [hq] at hno
  rw [hq] at h64
  obtain ⟨ao, cap, rfl, ha⟩ := hs
  rw [hn'] at ha ⊢
  have hs : Sees w (.slice ao n cap) xs := ⟨ao, cap, by rw [hn'], by rw [hn']; exact ha⟩
  have hxl : n ≤ xs.length := by omega
  have HT : Hid (tab (upto (evt C xs) n) n = evn C xs) := by show _ = _; unfold evn; rw [hq]; exact upto_all _ _
  clear hn hn' hq ha
  obtain ⟨W, hW⟩ : ∃ W, (w.alloc (.cells #[.int .i64 C, .int .i64 C, .slice ao n cap] 24)).alloc (.cells #[.int .i64 0, .int .i64 0, .slice none 0 0] 24) = W := ⟨_, rfl⟩
  obtain ⟨x1, x2⟩ := allocs2 w (.cells #[.int .i64 C, .int .i64 C, .slice ao n cap] 24) (.cells #[.int .i64 0, .int .i64 0, .slice none 0 0] 24)
  have bq := ball2 w (.cells #[.int .i64 C, .int .i64 C, .slice ao n cap] 24) (.cells #[.int .i64 0, .int .i64 0, .slice none 0 0] 24)
  rw [hW] at x1 x2 bq
  obtain ⟨u0, u1, u2, _⟩ := mat_cells x1
  go_enter Try.func39, Try.ntmps39
  go_wp2_with (go_at_call 25; refine (hno _).mono ?_; rintro e w1 ⟨g, gc, rfl, hown, b1⟩)
  clear u0 u1 u2
  have hgW := (hown.lt g rfl).1
  have hDg : w.heap.size + 1 < g := Nat.lt_of_lt_of_le (lt_of_block x2) hgW
  have y1 := heap_old (keep b1 x1) (.cells #[.int .i64 C, .int .i64 C, .slice (some ⟨g, 0, none⟩) n gc] 24)
  have y2 := heap_old (keep b1 x2) (.cells #[.int .i64 C, .int .i64 C, .slice (some ⟨g, 0, none⟩) n gc] 24)
  have y3 := heap_new w1 (.cells #[.int .i64 C, .int .i64 C, .slice (some ⟨g, 0, none⟩) n gc] 24)
  have bw := (bt (bt bq b1) (box_below w1 (.cells #[.int .i64 C, .int .i64 C, .slice (some ⟨g, 0, none⟩) n gc] 24)))
  have F0 : Fills (w1.alloc (.cells #[.int .i64 C, .int .i64 C, .slice (some ⟨g, 0, none⟩) n gc] 24)) g gc n (fun _ => 0) (w1.alloc (.cells #[.int .i64 C, .int .i64 C, .slice (some ⟨g, 0, none⟩) n gc] 24)) := Fills.start (hown.alloc _)
  have hgw : w.heap.size ≤ g := Nat.le_trans bq.size hgW
  obtain ⟨V, hV⟩ : ∃ V, w1.alloc (.cells #[.int .i64 C, .int .i64 C, .slice (some ⟨g, 0, none⟩) n gc] 24) = V := ⟨_, rfl⟩
  rw [hV] at y1 y2 y3 bw F0 ⊢
  have gx1 := F0.apart y1
  have gx2 := F0.apart y2
  have gx3 := F0.apart y3
  clear hV hW x1 x2 hown b1 bq hno
  go_loopw [6] (fun i wr => ∃ a : Nat, a ≤ C ∧ i = .int .i64 a ∧ Fills V g gc n (upto (evt C xs) (a * C)) wr) (fun i _ => C - (intOf i).toNat)
  case atStart => exact ⟨0, Nat.zero_le _, rfl, by rw [Nat.zero_mul]; exact F0.congr (upto_zero _ n)⟩
  case round =>
    clear F0
    obtain ⟨i, hi, rfl, hF⟩ := hrel
    obtain ⟨u0, u1, u2, _⟩ := mat_cells (hF.keep y1 gx1)
    by_cases hlt : i < C
    · go_wp2
      clear u0 u1 u2
      go_loopw [7] (fun c wr => ∃ a : Nat, a ≤ C ∧ c = .int .i64 a ∧ Fills V g gc n (upto (evt C xs) (i * C + a)) wr) (fun c _ => C - (intOf c).toNat)
      case atStart => exact ⟨0, Nat.zero_le _, rfl, hF⟩
      case round =>
        clear hF
        obtain ⟨k, hk, rfl, hF⟩ := hrel
        obtain ⟨u0, u1, u2, _⟩ := mat_cells (hF.keep y1 gx1)
        by_cases hlk : k < C
        · obtain ⟨v0, v1, v2, _⟩ := mat_cells (hF.keep y3 gx3)
          have pA : i * C + k < n := by rw [← HQ.out]; exact at_lt hlt hlk
          have pB : k * C + i < n := by rw [← HQ.out]; exact at_lt hlk hlt
          have hc := hF.cell pA
          have hf := hF.free (i * C + k)
          have HF := (hF.drew).store (i * C + k) (half (ge xs (i * C + k) + ge xs (k * C + i)) 1)
          rw [← evt_at xs hlk] at HF
          have HF := HF.congr (upto_succ (evt C xs) (i * C + k) n)
          rw [evt_at xs hlk] at HF
          obtain ⟨ad, hao, ca⟩ := (hF.sees hs bw hgw).at (i * C + k) (by omega)
          obtain ⟨ad', hao', cb⟩ := (hF.sees hs bw hgw).at (k * C + i) (by omega)
          have hadd : ad' = ad := by rw [hao] at hao'; exact (Option.some.inj hao').symm
          subst hadd
          subst hao
          clear hao'
          have EA : Hid (i * C + (k + 1) = i * C + k + 1) := rfl
          have xb := hal (i * C + k)
          have yb := hal (k * C + i)
          obtain ⟨x, hx⟩ : ∃ x, ge xs (i * C + k) = x := ⟨_, rfl⟩
          obtain ⟨y, hy⟩ : ∃ y, ge xs (k * C + i) = y := ⟨_, rfl⟩
          rw [hx] at HF ca xb
          rw [hy] at HF cb yb
          obtain ⟨z, hz⟩ : ∃ z, x + y = z := ⟨_, rfl⟩
          have hwz : IntKind.i64.wrap z = z := wrap_in (by omega) (by omega)
          have z0 : -9223372036854775808 ≤ z := by omega
          have z1 : z ≤ 9223372036854775807 := by omega
          rw [hz] at HF
          obtain ⟨hv, hhv⟩ : ∃ hv, half z 1 = hv := ⟨_, rfl⟩
          have hrh := rhalf_any z 1 wr.drew z0 z1
          rw [hhv] at HF hrh
          obtain ⟨qa, hqa⟩ : ∃ qa, i * C = qa := ⟨_, rfl⟩
          obtain ⟨qb, hqb⟩ : ∃ qb, k * C = qb := ⟨_, rfl⟩
          have hqa' : (i : Int) * (C : Int) = (qa : Int) := by rw [← hqa]; exact (Int.natCast_mul i C).symm
          have hqb' : (k : Int) * (C : Int) = (qb : Int) := by rw [← hqb]; exact (Int.natCast_mul k C).symm
          rw [hqa] at HF ca pA EA hc hf
          rw [hqb] at cb pB
          have ba : qa ≤ 64 := by omega
          have bb : qb ≤ 64 := by omega
          have HA : Hid (i * C = qa) := hqa
          clear hx hy hF hqa hqb xb yb hhv
          have ia : IntKind.i64.wrap (qa : Int) = (qa : Int) := wrap_in (by omega) (by omega)
          have ib : IntKind.i64.wrap (qb : Int) = (qb : Int) := wrap_in (by omega) (by omega)
          have ic : IntKind.i64.wrap ((qa : Int) + (k : Int)) = (qa : Int) + (k : Int) := wrap_in (by omega) (by omega)
          have id : IntKind.i64.wrap ((qb : Int) + (i : Int)) = (qb : Int) + (i : Int) := wrap_in (by omega) (by omega)
          have ta : ((qa : Int) + (k : Int)).toNat = qa + k := by omega
          have tb : ((qb : Int) + (i : Int)).toNat = qb + i := by omega
          have la : (qa : Int) + (k : Int) < (n : Int) := by omega
          have lb : (qb : Int) + (i : Int) < (n : Int) := by omega
          have za : (0 : Int) ≤ (qa : Int) + (k : Int) := by omega
          have zb : (0 : Int) ≤ (qb : Int) + (i : Int) := by omega
          go_wp2
          refine wp_region_still_tail 31 (by kernel_rfl) (by kernel_rfl) ?_
          simp only [List.take_succ_cons, List.take_zero, List.drop_succ_cons, List.drop_zero]
          repeat (first | still_step | still_call hrh)
          refine wpStill_nil ?_
          change wpList Try.prog _ _ _ _ wr.drew
          go_wp2
          go_roundw
          case rel => exact ⟨k + 1, by omega, by go_num, by rw [HA.out, EA.out]; exact HF⟩
          case measure => simp [intOf]; omega
        · have e : k = C := by omega
          subst e
          go_wp2
          go_roundw
          case rel => exact ⟨i + 1, by omega, by go_num, by rw [Nat.succ_mul]; exact hF⟩
          case measure => simp [intOf]; omega
    · have e : i = C := by omega
      subst e
      rw [HQ.out] at hF
      obtain ⟨v0, v1, v2, _⟩ := mat_cells (hF.keep y3 gx3)
      obtain ⟨d0, d1, d2, f0, f1, f2⟩ := mat_cells (hF.keep y2 gx2)
      have hsh := hF.owns (B := w.heap.size) hgw hDg
      rw [HT.out] at hsh
      have hbl := hF.below bw hgw
      clear hF
      go_wp2
      refine bodyPost_ret (v := .tuple #[.agg #[.int .i64 i, .int .i64 i, .slice (some ⟨g, 0, none⟩) n gc], .bool false, .int .i64 0]) (by simp [results, Try.results39, go_sem, d0, d1, d2]) rfl ?_
      refine ⟨_, rfl, ?_, below_put hbl (by omega) _ _ _⟩
      rw [HQ.out]
      exact hsh _ _ _

theorem reven_any (C : Nat) (h2 : 1 ≤ C) (hC : C ≤ 8) (v : Value) (xs : List Int) (hn : xs.length = C * C) (hal : AllIn xs) (w : World) (hs : Sees w v xs) :
    Calls Try.prog 39 #[.agg #[.int .i64 C, .int .i64 C, v]] w fun e b =>
      ∃ v, e = .returned (.tuple #[.agg #[.int .i64 C, .int .i64 C, v], .bool false, .int .i64 0]) ∧ Sees b v (evn C xs) ∧ New w.heap.size v ∧ Below w.heap.size w b := by
  refine (reven_own C h2 hC v xs hn hal w hs).mono ?_
  rintro e b ⟨v, he, ho, hb⟩
  exact ⟨v, he, Sees.own ho, New.own ho, hb⟩

set_option maxRecDepth 20000 in
theorem reven_not (R C : Nat) (h : R ≠ C) (v : Value) (xs : List Int) (w : World) (hs : Sees w v xs) :
    Calls Try.prog 39 #[.agg #[.int .i64 R, .int .i64 C, v]] w fun e b =>
      e = .returned (.tuple #[.agg #[.int .i64 0, .int .i64 0, .slice none 0 0], .bool false, .int .i64 9]) ∧ Below w.heap.size w b := by
  obtain ⟨ao, cap, rfl⟩ := hs.slice
  clear hs
  have e3 : ¬ ((R : Int) = (C : Int)) := by omega
  clear h
  have b0 := ball2 w (.cells #[.int .i64 R, .int .i64 C, .slice ao xs.length cap] 24) (.cells #[.int .i64 0, .int .i64 0, .slice none 0 0] 24)
  go_enter Try.func39, Try.ntmps39
  go_wp2
  refine bodyPost_ret (v := .tuple #[.agg #[.int .i64 0, .int .i64 0, .slice none 0 0], .bool false, .int .i64 9]) (by simp [results, Try.results39, go_sem]) rfl ?_
  exact ⟨rfl, b0⟩
end Go.Proofs.Ytiniobcknmaigaa
