/-
  The contract of the document's Trans.
-/
import Derived.Test.YteohdhmimpajmaaRScale
import Derived.Test.YteohdhmimpajmaaEven
import Derived.StillTailTactics
namespace Go.Proofs.Yteohdhmimpajmaa
open Go.RowKit Go.Sort Qm

namespace Qm
theorem place_iff {r c i k p : Nat} (hi : i < r) (hk : k < c) (hp : p < c * r) : p = k * r + i ↔ (p % r) * c + p / r = i * c + k := by
  have hr : 0 < r := by omega
  have hpr : p / r < c := (Nat.div_lt_iff_lt_mul hr).2 hp
  have hd := Nat.div_add_mod p r
  constructor
  · rintro rfl
    rw [mod_of hi, div_of hi]
  · intro h
    have e1 := congrArg (· / c) h
    have e2 := congrArg (· % c) h
    simp only [div_of hpr, div_of hk, mod_of hpr, mod_of hk] at e1 e2
    rw [← hd, e1, e2, Nat.mul_comm]
/-- what stands where the first q numbers of a matrix have been turned -/
def tur (r c : Nat) (xs : List Int) (q : Nat) : Nat → Int := fun p => if (p % r) * c + p / r < q then ge xs ((p % r) * c + p / r) else 0
theorem tur_zero (r c : Nat) (xs : List Int) (n p : Nat) (_ : p < n) : (0 : Int) = tur r c xs 0 p := by simp [tur]
theorem tur_succ {r c i k : Nat} (xs : List Int) (hi : i < r) (hk : k < c) (p : Nat) (hp : p < c * r) : (if p = k * r + i then ge xs (i * c + k) else tur r c xs (i * c + k) p) = tur r c xs (i * c + k + 1) p := by
  have h := place_iff hi hk hp
  unfold tur
  by_cases e : p = k * r + i
  · rw [if_pos e, h.1 e, if_pos (by omega)]
  · rw [if_neg e]
    have : (p % r) * c + p / r ≠ i * c + k := fun e' => e (h.2 e')
    by_cases h2 : (p % r) * c + p / r < i * c + k
    · rw [if_pos h2, if_pos (by omega)]
    · rw [if_neg h2, if_neg (by omega)]
theorem tur_all {r c : Nat} (xs : List Int) (hr : 0 < r) : tab (tur r c xs (r * c)) (c * r) = trn r c xs := by
  unfold trn
  refine tab_congr fun p hp => ?_
  have hpr : p / r < c := (Nat.div_lt_iff_lt_mul hr).2 hp
  unfold tur
  rw [if_pos (at_lt (Nat.mod_lt p hr) hpr)]
end Qm

set_option maxRecDepth 20000 in
set_option maxHeartbeats 1600000 in
theorem rtrans_any (R C : Nat) (h1 : 1 ≤ R) (hR : R ≤ 8) (h2 : 1 ≤ C) (hC : C ≤ 8) (v : Value) (xs : List Int) (hn : xs.length = R * C) (w : World) (hs : Sees w v xs) :
    Calls Try.prog 30 #[.agg #[.int .i64 R, .int .i64 C, v]] w fun e b =>
      ∃ v, e = .returned (.agg #[.int .i64 C, .int .i64 R, v]) ∧ Sees b v (trn R C xs) ∧ New w.heap.size v ∧ Below w.heap.size w b := by
  have h64 : R * C ≤ 64 := mul_le_64 hR hC
  have hno := fun w => none_any C R hC hR h2 h1 w
  obtain ⟨n, hn'⟩ : ∃ n, xs.length = n := ⟨_, rfl⟩
  have hq : R * C = n := by omega
  have hq2 : C * R = n := by rw [Nat.mul_comm]; exact hq
  have HQ : Hid (R * C = n ∧ C * R = n) := ⟨hq, hq2⟩
  rw [hq2] at hno
  rw [hq] at h64
  obtain ⟨ao, cap, rfl, ha⟩ := hs
  rw [hn'] at ha ⊢
  have hs : Sees w (.slice ao n cap) xs := ⟨ao, cap, by rw [hn'], by rw [hn']; exact ha⟩
  have hxl : n ≤ xs.length := by omega
  have HT : Hid (tab (tur R C xs n) n = trn R C xs) := by have := tur_all (r := R) (c := C) xs (by omega); rw [hq, hq2] at this; exact this
  clear hn hn' hq hq2 ha
  obtain ⟨W, hW⟩ : ∃ W, (w.alloc (.cells #[.int .i64 R, .int .i64 C, .slice ao n cap] 24)).alloc (.cells #[.int .i64 0, .int .i64 0, .slice none 0 0] 24) = W := ⟨_, rfl⟩
  obtain ⟨x1, x2⟩ := allocs2 w (.cells #[.int .i64 R, .int .i64 C, .slice ao n cap] 24) (.cells #[.int .i64 0, .int .i64 0, .slice none 0 0] 24)
  have bq := ball2 w (.cells #[.int .i64 R, .int .i64 C, .slice ao n cap] 24) (.cells #[.int .i64 0, .int .i64 0, .slice none 0 0] 24)
  rw [hW] at x1 x2 bq
  obtain ⟨u0, u1, u2, _⟩ := mat_cells x1
  go_enter Try.func30, Try.ntmps30
  go_wp2_with (go_at_call 35; refine (hno _).mono ?_; rintro e w1 ⟨g, gc, rfl, hown, b1⟩)
  clear u0 u1 u2
  have hgW := (hown.lt g rfl).1
  have hDg : w.heap.size + 1 < g := Nat.lt_of_lt_of_le (lt_of_block x2) hgW
  have y1 := heap_old (keep b1 x1) (.cells #[.int .i64 C, .int .i64 R, .slice (some ⟨g, 0, none⟩) n gc] 24)
  have y2 := heap_old (keep b1 x2) (.cells #[.int .i64 C, .int .i64 R, .slice (some ⟨g, 0, none⟩) n gc] 24)
  have y3 := heap_new w1 (.cells #[.int .i64 C, .int .i64 R, .slice (some ⟨g, 0, none⟩) n gc] 24)
  have bw := (bt (bt bq b1) (box_below w1 (.cells #[.int .i64 C, .int .i64 R, .slice (some ⟨g, 0, none⟩) n gc] 24)))
  have F0 : Fills (w1.alloc (.cells #[.int .i64 C, .int .i64 R, .slice (some ⟨g, 0, none⟩) n gc] 24)) g gc n (fun _ => 0) (w1.alloc (.cells #[.int .i64 C, .int .i64 R, .slice (some ⟨g, 0, none⟩) n gc] 24)) := Fills.start (hown.alloc _)
  have hgw : w.heap.size ≤ g := Nat.le_trans bq.size hgW
  obtain ⟨V, hV⟩ : ∃ V, w1.alloc (.cells #[.int .i64 C, .int .i64 R, .slice (some ⟨g, 0, none⟩) n gc] 24) = V := ⟨_, rfl⟩
  rw [hV] at y1 y2 y3 bw F0 ⊢
  have gx1 := F0.apart y1
  have gx2 := F0.apart y2
  have gx3 := F0.apart y3
  clear hV hW x1 x2 hown b1 bq hno
  go_loopw [4] (fun i wr => ∃ a : Nat, a ≤ R ∧ i = .int .i64 a ∧ Fills V g gc n (tur R C xs (a * C)) wr) (fun i _ => R - (intOf i).toNat)
  case atStart => exact ⟨0, Nat.zero_le _, rfl, by rw [Nat.zero_mul]; exact F0.congr (tur_zero R C xs n)⟩
  case round =>
    clear F0
    obtain ⟨i, hi, rfl, hF⟩ := hrel
    obtain ⟨u0, u1, u2, _⟩ := mat_cells (hF.keep y1 gx1)
    by_cases hlt : i < R
    · go_wp2
      clear u0 u1 u2
      go_loopw [5] (fun c wr => ∃ a : Nat, a ≤ C ∧ c = .int .i64 a ∧ Fills V g gc n (tur R C xs (i * C + a)) wr) (fun c _ => C - (intOf c).toNat)
      case atStart => exact ⟨0, Nat.zero_le _, rfl, hF⟩
      case round =>
        clear hF
        obtain ⟨k, hk, rfl, hF⟩ := hrel
        obtain ⟨u0, u1, u2, _⟩ := mat_cells (hF.keep y1 gx1)
        by_cases hlk : k < C
        · obtain ⟨v0, v1, v2, _⟩ := mat_cells (hF.keep y3 gx3)
          have pA : i * C + k < n := by rw [← HQ.out.1]; exact at_lt hlt hlk
          have pB : k * R + i < n := by rw [← HQ.out.2]; exact at_lt hlk hlt
          have hc := hF.cell pB
          have hf := hF.free (k * R + i)
          have HF := ((hF.drew).store (k * R + i) (ge xs (i * C + k))).congr (by rw [← HQ.out.2]; exact tur_succ xs hlt hlk)
          obtain ⟨ad, rfl, ca⟩ := (hF.sees hs bw hgw).at (i * C + k) (by omega)
          have EA : Hid (i * C + (k + 1) = i * C + k + 1) := rfl
          obtain ⟨x, hx⟩ : ∃ x, ge xs (i * C + k) = x := ⟨_, rfl⟩
          rw [hx] at HF ca
          obtain ⟨qa, hqa⟩ : ∃ qa, i * C = qa := ⟨_, rfl⟩
          obtain ⟨qb, hqb⟩ : ∃ qb, k * R = qb := ⟨_, rfl⟩
          have hqa' : (i : Int) * (C : Int) = (qa : Int) := by rw [← hqa]; exact (Int.natCast_mul i C).symm
          have hqb' : (k : Int) * (R : Int) = (qb : Int) := by rw [← hqb]; exact (Int.natCast_mul k R).symm
          rw [hqa] at HF ca pA EA
          rw [hqb] at HF pB hc hf
          have ba : qa ≤ 64 := by omega
          have bb : qb ≤ 64 := by omega
          have HA : Hid (i * C = qa) := hqa
          clear hx hF hqa hqb
          have ia : IntKind.i64.wrap (qa : Int) = (qa : Int) := wrap_in (by omega) (by omega)
          have ib : IntKind.i64.wrap (qb : Int) = (qb : Int) := wrap_in (by omega) (by omega)
          have ic : IntKind.i64.wrap ((qa : Int) + (k : Int)) = (qa : Int) + (k : Int) := wrap_in (by omega) (by omega)
          have id : IntKind.i64.wrap ((qb : Int) + (i : Int)) = (qb : Int) + (i : Int) := wrap_in (by omega) (by omega)
          have ta : ((qa : Int) + (k : Int)).toNat = qa + k := by omega
          have tb : ((qb : Int) + (i : Int)).toNat = qb + i := by omega
          have la : (qa : Int) + (k : Int) < (n : Int) := by omega
          have lb : (qb : Int) + (i : Int) < (n : Int) := by omega
          have za : (0 : Int) ≤ (qa : Int) + (k : Int) := by omega
          have zb : (0 : Int) ≤ (qb : Int) + (i : Int) := by omega
          go_wp2
          go_still_tail 19, (by kernel_rfl)
          change wpList Try.prog _ _ _ _ wr.drew
          go_wp2
          go_roundw
          case rel => exact ⟨k + 1, by omega, by go_num, by rw [HA.out, EA.out]; exact HF⟩
          case measure => simp [intOf]; omega
        · have e : k = C := by omega
          subst e
          go_wp2
          go_roundw
          case rel => exact ⟨i + 1, by omega, by go_num, by rw [Nat.succ_mul]; exact hF⟩
          case measure => simp [intOf]; omega
    · have e : i = R := by omega
      subst e
      rw [HQ.out.1] at hF
      obtain ⟨v0, v1, v2, _⟩ := mat_cells (hF.keep y3 gx3)
      obtain ⟨d0, d1, d2, f0, f1, f2⟩ := mat_cells (hF.keep y2 gx2)
      have hsh := hF.shows
      rw [HT.out] at hsh
      have hbl := hF.below bw hgw
      clear hF
      go_wp2
      refine bodyPost_ret (v := .agg #[.int .i64 C, .int .i64 i, .slice (some ⟨g, 0, none⟩) n gc]) (by simp [results, Try.results30, go_sem, d0, d1, d2]) rfl ?_
      exact ⟨_, rfl, hsh.put (new_at g n gc) hDg _ _ _, (new_at g n gc).mono hgw, below_put hbl (by omega) _ _ _⟩
end Go.Proofs.Yteohdhmimpajmaa
