/-
  Texts joined, in the order in which they stand on one another: RTrans Summed MulA.
-/
import Derived.Test.YtiniobcknmaigaaGreatG04
import Derived.Test.YtiniobcknmaigaaGreatG07
import Derived.Test.YtiniobcknmaigaaGreatG09
import Derived.StillTailTactics
import Derived.Deep.RegionWith
/-
  The contract of the document's Trans.
-/
namespace Go.Proofs.YtiniobcknmaigaaGreat
open Go.RowKit Go.Sort Qm

namespace Qm
theorem place_iff {r c i k p : Nat} (hi : i < r) (hk : k < c) (hp : p < c * r) : p = k * r + i ↔ (p % r) * c + p / r = i * c + k := by
  have hr : 0 < r := by omega
  have hpr : p / r < c := (Nat.div_lt_iff_lt_mul hr).2 hp
  have hd := Nat.div_add_mod p r
  constructor
  · rintro rfl
    rw [mod_of hi, div_of hi]
  · intro h
    have e1 := congrArg (· / c) h
    have e2 := congrArg (· % c) h
    simp only [div_of hpr, div_of hk, mod_of hpr, mod_of hk] at e1 e2
    rw [← hd, e1, e2, Nat.mul_comm]
/-- what stands where the first q numbers of a matrix have been turned -/
def tur (r c : Nat) (xs : List Int) (q : Nat) : Nat → Int := fun p => if (p % r) * c + p / r < q then ge xs ((p % r) * c + p / r) else 0
theorem tur_zero (r c : Nat) (xs : List Int) (n p : Nat) (_ : p < n) : (0 : Int) = tur r c xs 0 p := by simp [tur]
theorem tur_succ {r c i k : Nat} (xs : List Int) (hi : i < r) (hk : k < c) (p : Nat) (hp : p < c * r) : (if p = k * r + i then ge xs (i * c + k) else tur r c xs (i * c + k) p) = tur r c xs (i * c + k + 1) p := by
  have h := place_iff hi hk hp
  unfold tur
  by_cases e : p = k * r + i
  · rw [if_pos e, h.1 e, if_pos (by omega)]
  · rw [if_neg e]
    have : (p % r) * c + p / r ≠ i * c + k := fun e' => e (h.2 e')
    by_cases h2 : (p % r) * c + p / r < i * c + k
    · rw [if_pos h2, if_pos (by omega)]
    · rw [if_neg h2, if_neg (by omega)]
theorem tur_all {r c : Nat} (xs : List Int) (hr : 0 < r) : tab (tur r c xs (r * c)) (c * r) = trn r c xs := by
  unfold trn
  refine tab_congr fun p hp => ?_
  have hpr : p / r < c := (Nat.div_lt_iff_lt_mul hr).2 hp
  unfold tur
  rw [if_pos (at_lt (Nat.mod_lt p hr) hpr)]
end Qm

set_option maxRecDepth 20000 in
set_option maxHeartbeats 1600000 in
theorem rtrans_any (R C : Nat) (h1 : 1 ≤ R) (hR : R ≤ 8) (h2 : 1 ≤ C) (hC : C ≤ 8) (v : Value) (xs : List Int) (hn : xs.length = R * C) (w : World) (hs : Sees w v xs) :
    Calls Tryz.prog 32 #[.agg #[.int .i64 R, .int .i64 C, v]] w fun e b =>
      ∃ v, e = .returned (.agg #[.int .i64 C, .int .i64 R, v]) ∧ Sees b v (trn R C xs) ∧ New w.heap.size v ∧ Below w.heap.size w b := by
  have h64 : R * C ≤ 64 := mul_le_64 hR hC
  have hno := fun w => none_any C R hC hR h2 h1 w
  obtain ⟨n, hn'⟩ : ∃ n, xs.length = n := ⟨_, rfl⟩
  have hq : R * C = n := by omega
  have hq2 : C * R = n := by rw [Nat.mul_comm]; exact hq
  have HQ : Hid (R * C = n ∧ C * R = n) := ⟨hq, hq2⟩
  rw [hq2] at hno
  rw [hq] at h64
  obtain ⟨ao, cap, rfl, ha⟩ := hs
  rw [hn'] at ha ⊢
  have hs : Sees w (.slice ao n cap) xs := ⟨ao, cap, by rw [hn'], by rw [hn']; exact ha⟩
  have hxl : n ≤ xs.length := by omega
  have HT : Hid (tab (tur R C xs n) n = trn R C xs) := by have := tur_all (r := R) (c := C) xs (by omega); rw [hq, hq2] at this; exact this
  clear hn hn' hq hq2 ha
  obtain ⟨W, hW⟩ : ∃ W, (w.alloc (.cells #[.int .i64 R, .int .i64 C, .slice ao n cap] 24)).alloc (.cells #[.int .i64 0, .int .i64 0, .slice none 0 0] 24) = W := ⟨_, rfl⟩
  obtain ⟨x1, x2⟩ := allocs2 w (.cells #[.int .i64 R, .int .i64 C, .slice ao n cap] 24) (.cells #[.int .i64 0, .int .i64 0, .slice none 0 0] 24)
  have bq := ball2 w (.cells #[.int .i64 R, .int .i64 C, .slice ao n cap] 24) (.cells #[.int .i64 0, .int .i64 0, .slice none 0 0] 24)
  rw [hW] at x1 x2 bq
  obtain ⟨u0, u1, u2, _⟩ := mat_cells x1
  go_enter Tryz.func32, Tryz.ntmps32
  go_wp2_with (go_at_call 61; refine (hno _).mono ?_; rintro e w1 ⟨g, gc, rfl, hown, b1⟩)
  clear u0 u1 u2
  have hgW := (hown.lt g rfl).1
  have hDg : w.heap.size + 1 < g := Nat.lt_of_lt_of_le (lt_of_block x2) hgW
  have y1 := heap_old (keep b1 x1) (.cells #[.int .i64 C, .int .i64 R, .slice (some ⟨g, 0, none⟩) n gc] 24)
  have y2 := heap_old (keep b1 x2) (.cells #[.int .i64 C, .int .i64 R, .slice (some ⟨g, 0, none⟩) n gc] 24)
  have y3 := heap_new w1 (.cells #[.int .i64 C, .int .i64 R, .slice (some ⟨g, 0, none⟩) n gc] 24)
  have bw := (bt (bt bq b1) (box_below w1 (.cells #[.int .i64 C, .int .i64 R, .slice (some ⟨g, 0, none⟩) n gc] 24)))
  have F0 : Fills (w1.alloc (.cells #[.int .i64 C, .int .i64 R, .slice (some ⟨g, 0, none⟩) n gc] 24)) g gc n (fun _ => 0) (w1.alloc (.cells #[.int .i64 C, .int .i64 R, .slice (some ⟨g, 0, none⟩) n gc] 24)) := Fills.start (hown.alloc _)
  have hgw : w.heap.size ≤ g := Nat.le_trans bq.size hgW
  obtain ⟨V, hV⟩ : ∃ V, w1.alloc (.cells #[.int .i64 C, .int .i64 R, .slice (some ⟨g, 0, none⟩) n gc] 24) = V := ⟨_, rfl⟩
  rw [hV] at y1 y2 y3 bw F0 ⊢
  have gx1 := F0.apart y1
  have gx2 := F0.apart y2
  have gx3 := F0.apart y3
  clear hV hW x1 x2 hown b1 bq hno
  go_loopw [4] (fun i wr => ∃ a : Nat, a ≤ R ∧ i = .int .i64 a ∧ Fills V g gc n (tur R C xs (a * C)) wr) (fun i _ => R - (intOf i).toNat)
  case atStart => exact ⟨0, Nat.zero_le _, rfl, by rw [Nat.zero_mul]; exact F0.congr (tur_zero R C xs n)⟩
  case round =>
    clear F0
    obtain ⟨i, hi, rfl, hF⟩ := hrel
    obtain ⟨u0, u1, u2, _⟩ := mat_cells (hF.keep y1 gx1)
    by_cases hlt : i < R
    · go_wp2
      clear u0 u1 u2
      go_loopw [5] (fun c wr => ∃ a : Nat, a ≤ C ∧ c = .int .i64 a ∧ Fills V g gc n (tur R C xs (i * C + a)) wr) (fun c _ => C - (intOf c).toNat)
      case atStart => exact ⟨0, Nat.zero_le _, rfl, hF⟩
      case round =>
        clear hF
        obtain ⟨k, hk, rfl, hF⟩ := hrel
        obtain ⟨u0, u1, u2, _⟩ := mat_cells (hF.keep y1 gx1)
        by_cases hlk : k < C
        · obtain ⟨v0, v1, v2, _⟩ := mat_cells (hF.keep y3 gx3)
          have pA : i * C + k < n := by rw [← HQ.out.1]; exact at_lt hlt hlk
          have pB : k * R + i < n := by rw [← HQ.out.2]; exact at_lt hlk hlt
          have hc := hF.cell pB
          have hf := hF.free (k * R + i)
          have HF := ((hF.drew).store (k * R + i) (ge xs (i * C + k))).congr (by rw [← HQ.out.2]; exact tur_succ xs hlt hlk)
          obtain ⟨ad, rfl, ca⟩ := (hF.sees hs bw hgw).at (i * C + k) (by omega)
          have EA : Hid (i * C + (k + 1) = i * C + k + 1) := rfl
          obtain ⟨x, hx⟩ : ∃ x, ge xs (i * C + k) = x := ⟨_, rfl⟩
          rw [hx] at HF ca
          obtain ⟨qa, hqa⟩ : ∃ qa, i * C = qa := ⟨_, rfl⟩
          obtain ⟨qb, hqb⟩ : ∃ qb, k * R = qb := ⟨_, rfl⟩
          have hqa' : (i : Int) * (C : Int) = (qa : Int) := by rw [← hqa]; exact (Int.natCast_mul i C).symm
          have hqb' : (k : Int) * (R : Int) = (qb : Int) := by rw [← hqb]; exact (Int.natCast_mul k R).symm
          rw [hqa] at HF ca pA EA
          rw [hqb] at HF pB hc hf
          have ba : qa ≤ 64 := by omega
          have bb : qb ≤ 64 := by omega
          have HA : Hid (i * C = qa) := hqa
          clear hx hF hqa hqb
          have ia : IntKind.i64.wrap (qa : Int) = (qa : Int) := wrap_in (by omega) (by omega)
          have ib : IntKind.i64.wrap (qb : Int) = (qb : Int) := wrap_in (by omega) (by omega)
          have ic : IntKind.i64.wrap ((qa : Int) + (k : Int)) = (qa : Int) + (k : Int) := wrap_in (by omega) (by omega)
          have id : IntKind.i64.wrap ((qb : Int) + (i : Int)) = (qb : Int) + (i : Int) := wrap_in (by omega) (by omega)
          have ta : ((qa : Int) + (k : Int)).toNat = qa + k := by omega
          have tb : ((qb : Int) + (i : Int)).toNat = qb + i := by omega
          have la : (qa : Int) + (k : Int) < (n : Int) := by omega
          have lb : (qb : Int) + (i : Int) < (n : Int) := by omega
          have za : (0 : Int) ≤ (qa : Int) + (k : Int) := by omega
          have zb : (0 : Int) ≤ (qb : Int) + (i : Int) := by omega
          go_wp2
          go_still_tail 19, (by kernel_rfl)
          change wpList Tryz.prog _ _ _ _ wr.drew
          go_wp2
          go_roundw
          case rel => exact ⟨k + 1, by omega, by go_num, by rw [HA.out, EA.out]; exact HF⟩
          case measure => simp [intOf]; omega
        · have e : k = C := by omega
          subst e
          go_wp2
          go_roundw
          case rel => exact ⟨i + 1, by omega, by go_num, by rw [Nat.succ_mul]; exact hF⟩
          case measure => simp [intOf]; omega
    · have e : i = R := by omega
      subst e
      rw [HQ.out.1] at hF
      obtain ⟨v0, v1, v2, _⟩ := mat_cells (hF.keep y3 gx3)
      obtain ⟨d0, d1, d2, f0, f1, f2⟩ := mat_cells (hF.keep y2 gx2)
      have hsh := hF.shows
      rw [HT.out] at hsh
      have hbl := hF.below bw hgw
      clear hF
      go_wp2
      refine bodyPost_ret (v := .agg #[.int .i64 C, .int .i64 i, .slice (some ⟨g, 0, none⟩) n gc]) (by simp [results, Tryz.results32, go_sem, d0, d1, d2]) rfl ?_
      exact ⟨_, rfl, hsh.put (new_at g n gc) hDg _ _ _, (new_at g n gc).mono hgw, below_put hbl (by omega) _ _ _⟩
end Go.Proofs.YtiniobcknmaigaaGreat

/-
  The contracts of mat.summed, over whatever function tells the numbers, and of the closures of mat.Mul.
-/
namespace Go.Proofs.YtiniobcknmaigaaGreat
open Go.RowKit Go.Sort Qm

namespace Qm
/-- a sum, each sum brought in bounds; was a bound met? -/
def smv (p : Nat → Int) : Nat → Int
  | 0 => 0
  | k + 1 => add (smv p k) (p k)
def smB (p : Nat → Int) (x : Nat → Bool) : Nat → Bool
  | 0 => false
  | k + 1 => smB p x k || x k || addB (smv p k) (p k)
end Qm

set_option maxHeartbeats 800000 in
theorem summed_any (N : Nat) (hN : N ≤ 8) (G : Nat) (hG : ∀ (args : Array Value) (a : World), Sem.run Tryz.prog (callFunc G args) a = Result.ok (Next.enter G args) a) (caps : Array Value) (p : Nat → Int) (x : Nat → Bool) (w : World)
    (hcall : ∀ (k : Nat) a, k < N → Below w.heap.size w a → Calls Tryz.prog G (#[.int .i64 k] ++ caps) a (fun e b => e = .returned (.tuple #[.int .i64 (p k), .bool (x k)]) ∧ Below a.heap.size a b)) :
    Calls Tryz.prog 87 #[.int .i64 N, .func (.func G) #[] caps] w fun e b => e = .returned (.tuple #[.int .i64 (smv p N), .bool (smB p x N)]) ∧ Below w.heap.size w b := by
  go_enter Tryz.func87, Tryz.ntmps87
  go_wp2
  go_loopw [6, 7, 14] (fun s m i wr => ∃ k : Nat, k ≤ N ∧ i = .int .i64 k ∧ s = .int .i64 (smv p k) ∧ m = .bool (smB p x k) ∧ Below w.heap.size w wr) (fun _ _ i _ => N - (intOf i).toNat)
  case atStart => exact ⟨0, Nat.zero_le _, rfl, rfl, rfl, Below.refl _ _⟩
  case round =>
    obtain ⟨k, hk, rfl, rfl, rfl, hb⟩ := hrel
    by_cases hlt : k < N
    · have hc1 := hcall k wr hlt hb
      have HS : Hid (smv p (k + 1) = add (smv p k) (p k)) := rfl
      have HM : Hid (smB p x (k + 1) = (smB p x k || x k || addB (smv p k) (p k))) := rfl
      obtain ⟨S, hS⟩ : ∃ S, smv p k = S := ⟨_, rfl⟩
      obtain ⟨M, hM⟩ : ∃ M, smB p x k = M := ⟨_, rfl⟩
      obtain ⟨X, hX⟩ : ∃ X, x k = X := ⟨_, rfl⟩
      obtain ⟨Q, hQ⟩ : ∃ Q, p k = Q := ⟨_, rfl⟩
      rw [hS, hM, hX, hQ] at HM
      rw [hS, hQ] at HS
      rw [hX, hQ] at hc1
      rw [hS, hM]
      clear hS hM hX hQ
      cases M <;> cases X
      all_goals
        go_wp2_with (first | (go_at_call 41; refine (add_any _ _ _).mono ?_; rintro e wy ⟨rfl, rfl⟩) | (refine Calls.mono hc1 ?_; rintro e wx ⟨rfl, bx⟩))
        go_roundw
        case rel => exact ⟨k + 1, by omega, by go_num, by rw [HS.out], by rw [HM.out]; rfl, bt hb bx⟩
        case measure => simp [intOf]; omega
    · have e : k = N := by omega
      subst e
      go_wp2
      go_ret2
      exact ⟨rfl, hb⟩
end Go.Proofs.YtiniobcknmaigaaGreat

/-
  The contracts of the closures of mat.Mul; reckoned, as mat.Mul calls it.
-/
namespace Go.Proofs.YtiniobcknmaigaaGreat
open Go.RowKit Go.Sort Qm

theorem enters44 : ∀ (args : Array Value) (a : World), Sem.run Tryz.prog (callFunc 88 args) a = Result.ok (Next.enter 88 args) a := by
  intro args a
  simp [callFunc, Tryz.func88, go_sem]
  rfl
theorem enters42 : ∀ (args : Array Value) (a : World), Sem.run Tryz.prog (callFunc 86 args) a = Result.ok (Next.enter 86 args) a := by
  intro args a
  simp [callFunc, Tryz.func86, go_sem]
  rfl

set_option maxHeartbeats 400000 in
theorem mul2_any (i j k N C : Nat) (P bA Q bB I J : Nat) (xs ys : List Int) (w : World) (hi : i ≤ 8) (hk : k < N) (hN : N ≤ 8) (hj : j < C) (hC : C ≤ 8) (hx : xs.length ≤ 64) (hy : ys.length ≤ 64)
    (hxa : i * N + k < xs.length) (hya : k * C + j < ys.length) (hA : AtBox w P bA N xs) (hB : AtBox w Q bB C ys) (hI : w.cell? ⟨I, 0, none⟩ = some (.int .i64 i)) (hJ : w.cell? ⟨J, 0, none⟩ = some (.int .i64 j)) :
    Calls Tryz.prog 88 #[.int .i64 k, .pointer (some ⟨P, 0, none⟩), .pointer (some ⟨I, 0, none⟩), .pointer (some ⟨Q, 0, none⟩), .pointer (some ⟨J, 0, none⟩)] w fun e w' =>
      e = .returned (.tuple #[.int .i64 (mul (ge xs (i * N + k)) (ge ys (k * C + j))), .bool (mulB (ge xs (i * N + k)) (ge ys (k * C + j)))]) ∧ Below w.heap.size w w' := by
  have k1 := cell_regrown hA.1
  have k2 := cell_regrown hB.1
  have k3 := cell_regrown hI
  have k4 := cell_regrown hJ
  have cA := at_calm i k N P bA xs w hi hk hN hx hxa hA
  have cB := at_calm k j C Q bB ys w (by omega) hj hC hy hya hB
  obtain ⟨x, hx'⟩ : ∃ x, ge xs (i * N + k) = x := ⟨_, rfl⟩
  obtain ⟨y, hy'⟩ : ∃ y, ge ys (k * C + j) = y := ⟨_, rfl⟩
  rw [hx'] at cA ⊢
  rw [hy'] at cB ⊢
  clear hx' hy' hA hB hI hJ hxa hya
  have cM := mul_calm x y w
  go_enter Tryz.func88, Tryz.ntmps88
  go_wp2
  refine wp_region_quiet_below (by kernel_rfl) (by kernel_rfl) ?_
  repeat (quiet_step (first | (go_at_call_of 89 (Value.pointer (some ⟨bA, 0, none⟩)); exact cA _ _) | (go_at_call_of 89 (Value.pointer (some ⟨bB, 0, none⟩)); exact cB _ _) | (go_at_call 63; exact cM _ _)))
  refine wpQuiet_nil ?_
  intro _ hw'
  obtain ⟨⟨dq, osq⟩, hw''⟩ := hw'
  subst hw''
  go_wp2
  go_ret2
  exact ⟨rfl, below_regrown w dq osq⟩

namespace Qm
/-- a number of a product: row i, column j -/
def dot (n c : Nat) (xs ys : List Int) (i j : Nat) : Int := smv (fun k => mul (ge xs (i * n + k)) (ge ys (k * c + j))) n
def dotB (n c : Nat) (xs ys : List Int) (i j : Nat) : Bool := smB (fun k => mul (ge xs (i * n + k)) (ge ys (k * c + j))) (fun k => mulB (ge xs (i * n + k)) (ge ys (k * c + j))) n
/-- a product of r rows and c columns -/
def prd (r n c : Nat) (xs ys : List Int) : List Int := tab (fun p => dot n c xs ys (p / c) (p % c)) (r * c)
def prdB (r n c : Nat) (xs ys : List Int) : Bool := anyB (fun p => dotB n c xs ys (p / c) (p % c)) (r * c)
end Qm

set_option maxHeartbeats 400000 in
theorem mul1_any (i j R N C : Nat) (A P bA Q bB : Nat) (xs ys : List Int) (w : World) (hi : i < R) (hR : R ≤ 8) (hN : N ≤ 8) (hj : j < C) (hC : C ≤ 8) (hx : xs.length = R * N) (hy : ys.length = N * C)
    (hA : AtBox w P bA N xs) (hB : AtBox w Q bB C ys) (h0 : w.cell? ⟨A, 1, none⟩ = some (.int .i64 N)) :
    Calls Tryz.prog 86 #[.int .i64 i, .int .i64 j, .pointer (some ⟨A, 0, none⟩), .pointer (some ⟨P, 0, none⟩), .pointer (some ⟨Q, 0, none⟩)] w fun e w' =>
      e = .returned (.tuple #[.int .i64 (dot N C xs ys i j), .bool (dotB N C xs ys i j)]) ∧ Below w.heap.size w w' := by
  have h64 : R * N ≤ 64 := mul_le_64 hR hN
  have h65 : N * C ≤ 64 := mul_le_64 hN hC
  obtain ⟨W, hW⟩ : ∃ W, (w.alloc (.cells #[.int .i64 i] 3)).alloc (.cells #[.int .i64 j] 3) = W := ⟨_, rfl⟩
  have bW : Below w.heap.size w W := by rw [← hW]; exact ball2 _ _ _
  have hsm := summed_any N hN 88 enters44 #[.pointer (some ⟨P, 0, none⟩), .pointer (some ⟨w.heap.size, 0, none⟩), .pointer (some ⟨Q, 0, none⟩), .pointer (some ⟨w.heap.size + 1, 0, none⟩)]
    (fun k => mul (ge xs (i * N + k)) (ge ys (k * C + j))) (fun k => mulB (ge xs (i * N + k)) (ge ys (k * C + j))) W (by
      intro k a hk hb
      obtain ⟨x1, x2⟩ := allocs2 w (.cells #[.int .i64 i] 3) (.cells #[.int .i64 j] 3)
      rw [hW] at x1 x2
      exact mul2_any i j k N C P bA Q bB w.heap.size (w.heap.size + 1) xs ys a (by omega) hk hN hj hC (by omega) (by omega) (by rw [hx]; exact at_lt hi hk) (by rw [hy]; exact at_lt hk hj) (hA.below (bt bW hb)) (hB.below (bt bW hb)) (cell_of_one (keep hb x1)) (cell_of_one (keep hb x2)))
  have hAc : A < w.heap.size := block_lt_of_cell h0
  have h1 : W.cell? ⟨A, 1, none⟩ = some (.int .i64 N) := by rw [bW.cell (p := ⟨A, 1, none⟩) hAc]; exact h0
  change Calls Tryz.prog 87 _ W (fun e b => e = .returned (.tuple #[.int .i64 (dot N C xs ys i j), .bool (dotB N C xs ys i j)]) ∧ _) at hsm
  obtain ⟨D, hD⟩ : ∃ D, dot N C xs ys i j = D := ⟨_, rfl⟩
  obtain ⟨E, hE⟩ : ∃ E, dotB N C xs ys i j = E := ⟨_, rfl⟩
  rw [hD, hE] at hsm ⊢
  rw [← hW] at hsm h1 bW
  clear hW hD hE hA hB hx hy h0
  go_enter Tryz.func86, Tryz.ntmps86
  go_wp2_with (go_at_call 87; refine hsm.mono ?_; rintro e wx ⟨rfl, bx⟩)
  go_ret2
  exact ⟨rfl, bt bW bx⟩

/-- reckoned, as Mul calls it -/
theorem mul_reck (R N C : Nat) (hR : R ≤ 8) (hN : N ≤ 8) (hC : C ≤ 8) (xs ys : List Int) (hx : xs.length = R * N) (hy : ys.length = N * C) (A P bA Q bB : Nat) (w : World) (hA : AtBox w P bA N xs) (hB : AtBox w Q bB C ys) (h0 : w.cell? ⟨A, 1, none⟩ = some (.int .i64 N)) :
    Calls Tryz.prog 85 #[.agg #[.int .i64 R, .int .i64 C], .func (.func 86) #[] #[.pointer (some ⟨A, 0, none⟩), .pointer (some ⟨P, 0, none⟩), .pointer (some ⟨Q, 0, none⟩)]] w fun e b =>
      ∃ v, e = .returned (.tuple #[.agg #[.int .i64 R, .int .i64 C, v], .bool (prdB R N C xs ys)]) ∧ Sees b v (prd R N C xs ys) ∧ New w.heap.size v ∧ Below w.heap.size w b := by
  refine reckoned_any R C hR hC 86 enters42 #[.pointer (some ⟨A, 0, none⟩), .pointer (some ⟨P, 0, none⟩), .pointer (some ⟨Q, 0, none⟩)] (fun p => dot N C xs ys (p / C) (p % C)) (fun p => dotB N C xs ys (p / C) (p % C)) w ?_
  intro i j a hi hj hb
  have e1 : (i * C + j) % C = j := mod_of hj
  have e2 : (i * C + j) / C = i := div_of hj
  simp only [e1, e2]
  exact mul1_any i j R N C A P bA Q bB xs ys a hi hR hN hj hC hx hy (hA.below hb) (hB.below hb) (by rw [hb.cell (p := ⟨A, 1, none⟩) (block_lt_of_cell h0)]; exact h0)
end Go.Proofs.YtiniobcknmaigaaGreat
