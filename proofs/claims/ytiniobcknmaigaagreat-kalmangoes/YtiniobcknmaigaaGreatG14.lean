/-
  Texts joined, in the order in which they stand on one another: Diag RDiag Both.
-/
import Derived.Test.YtiniobcknmaigaaGreatG06
import Derived.Test.YtiniobcknmaigaaGreatG10
import Derived.Test.YtiniobcknmaigaaGreatG11
import Derived.Test.YtiniobcknmaigaaGreatG12
import Derived.Test.YtiniobcknmaigaaGreatG13
/-
  The contracts of mat.diagonal, mat.Eye and mat.Diag.
-/
namespace Go.Proofs.YtiniobcknmaigaaGreat
open Go.RowKit Go.Sort Qm

theorem enters73 : ∀ (args : Array Value) (a : World), Sem.run Tryz.prog (callFunc 106 args) a = Result.ok (Next.enter 106 args) a := by
  intro args a
  simp [callFunc, Tryz.func106, go_sem]
  rfl
theorem enters50 : ∀ (args : Array Value) (a : World), Sem.run Tryz.prog (callFunc 102 args) a = Result.ok (Next.enter 102 args) a := by
  intro args a
  simp [callFunc, Tryz.func102, go_sem]
  rfl
theorem enters53 : ∀ (args : Array Value) (a : World), Sem.run Tryz.prog (callFunc 80 args) a = Result.ok (Next.enter 80 args) a := by
  intro args a
  simp [callFunc, Tryz.func80, go_sem]
  rfl
namespace Qm
/-- a diagonal -/
def dia (d : Nat → Int) (n : Nat) : List Int := tab (fun p => if p / n = p % n then d (p / n) else 0) (n * n)
end Qm

section
variable (H : Nat) (hH : ∀ (args : Array Value) (a : World), Sem.run Tryz.prog (callFunc H args) a = Result.ok (Next.enter H args) a) (caps : Array Value) (d : Nat → Int)
include hH

theorem diagonal1_any (i j : Nat) (T : Nat) (w : World) (hT : w.cell? ⟨T, 0, none⟩ = some (.func (.func H) #[] caps))
    (hc : Calls Tryz.prog H (#[.int .i64 i] ++ caps) w fun e b => e = .returned (.int .i64 (d i)) ∧ b = w) :
    Calls Tryz.prog 106 #[.int .i64 i, .int .i64 j, .pointer (some ⟨T, 0, none⟩)] w fun e w' => e = .returned (.int .i64 (if i = j then d i else 0)) ∧ w' = w := by
  by_cases h : i = j
  · rw [if_pos h]
    subst h
    go_enter Tryz.func106, Tryz.ntmps106
    go_wp2_with (refine Calls.mono hc ?_; rintro e w' ⟨rfl, rfl⟩)
    go_ret
    exact ⟨rfl, rfl⟩
  · rw [if_neg h]
    have e1 : ¬ ((i : Int) = (j : Int)) := by omega
    go_enter Tryz.func106, Tryz.ntmps106
    go_wp2
    go_ret
    exact ⟨rfl, rfl⟩

set_option maxHeartbeats 400000 in
theorem diagonal_any (n : Nat) (hn : n ≤ 8) (w : World) (hc : ∀ i a, i < n → Below w.heap.size w a → Calls Tryz.prog H (#[.int .i64 (i : Nat)] ++ caps) a fun e b => e = .returned (.int .i64 (d i)) ∧ b = a) :
    Calls Tryz.prog 79 #[.int .i64 n, .func (.func H) #[] caps] w fun e b => ∃ v, e = .returned (.agg #[.int .i64 n, .int .i64 n, v]) ∧ Sees b v (dia d n) ∧ New w.heap.size v ∧ Below w.heap.size w b := by
  obtain ⟨W, hW⟩ : ∃ W, (w.alloc (.cells #[.func (.func H) #[] caps] 103)).alloc (.cells #[.int .i64 0, .int .i64 0, .slice none 0 0] 24) = W := ⟨_, rfl⟩
  obtain ⟨x1, x2⟩ := allocs2 w (.cells #[.func (.func H) #[] caps] 103) (.cells #[.int .i64 0, .int .i64 0, .slice none 0 0] 24)
  have bW := ball2 w (.cells #[.func (.func H) #[] caps] 103) (.cells #[.int .i64 0, .int .i64 0, .slice none 0 0] 24)
  rw [hW] at x1 x2 bW
  have hf := fill_pure n n hn hn 106 enters73 #[.pointer (some ⟨w.heap.size, 0, none⟩)] (fun p => if p / n = p % n then d (p / n) else 0) W (by
    intro i j a hi hj hb
    have e1 : (i * n + j) % n = j := mod_of hj
    have e2 : (i * n + j) / n = i := div_of hj
    simp only [e1, e2]
    refine (diagonal1_any H hH caps d i j w.heap.size a (cell_of_one (keep hb x1)) (hc i a hi (bt bW hb))).mono ?_
    rintro e b ⟨rfl, rfl⟩
    exact ⟨rfl, Below.refl _ _⟩)
  change Calls Tryz.prog 53 _ W (fun e b => ∃ v, _ ∧ Sees b v (dia d n) ∧ _) at hf
  rw [← hW] at hf x1 x2 bW
  clear hc hH hW
  go_enter Tryz.func79, Tryz.ntmps79
  go_wp2_with (go_at_call 53; refine hf.mono ?_; rintro e w4 ⟨v4, rfl, s4, n4, b4⟩; obtain ⟨ao4, cap4, rfl⟩ := s4.slice; obtain ⟨f0, f1, f2, k0, k1, k2⟩ := mat_cells (keep b4 x2))
  refine bodyPost_ret (v := .agg #[.int .i64 n, .int .i64 n, .slice ao4 (dia d n).length cap4]) (by simp [results, Tryz.results79, go_sem, f0, f1, f2]) rfl ?_
  exact ⟨_, rfl, s4.put n4 (lt_of_block x2) _ _ _, n4.mono bW.size, below_put (bt bW b4) (by omega) _ _ _⟩
end

theorem eye1_any (i : Int) (w : World) : Calls Tryz.prog 102 (#[.int .i64 i] ++ #[]) w fun e b => e = .returned (.int .i64 16777216) ∧ b = w := by
  show Calls Tryz.prog 102 #[.int .i64 i] w _
  go_enter Tryz.func102, Tryz.ntmps102
  go_wp2
  go_ret
  exact ⟨rfl, rfl⟩

theorem diag1_any (i : Nat) (L : Nat) (v : Value) (xs : List Int) (w : World) (hi : i < xs.length) (hL : w.cell? ⟨L, 0, none⟩ = some v) (hs : Sees w v xs) :
    Calls Tryz.prog 80 (#[.int .i64 i] ++ #[.pointer (some ⟨L, 0, none⟩)]) w fun e b => e = .returned (.int .i64 (ge xs i)) ∧ b = w := by
  show Calls Tryz.prog 80 #[.int .i64 i, .pointer (some ⟨L, 0, none⟩)] w _
  obtain ⟨ao, cap, rfl, hc⟩ := hs
  obtain ⟨ad, rfl, _, hcell⟩ := hc i hi
  clear hc
  go_enter Tryz.func80, Tryz.ntmps80
  go_wp2
  go_ret
  exact ⟨rfl, rfl⟩

set_option maxHeartbeats 400000 in
theorem eye_any (n : Nat) (h1 : 1 ≤ n) (hn : n ≤ 8) (w : World) :
    Calls Tryz.prog 67 #[.int .i64 n] w fun e b => ∃ v, e = .returned (.tuple #[.agg #[.int .i64 n, .int .i64 n, v], .int .i64 0]) ∧ Sees b v (dia (fun _ => 16777216) n) ∧ New w.heap.size v ∧ Below w.heap.size w b := by
  have hk : cntB n = true := cntB_t (by omega) (by omega)
  have hd := fun W => diagonal_any 102 enters50 #[] (fun _ => 16777216) n hn W (fun i a _ _ => eye1_any i a)
  go_enter Tryz.func67, Tryz.ntmps67
  go_wp2_with (first
    | (go_at_call 76; refine (mayCount_any _ _).mono ?_; rintro e w' ⟨rfl, rfl⟩)
    | (go_at_call 79; refine (hd _).mono ?_; rintro e w4 ⟨v4, rfl, s4, n4, b4⟩; have r3 := heap_new w (.cells #[.int .i64 0, .int .i64 0, .slice none 0 0] 24); obtain ⟨ao4, cap4, rfl⟩ := s4.slice; obtain ⟨f0, f1, f2, k0, k1, k2⟩ := mat_cells (keep b4 r3)))
  refine bodyPost_ret (v := .tuple #[.agg #[.int .i64 n, .int .i64 n, .slice ao4 (dia (fun _ => 16777216) n).length cap4], .int .i64 0]) (by simp [results, Tryz.results67, go_sem, f0, f1, f2]) rfl ?_
  exact ⟨_, rfl, s4.put n4 (lt_of_block r3) _ _ _, n4.mono (box_below _ _).size, below_put (bt (box_below _ _) b4) (Nat.le_refl _) _ _ _⟩

theorem eye_not (n : Int) (h : ¬ (1 ≤ n ∧ n ≤ 8)) (w : World) :
    Calls Tryz.prog 67 #[.int .i64 n] w fun e b => e = .returned (.tuple #[.agg #[.int .i64 0, .int .i64 0, .slice none 0 0], .int .i64 1]) ∧ Below w.heap.size w b := by
  have hk : cntB n = false := cntB_f h
  go_enter Tryz.func67, Tryz.ntmps67
  go_wp2_with (go_at_call 76; refine (mayCount_any _ _).mono ?_; rintro e w' ⟨rfl, rfl⟩)
  refine bodyPost_ret (v := .tuple #[.agg #[.int .i64 0, .int .i64 0, .slice none 0 0], .int .i64 1]) (by simp [results, Tryz.results67, go_sem]) rfl ?_
  exact ⟨rfl, box_below _ _⟩

set_option maxHeartbeats 400000 in
theorem diag_any (v : Value) (xs : List Int) (h1 : 1 ≤ xs.length) (hn : xs.length ≤ 8) (ho : outB xs xs.length = false) (w : World) (hs : Sees w v xs) :
    Calls Tryz.prog 45 #[v] w fun e b => ∃ v, e = .returned (.tuple #[.agg #[.int .i64 (xs.length : Nat), .int .i64 (xs.length : Nat), v], .int .i64 0]) ∧ Sees b v (dia (ge xs) xs.length) ∧ New w.heap.size v ∧ Below w.heap.size w b := by
  obtain ⟨ao, cap, rfl⟩ := hs.slice
  have hk : cntB (xs.length : Int) = true := cntB_t (by omega) (by omega)
  have bW := ball2 w (.cells #[.slice ao xs.length cap] 22) (.cells #[.int .i64 0, .int .i64 0, .slice none 0 0] 24)
  obtain ⟨x1, x2⟩ := allocs2 w (.cells #[.slice ao xs.length cap] 22) (.cells #[.int .i64 0, .int .i64 0, .slice none 0 0] 24)
  have hct := contains_any (.slice ao xs.length cap) xs _ (by omega) (hs.below bW)
  have hd := diagonal_any 80 enters53 #[.pointer (some ⟨w.heap.size, 0, none⟩)] (ge xs) xs.length hn _ (fun i a hi hb => diag1_any i w.heap.size (.slice ao xs.length cap) xs a hi (cell_of_one (keep hb x1)) (hs.below (bt bW hb)))
  rw [ho] at hct
  go_enter Tryz.func45, Tryz.ntmps45
  go_wp2_with (first
    | (go_at_call 76; refine (mayCount_any _ _).mono ?_; rintro e w' ⟨rfl, rfl⟩)
    | (go_at_call 77; refine hct.mono ?_; rintro e w' ⟨rfl, rfl⟩)
    | (go_at_call 79; refine hd.mono ?_; rintro e w4 ⟨v4, rfl, s4, n4, b4⟩; obtain ⟨ao4, cap4, rfl⟩ := s4.slice; obtain ⟨f0, f1, f2, k0, k1, k2⟩ := mat_cells (keep b4 x2)))
  refine bodyPost_ret (v := .tuple #[.agg #[.int .i64 (xs.length : Nat), .int .i64 (xs.length : Nat), .slice ao4 (dia (ge xs) xs.length).length cap4], .int .i64 0]) (by simp [results, Tryz.results45, go_sem, f0, f1, f2]) rfl ?_
  exact ⟨_, rfl, s4.put n4 (lt_of_block x2) _ _ _, n4.mono bW.size, below_put (bt bW b4) (by omega) _ _ _⟩

set_option maxHeartbeats 400000 in
theorem diag_not (v : Value) (xs : List Int) (hn : xs.length ≤ 100) (h : ¬ (1 ≤ xs.length ∧ xs.length ≤ 8 ∧ outB xs xs.length = false)) (w : World) (hs : Sees w v xs) :
    Calls Tryz.prog 45 #[v] w fun e b => e = .returned (.tuple #[.agg #[.int .i64 0, .int .i64 0, .slice none 0 0], .int .i64 1]) ∧ Below w.heap.size w b := by
  obtain ⟨ao, cap, rfl⟩ := hs.slice
  have bW := ball2 w (.cells #[.slice ao xs.length cap] 22) (.cells #[.int .i64 0, .int .i64 0, .slice none 0 0] 24)
  have hct := contains_any (.slice ao xs.length cap) xs _ hn (hs.below bW)
  by_cases h2 : 1 ≤ xs.length ∧ xs.length ≤ 8
  · have ho : outB xs xs.length = true := by
      cases e : outB xs xs.length with
      | true => rfl
      | false => exact absurd ⟨h2.1, h2.2, e⟩ h
    have hk : cntB (xs.length : Int) = true := cntB_t (by omega) (by omega)
    rw [ho] at hct
    go_enter Tryz.func45, Tryz.ntmps45
    go_wp2_with (first
      | (go_at_call 76; refine (mayCount_any _ _).mono ?_; rintro e w' ⟨rfl, rfl⟩)
      | (go_at_call 77; refine hct.mono ?_; rintro e w' ⟨rfl, rfl⟩))
    refine bodyPost_ret (v := .tuple #[.agg #[.int .i64 0, .int .i64 0, .slice none 0 0], .int .i64 1]) (by simp [results, Tryz.results45, go_sem]) rfl ?_
    exact ⟨rfl, bW⟩
  · have hk : cntB (xs.length : Int) = false := cntB_f (by omega)
    clear hct
    go_enter Tryz.func45, Tryz.ntmps45
    go_wp2_with (go_at_call 76; refine (mayCount_any _ _).mono ?_; rintro e w' ⟨rfl, rfl⟩)
    refine bodyPost_ret (v := .tuple #[.agg #[.int .i64 0, .int .i64 0, .slice none 0 0], .int .i64 1]) (by simp [results, Tryz.results45, go_sem]) rfl ?_
    exact ⟨rfl, bW⟩
end Go.Proofs.YtiniobcknmaigaaGreat

/-
  The contracts of the document's Diag and Eye.
-/
namespace Go.Proofs.YtiniobcknmaigaaGreat
open Go.RowKit Go.Sort Qm

namespace Qm
/-- what stands where the first k of a diagonal have been laid -/
def dgt (d : Nat → Int) (n k : Nat) : Nat → Int := fun p => if p / n = p % n ∧ p / n < k then d (p / n) else 0
theorem dgt_zero (d : Nat → Int) (n m p : Nat) (_ : p < m) : (0 : Int) = dgt d n 0 p := by simp [dgt]
theorem dgt_succ (d : Nat → Int) {n k : Nat} (hk : k < n) (p : Nat) : (if p = k * n + k then d k else dgt d n k p) = dgt d n (k + 1) p := by
  unfold dgt
  by_cases e : p = k * n + k
  · rw [if_pos e, e, div_of hk, mod_of hk, if_pos ⟨rfl, by omega⟩]
  · rw [if_neg e]
    by_cases h : p / n = p % n
    · have hne : p / n ≠ k := fun h2 => e (by have := Nat.div_add_mod p n; rw [← h, h2] at this; rw [Nat.mul_comm]; exact this.symm)
      by_cases h3 : p / n < k
      · rw [if_pos ⟨h, h3⟩, if_pos ⟨h, by omega⟩]
      · rw [if_neg (fun hh => h3 hh.2), if_neg (fun hh => by have := hh.2; omega)]
    · rw [if_neg (fun hh => h hh.1), if_neg (fun hh => h hh.1)]
theorem dgt_all (d : Nat → Int) {n : Nat} (hn : 0 < n) : tab (dgt d n n) (n * n) = dia d n := by
  unfold dia
  refine tab_congr fun p hp => ?_
  have h : p / n < n := (Nat.div_lt_iff_lt_mul hn).2 hp
  unfold dgt
  by_cases e : p / n = p % n
  · rw [if_pos ⟨e, h⟩, if_pos e]
  · rw [if_neg (fun hh => e hh.1), if_neg e]
end Qm

theorem rdiag_len (v : Value) (xs : List Int) (hl : xs.length ≤ 100) (h : ¬ (1 ≤ xs.length ∧ xs.length ≤ 8)) (w : World) (hs : Sees w v xs) :
    Calls Tryz.prog 72 #[v] w fun e b => e = .returned (.tuple #[.agg #[.int .i64 0, .int .i64 0, .slice none 0 0], .int .i64 1]) ∧ Below w.heap.size w b := by
  obtain ⟨ao, cap, rfl⟩ := hs.slice
  obtain ⟨n, hn⟩ : ∃ n, xs.length = n := ⟨_, rfl⟩
  rw [hn] at h hl ⊢
  clear hs hn
  have b0 := box_below w (.cells #[.int .i64 0, .int .i64 0, .slice none 0 0] 24)
  by_cases h1 : 1 ≤ n
  · have d1 : decide ((n : Int) < 1) = false := by simp; omega
    have d2 : decide ((8 : Int) < (n : Int)) = true := by simp; omega
    have h2 : (8 : Int) < (n : Int) := by omega
    go_enter Tryz.func72, Tryz.ntmps72
    go_wp2
    refine bodyPost_ret (v := .tuple #[.agg #[.int .i64 0, .int .i64 0, .slice none 0 0], .int .i64 1]) (by simp [results, Tryz.results72, go_sem]) rfl ?_
    exact ⟨rfl, b0⟩
  · have h0 : n = 0 := by omega
    subst h0
    go_enter Tryz.func72, Tryz.ntmps72
    go_wp2
    refine bodyPost_ret (v := .tuple #[.agg #[.int .i64 0, .int .i64 0, .slice none 0 0], .int .i64 1]) (by simp [results, Tryz.results72, go_sem]) rfl ?_
    exact ⟨rfl, b0⟩

set_option maxRecDepth 20000 in
set_option maxHeartbeats 1600000 in
theorem rdiag_mid (v : Value) (xs : List Int) (h1 : 1 ≤ xs.length) (h8 : xs.length ≤ 8) (w : World) (hs : Sees w v xs) :
    Calls Tryz.prog 72 #[v] w fun e b => Below w.heap.size w b ∧
      ((outB xs xs.length = false ∧ ∃ v, e = .returned (.tuple #[.agg #[.int .i64 (xs.length : Nat), .int .i64 (xs.length : Nat), v], .int .i64 0]) ∧ Sees b v (dia (ge xs) xs.length) ∧ New w.heap.size v) ∨
       (outB xs xs.length = true ∧ e = .returned (.tuple #[.agg #[.int .i64 0, .int .i64 0, .slice none 0 0], .int .i64 1]))) := by
  obtain ⟨ao, cap, rfl⟩ := hs.slice
  obtain ⟨n, hn⟩ : ∃ n, xs.length = n := ⟨_, rfl⟩
  have hxl : n ≤ xs.length := by omega
  rw [hn] at h1 h8 hs ⊢
  have h64 : n * n ≤ 64 := mul_le_64 h8 h8
  have hno := fun w => none_any n n h8 h8 h1 h1 w
  obtain ⟨q, hq⟩ : ∃ q, n * n = q := ⟨_, rfl⟩
  have HQ : Hid (n * n = q) := hq
  have HT : Hid (tab (dgt (ge xs) n n) q = dia (ge xs) n) := by have := dgt_all (ge xs) (n := n) (by omega); rw [hq] at this; exact this
  rw [hq] at h64 hno
  clear hn hq
  obtain ⟨W, hW⟩ : ∃ W, w.alloc (.cells #[.int .i64 0, .int .i64 0, .slice none 0 0] 24) = W := ⟨_, rfl⟩
  have x2 := heap_new w (.cells #[.int .i64 0, .int .i64 0, .slice none 0 0] 24)
  have bq := box_below w (.cells #[.int .i64 0, .int .i64 0, .slice none 0 0] 24)
  rw [hW] at x2 bq
  go_enter Tryz.func72, Tryz.ntmps72
  go_wp2_with (go_at_call 61; refine (hno _).mono ?_; rintro e w1 ⟨g, gc, rfl, hown, b1⟩)
  have hgW := (hown.lt g rfl).1
  have hDg : w.heap.size < g := Nat.lt_of_lt_of_le (lt_of_block x2) hgW
  have y2 := heap_old (keep b1 x2) (.cells #[.int .i64 n, .int .i64 n, .slice (some ⟨g, 0, none⟩) q gc] 24)
  have y3 := heap_new w1 (.cells #[.int .i64 n, .int .i64 n, .slice (some ⟨g, 0, none⟩) q gc] 24)
  have bw := (bt (bt bq b1) (box_below w1 (.cells #[.int .i64 n, .int .i64 n, .slice (some ⟨g, 0, none⟩) q gc] 24)))
  have F0 : Fills (w1.alloc (.cells #[.int .i64 n, .int .i64 n, .slice (some ⟨g, 0, none⟩) q gc] 24)) g gc q (fun _ => 0) (w1.alloc (.cells #[.int .i64 n, .int .i64 n, .slice (some ⟨g, 0, none⟩) q gc] 24)) := Fills.start (hown.alloc _)
  have hgw : w.heap.size ≤ g := Nat.le_trans bq.size hgW
  obtain ⟨V, hV⟩ : ∃ V, w1.alloc (.cells #[.int .i64 n, .int .i64 n, .slice (some ⟨g, 0, none⟩) q gc] 24) = V := ⟨_, rfl⟩
  rw [hV] at y2 y3 bw F0 ⊢
  have gx2 := F0.apart y2
  have gx3 := F0.apart y3
  clear hV hW x2 hown b1 bq hno
  go_loopw [6] (fun i wr => ∃ k : Nat, k ≤ n ∧ i = .int .i64 k ∧ Hid (outB xs k = false) ∧ Fills V g gc q (dgt (ge xs) n k) wr) (fun i _ => n - (intOf i).toNat)
  case atStart => exact ⟨0, Nat.zero_le _, rfl, rfl, F0.congr (dgt_zero (ge xs) n q)⟩
  case round =>
    clear F0
    obtain ⟨k, hk, rfl, hno, hF⟩ := hrel
    obtain ⟨v0, v1, v2, _⟩ := mat_cells (hF.keep y3 gx3)
    obtain ⟨d0, d1, d2, f0, f1, f2⟩ := mat_cells (hF.keep y2 gx2)
    by_cases hlt : k < n
    · have pA : k * n + k < q := by rw [← HQ.out]; exact at_lt hlt hlt
      have hc := hF.cell pA
      have hf := hF.free (k * n + k)
      have HF := ((hF.drew).store (k * n + k) (ge xs k)).congr (fun p _ => dgt_succ (ge xs) hlt p)
      have hbl := hF.below bw hgw
      obtain ⟨ad, rfl, ca⟩ := (hF.sees hs bw hgw).at k (by omega)
      cases ho : ob (ge xs k) with
      | true =>
        have hi : inB (ge xs k) = false := by unfold inB; rw [ho]; rfl
        have HO : Hid (outB xs n = true) := anyB_hit hlt ho
        clear hF HF hc hf
        obtain ⟨x, hx⟩ : ∃ x, ge xs k = x := ⟨_, rfl⟩
        rw [hx] at hi ca
        clear hx ho
        go_wp2_with (go_at_call 15; refine (rin_any _ _).mono ?_; rintro e w' ⟨rfl, rfl⟩)
        refine bodyPost_ret (v := .tuple #[.agg #[.int .i64 0, .int .i64 0, .slice none 0 0], .int .i64 1]) (by simp [results, Tryz.results72, go_sem, d0, d1, d2]) rfl ?_
        exact ⟨below_put hbl (Nat.le_refl _) _ _ _, .inr ⟨HO.out, rfl⟩⟩
      | false =>
        have hi : inB (ge xs k) = true := by unfold inB; rw [ho]; rfl
        have HO : Hid (outB xs (k + 1) = false) := by show outB xs (k + 1) = false; unfold outB; rw [anyB, ho]; have := hno.out; unfold outB at this; rw [this]; rfl
        obtain ⟨x, hx⟩ : ∃ x, ge xs k = x := ⟨_, rfl⟩
        rw [hx] at hi ca HF
        obtain ⟨qa, hqa⟩ : ∃ qa, k * n = qa := ⟨_, rfl⟩
        have hqa' : (k : Int) * (n : Int) = (qa : Int) := by rw [← hqa]; exact (Int.natCast_mul k n).symm
        rw [hqa] at HF pA hc hf
        have ba : qa ≤ 64 := by omega
        clear hx hF hqa ho hbl
        have ia : IntKind.i64.wrap (qa : Int) = (qa : Int) := wrap_in (by omega) (by omega)
        have ic : IntKind.i64.wrap ((qa : Int) + (k : Int)) = (qa : Int) + (k : Int) := wrap_in (by omega) (by omega)
        have ta : ((qa : Int) + (k : Int)).toNat = qa + k := by omega
        have la : (qa : Int) + (k : Int) < (q : Int) := by omega
        have za : (0 : Int) ≤ (qa : Int) + (k : Int) := by omega
        have lk : (k : Int) < (n : Int) := by omega
        go_wp2_with (go_at_call 15; refine (rin_any _ _).mono ?_; rintro e w' ⟨rfl, rfl⟩)
        go_still_tail 12, (by kernel_rfl)
        change wpList Tryz.prog _ _ _ _ w'.drew
        go_wp2
        go_roundw
        case rel => exact ⟨k + 1, by omega, by go_num, HO, HF⟩
        case measure => simp [intOf]; omega
    · have e : k = n := by omega
      subst e
      have hsh := hF.shows
      rw [HT.out] at hsh
      have hbl := hF.below bw hgw
      clear hF
      go_wp2
      refine bodyPost_ret (v := .tuple #[.agg #[.int .i64 k, .int .i64 k, .slice (some ⟨g, 0, none⟩) q gc], .int .i64 0]) (by simp [results, Tryz.results72, go_sem, d0, d1, d2]) rfl ?_
      exact ⟨below_put hbl (Nat.le_refl _) _ _ _, .inl ⟨hno.out, _, rfl, hsh.put (new_at g q gc) hDg _ _ _, (new_at g q gc).mono hgw⟩⟩

theorem rdiag_any (v : Value) (xs : List Int) (h1 : 1 ≤ xs.length) (hn : xs.length ≤ 8) (ho : outB xs xs.length = false) (w : World) (hs : Sees w v xs) :
    Calls Tryz.prog 72 #[v] w fun e b => ∃ v, e = .returned (.tuple #[.agg #[.int .i64 (xs.length : Nat), .int .i64 (xs.length : Nat), v], .int .i64 0]) ∧ Sees b v (dia (ge xs) xs.length) ∧ New w.heap.size v ∧ Below w.heap.size w b := by
  refine (rdiag_mid v xs h1 hn w hs).mono ?_
  rintro e b ⟨hb, ⟨_, v, h1, h2, h3⟩ | ⟨h1, _⟩⟩
  · exact ⟨v, h1, h2, h3, hb⟩
  · rw [ho] at h1; cases h1
theorem rdiag_not (v : Value) (xs : List Int) (hn : xs.length ≤ 100) (h : ¬ (1 ≤ xs.length ∧ xs.length ≤ 8 ∧ outB xs xs.length = false)) (w : World) (hs : Sees w v xs) :
    Calls Tryz.prog 72 #[v] w fun e b => e = .returned (.tuple #[.agg #[.int .i64 0, .int .i64 0, .slice none 0 0], .int .i64 1]) ∧ Below w.heap.size w b := by
  by_cases h2 : 1 ≤ xs.length ∧ xs.length ≤ 8
  · refine (rdiag_mid v xs h2.1 h2.2 w hs).mono ?_
    rintro e b ⟨hb, ⟨h1, _⟩ | ⟨_, h1⟩⟩
    · exact absurd ⟨h2.1, h2.2, h1⟩ h
    · exact ⟨h1, hb⟩
  · exact rdiag_len v xs hn h2 w hs

/-- the document's Eye: the ones are laid, then Diag -/
theorem reye_lay (n : Int) (K : Nat) (hK : K ≤ 9) (hlo : ∀ k : Nat, k < K → (k : Int) < n) (hhi : ¬ ((K : Int) < n ∧ K < 9)) (w : World) (Z : Ending → World → Prop)
    (hd : ∀ v b, Sees b v (tab (fun _ => (16777216 : Int)) K) → Below w.heap.size w b → Calls Tryz.prog 72 #[v] b fun e c => ∃ r c' sl E, e = .returned (.tuple #[.agg #[.int .i64 r, .int .i64 c', sl], .int .i64 E]) ∧ (∃ ao l cap, sl = .slice ao l cap) ∧ Below b.heap.size b c ∧
      (∀ D, D < b.heap.size → ∀ x y z, Below w.heap.size w (((c.setCell ⟨D, 0, none⟩ x).setCell ⟨D, 1, none⟩ y).setCell ⟨D, 2, none⟩ z) → Z (.returned (.tuple #[.agg #[.int .i64 r, .int .i64 c', sl], .int .i64 E])) (((c.setCell ⟨D, 0, none⟩ x).setCell ⟨D, 1, none⟩ y).setCell ⟨D, 2, none⟩ z))) :
    Calls Tryz.prog 35 #[.int .i64 n] w Z := by
  obtain ⟨i0, hi, hz0, hz1, hz2⟩ := info_parts Tryz.info33
  obtain ⟨W, hW⟩ : ∃ W, w.alloc (.cells #[.int .i64 0, .int .i64 0, .slice none 0 0] 24) = W := ⟨_, rfl⟩
  have x1 := heap_new w (.cells #[.int .i64 0, .int .i64 0, .slice none 0 0] 24)
  have bW := box_below w (.cells #[.int .i64 0, .int .i64 0, .slice none 0 0] 24)
  have hWs : W.heap.size = w.heap.size + 1 := by rw [← hW]; simp
  rw [hW] at x1 bW
  go_enter Tryz.func35, Tryz.ntmps35
  go_wp2
  go_loopw [4, 5] (fun l i wr => ∃ k : Nat, k ≤ K ∧ i = .int .i64 k ∧ wr.ownsRow (w.heap.size + 1) 27 1 l k ((tab (fun _ => (16777216 : Int)) k).map (Value.int .i64)) ∧ Below (w.heap.size + 1) W wr) (fun _ i _ => K - (intOf i).toNat)
  case atStart => exact ⟨0, Nat.zero_le _, rfl, World.ownsRow_nil _ _ _ _, Below.refl _ _⟩
  case round =>
    obtain ⟨k, hk, rfl, hown, hbl⟩ := hrel
    have hsz : w.heap.size + 1 ≤ wr.heap.size := by have := hbl.size; omega
    by_cases hlt : k < K
    · have l1 := hlo k hlt
      have l2 : (k : Int) < 9 := by omega
      have d2 : decide ((k : Int) < 9) = true := by simp; omega
      go_wp2_with (at_builtin; refine wpList_append_own _ rfl _ _ 22 rfl (w.heap.size + 1) 27 i0 (.int .i64 0) 1 8 Tryz.under22 hi hz0 hz1 hz2 rfl (by decide) _ _ _ rfl (hown.alloc _) ⟨_, 0, none⟩ 1 1 [.int .i64 16777216] rfl rfl c1_one c2_one (by unfold maxLen; omega) (by omega) (by simp; omega) ?_; intro v2 w2 hown2 hg2 hnil2; have b2 : Below (w.heap.size + 1) W w2 := (hbl.alloc hsz _).grown hg2 (by simp; omega) (fun m e => (hown.lt m e).1); have h2' : w2.ownsRow (w.heap.size + 1) 27 1 v2 (k + 1) ((tab (fun _ => (16777216 : Int)) (k + 1)).map (Value.int .i64)) := (by rw [tab_succ, List.map_append]; exact hown2); clear hown2 hg2 hnil2)
      go_roundw
      case rel => exact ⟨k + 1, by omega, by go_num, h2', b2⟩
      case measure => simp [intOf]; omega
    · have e : k = K := by omega
      subst e
      have bl := hbl.mono (Nat.le_of_eq hWs)
      have y1 := keep bl x1
      have hd' := hd u4 wr (Sees.own hown) (bt bW bl)
      by_cases hn : (k : Int) < n
      · have d2 : decide ((k : Int) < 9) = false := by simp; omega
        go_wp2_with (go_at_call 72; refine hd'.mono ?_; rintro e w4 ⟨r, c', sl, E, rfl, ⟨ao, l, cap, rfl⟩, b4, hz⟩; obtain ⟨d0, d1, d2, f0, f1, f2⟩ := mat_cells (keep b4 y1))
        refine bodyPost_ret (v := .tuple #[.agg #[.int .i64 r, .int .i64 c', .slice ao l cap], .int .i64 E]) (by simp [results, Tryz.results35, go_sem, d0, d1, d2]) rfl ?_
        exact hz _ (lt_of_block y1) _ _ _ (below_put (bt (bt bW bl) b4) (Nat.le_refl _) _ _ _)
      · have d1 : decide ((k : Int) < n) = false := by simpa using hn
        go_wp2_with (go_at_call 72; refine hd'.mono ?_; rintro e w4 ⟨r, c', sl, E, rfl, ⟨ao, l, cap, rfl⟩, b4, hz⟩; obtain ⟨d0, d1, d2, f0, f1, f2⟩ := mat_cells (keep b4 y1))
        refine bodyPost_ret (v := .tuple #[.agg #[.int .i64 r, .int .i64 c', .slice ao l cap], .int .i64 E]) (by simp [results, Tryz.results35, go_sem, d0, d1, d2]) rfl ?_
        exact hz _ (lt_of_block y1) _ _ _ (below_put (bt (bt bW bl) b4) (Nat.le_refl _) _ _ _)

theorem reye_any (n : Nat) (h1 : 1 ≤ n) (hn : n ≤ 8) (w : World) :
    Calls Tryz.prog 35 #[.int .i64 n] w fun e b => ∃ v, e = .returned (.tuple #[.agg #[.int .i64 n, .int .i64 n, v], .int .i64 0]) ∧ Sees b v (dia (fun _ => 16777216) n) ∧ New w.heap.size v ∧ Below w.heap.size w b := by
  refine reye_lay n n (by omega) (fun k hk => by omega) (by omega) w _ ?_
  intro v b hs hb
  have hl : (tab (fun _ => (16777216 : Int)) n).length = n := tab_len _ _
  have ho : outB (tab (fun _ => (16777216 : Int)) n) n = false := anyB_none fun k hk => by rw [ge_tab hk]; decide
  have he : dia (ge (tab (fun _ => (16777216 : Int)) n)) n = dia (fun _ => 16777216) n := by
    unfold dia
    refine tab_congr fun p hp => ?_
    have h : p / n < n := (Nat.div_lt_iff_lt_mul (by omega)).2 hp
    rw [ge_tab h]
  have h := rdiag_any v (tab (fun _ => (16777216 : Int)) n) (by rw [hl]; exact h1) (by rw [hl]; exact hn) (by rw [hl]; exact ho) b hs
  rw [hl, he] at h
  refine h.mono ?_
  rintro e c ⟨v', rfl, s', n', b'⟩
  refine ⟨_, _, v', 0, rfl, ?_, b', ?_⟩
  · obtain ⟨ao, cap, rfl⟩ := s'.slice; exact ⟨_, _, _, rfl⟩
  · intro D hD x y z hbl
    exact ⟨v', rfl, s'.put n' hD _ _ _, n'.mono hb.size, hbl⟩

theorem reye_not (n : Int) (h : ¬ (1 ≤ n ∧ n ≤ 8)) (w : World) :
    Calls Tryz.prog 35 #[.int .i64 n] w fun e b => e = .returned (.tuple #[.agg #[.int .i64 0, .int .i64 0, .slice none 0 0], .int .i64 1]) ∧ Below w.heap.size w b := by
  have go : ∀ K : Nat, K ≤ 9 → (∀ k : Nat, k < K → (k : Int) < n) → ¬ ((K : Int) < n ∧ K < 9) → ¬ (1 ≤ K ∧ K ≤ 8) → Calls Tryz.prog 35 #[.int .i64 n] w fun e b => e = .returned (.tuple #[.agg #[.int .i64 0, .int .i64 0, .slice none 0 0], .int .i64 1]) ∧ Below w.heap.size w b := by
    intro K h9 hlo hhi hK
    refine reye_lay n K h9 hlo hhi w _ ?_
    intro v b hs hb
    have hl : (tab (fun _ => (16777216 : Int)) K).length = K := tab_len _ _
    have h := rdiag_not v (tab (fun _ => (16777216 : Int)) K) (by rw [hl]; omega) (by rw [hl]; exact fun hh => hK ⟨hh.1, hh.2.1⟩) b hs
    refine h.mono ?_
    rintro e c ⟨rfl, b'⟩
    exact ⟨_, _, _, _, rfl, ⟨_, _, _, rfl⟩, b', fun D hD x y z hbl => ⟨rfl, hbl⟩⟩
  by_cases h0 : n < 1
  · exact go 0 (by omega) (fun k hk => by omega) (by omega) (by omega)
  · exact go 9 (by omega) (fun k hk => by omega) (by omega) (by omega)
end Go.Proofs.YtiniobcknmaigaaGreat

/-
  The code and the document's answer side by side: whatever two right matrices are, both tell the same.
-/
namespace Go.Proofs.YtiniobcknmaigaaGreat
open Go.RowKit Go.Sort Qm

/-- a right matrix -/
structure IsRight (r c : Int) (xs : List Int) (R C : Nat) : Prop where
  hr : r = R
  hc : c = C
  r1 : 1 ≤ R
  r8 : R ≤ 8
  c1 : 1 ≤ C
  c8 : C ≤ 8
  len : xs.length = R * C
  ins : AllIn xs
theorem right_of {r c : Int} {xs : List Int} (h : rightB r c xs = true) : ∃ R C, IsRight r c xs R C := by
  unfold rightB at h
  simp only [Bool.and_eq_true, Bool.not_eq_true'] at h
  obtain ⟨R, C, h1, h2, h3, h4, h5, h6, h7⟩ := laidB_in h.1
  refine ⟨R, C, h1, h2, h3, h4, h5, h6, h7, fun k => ?_⟩
  by_cases hk : k < xs.length
  · have := anyB_of h.2 k hk
    unfold ob at this
    simp only [Bool.or_eq_false_iff, decide_eq_false_iff_not] at this
    omega
  · have e : ge xs k = 0 := by unfold ge; rw [List.getD_eq_getElem?_getD, List.getElem?_eq_none (by omega)]; rfl
    rw [e]; omega
theorem IsRight.le {r c : Int} {xs : List Int} {R C : Nat} (h : IsRight r c xs R C) : xs.length ≤ 64 := by rw [h.len]; exact mul_le_64 h.r8 h.c8

/-- a call of two matrices that tells a matrix, whether a bound was met, and a word -/
def Tells2 (f : Nat) (ra ca : Int) (xs : List Int) (rb cb : Int) (ys : List Int) (r c : Int) (zs : List Int) (o : Bool) (e : Int) : Prop :=
  ∀ w va vb, Sees w va xs → Sees w vb ys → Calls Tryz.prog f #[.agg #[.int .i64 ra, .int .i64 ca, va], .agg #[.int .i64 rb, .int .i64 cb, vb]] w fun e' b =>
    ∃ v, e' = .returned (.tuple #[.agg #[.int .i64 r, .int .i64 c, v], .bool o, .int .i64 e]) ∧ Sees b v zs ∧ Below w.heap.size w b
theorem sees_none (w : World) : Sees w (.slice none 0 0) [] := ⟨Option.none, 0, rfl, fun k hk => absurd hk (Nat.not_lt_zero k)⟩
theorem tells2_not {f : Nat} {ra ca : Int} {xs : List Int} {rb cb : Int} {ys : List Int} {e : Int}
    (h : ∀ w va vb, Sees w va xs → Sees w vb ys → Calls Tryz.prog f #[.agg #[.int .i64 ra, .int .i64 ca, va], .agg #[.int .i64 rb, .int .i64 cb, vb]] w fun e' b => e' = .returned (.tuple #[.agg #[.int .i64 0, .int .i64 0, .slice none 0 0], .bool false, .int .i64 e]) ∧ Below w.heap.size w b) :
    Tells2 f ra ca xs rb cb ys 0 0 [] false e := fun w va vb sa sb => (h w va vb sa sb).mono fun _ _ hh => ⟨_, hh.1, sees_none _, hh.2⟩

theorem pai_len (t : Int → Int → Int) (xs ys : List Int) : (pai t xs ys).length = xs.length := tab_len _ _
theorem prd_len (r n c : Nat) (xs ys : List Int) : (prd r n c xs ys).length = r * c := tab_len _ _

theorem add_both {ra ca : Int} {xs : List Int} {rb cb : Int} {ys : List Int} {R C R' C' : Nat} (ha : IsRight ra ca xs R C) (hb : IsRight rb cb ys R' C') :
    ∃ r c zs o e, zs.length ≤ 64 ∧ Tells2 58 ra ca xs rb cb ys r c zs o e ∧ Tells2 26 ra ca xs rb cb ys r c zs o e := by
  by_cases h : ra = rb ∧ ca = cb
  · obtain ⟨rfl, rfl⟩ := h
    have e1 : R' = R := by have h1 := ha.hr; have h2 := hb.hr; omega
    have e2 : C' = C := by have h1 := ha.hc; have h2 := hb.hc; omega
    subst e1; subst e2
    obtain ⟨rfl, rfl, h1, h2, h3, h4, h5, _⟩ := ha
    have h6 := hb.len
    refine ⟨(R' : Int), (C' : Int), pai add xs ys, paiB addB xs ys, 0, by rw [pai_len, h5]; exact mul_le_64 h2 h4, ?_, ?_⟩
    · exact fun w va vb sa sb => (add_mat R' C' h1 h2 h3 h4 va vb xs ys h5 h6 w sa sb).mono fun _ _ ⟨v, x, y, _, z⟩ => ⟨v, x, y, z⟩
    · exact fun w va vb sa sb => (radd_mat R' C' h1 h2 h3 h4 va vb xs ys h5 h6 w sa sb).mono fun _ _ ⟨v, x, y, _, z⟩ => ⟨v, x, y, z⟩
  · exact ⟨0, 0, [], false, 9, Nat.zero_le _, tells2_not fun w va vb sa sb => add_not ra ca rb cb h va vb xs ys w sa sb, tells2_not fun w va vb sa sb => radd_not ra ca rb cb h va vb xs ys w sa sb⟩

theorem sub_both {ra ca : Int} {xs : List Int} {rb cb : Int} {ys : List Int} {R C R' C' : Nat} (ha : IsRight ra ca xs R C) (hb : IsRight rb cb ys R' C') :
    ∃ r c zs o e, zs.length ≤ 64 ∧ Tells2 104 ra ca xs rb cb ys r c zs o e ∧ Tells2 36 ra ca xs rb cb ys r c zs o e := by
  by_cases h : ra = rb ∧ ca = cb
  · obtain ⟨rfl, rfl⟩ := h
    have e1 : R' = R := by have h1 := ha.hr; have h2 := hb.hr; omega
    have e2 : C' = C := by have h1 := ha.hc; have h2 := hb.hc; omega
    subst e1; subst e2
    obtain ⟨rfl, rfl, h1, h2, h3, h4, h5, _⟩ := ha
    have h6 := hb.len
    refine ⟨(R' : Int), (C' : Int), pai sub xs ys, paiB subB xs ys, 0, by rw [pai_len, h5]; exact mul_le_64 h2 h4, ?_, ?_⟩
    · exact fun w va vb sa sb => (sub_mat R' C' h1 h2 h3 h4 va vb xs ys h5 h6 w sa sb).mono fun _ _ ⟨v, x, y, _, z⟩ => ⟨v, x, y, z⟩
    · exact fun w va vb sa sb => (rsub_mat R' C' h1 h2 h3 h4 va vb xs ys h5 h6 w sa sb).mono fun _ _ ⟨v, x, y, _, z⟩ => ⟨v, x, y, z⟩
  · exact ⟨0, 0, [], false, 9, Nat.zero_le _, tells2_not fun w va vb sa sb => sub_not ra ca rb cb h va vb xs ys w sa sb, tells2_not fun w va vb sa sb => rsub_not ra ca rb cb h va vb xs ys w sa sb⟩

theorem mul_both {ra ca : Int} {xs : List Int} {rb cb : Int} {ys : List Int} {R C R' C' : Nat} (ha : IsRight ra ca xs R C) (hb : IsRight rb cb ys R' C') :
    ∃ r c zs o e, zs.length ≤ 64 ∧ Tells2 49 ra ca xs rb cb ys r c zs o e ∧ Tells2 24 ra ca xs rb cb ys r c zs o e := by
  by_cases h : ca = rb
  · subst h
    have e1 : R' = C := by have h1 := ha.hc; have h2 := hb.hr; omega
    subst e1
    obtain ⟨rfl, rfl, h1, h2, h3, h4, h5, _⟩ := ha
    obtain ⟨_, rfl, _, _, g3, g4, g5, _⟩ := hb
    refine ⟨(R : Int), (C' : Int), prd R R' C' xs ys, prdB R R' C' xs ys, 0, by rw [prd_len]; exact mul_le_64 h2 g4, ?_, ?_⟩
    · exact fun w va vb sa sb => (mul_mat R R' C' h1 h2 h3 h4 g3 g4 va vb xs ys h5 g5 w sa sb).mono fun _ _ ⟨v, x, y, _, z⟩ => ⟨v, x, y, z⟩
    · exact fun w va vb sa sb => (rmul_mat R R' C' h1 h2 h3 h4 g3 g4 va vb xs ys h5 g5 w sa sb).mono fun _ _ ⟨v, x, y, _, z⟩ => ⟨v, x, y, z⟩
  · exact ⟨0, 0, [], false, 9, Nat.zero_le _, tells2_not fun w va vb sa sb => mul_not ra ca rb cb h va vb xs ys w sa sb, tells2_not fun w va vb sa sb => rmul_not ra ca rb cb h va vb xs ys w sa sb⟩
theorem sameB_self (r c : Int) (xs : List Int) : sameB r c xs r c xs = true := by unfold sameB eqB; simp
end Go.Proofs.YtiniobcknmaigaaGreat
