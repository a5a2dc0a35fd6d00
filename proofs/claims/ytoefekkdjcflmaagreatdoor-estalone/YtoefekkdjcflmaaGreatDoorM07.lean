/- Parts of the proof. -/
import Derived.Test.YtoefekkdjcflmaaGreatDoorM06
namespace Go.Proofs.YtoefekkdjcflmaaGreatDoor
open Go.RowKit Qm
def reckW (w : World) (R C : Int) (f : Value) : World :=
  (((w.alloc (.cells #[.int .i64 R, .int .i64 C] 166)).alloc (.cells #[f] 204)).alloc (.cells #[.int .i64 0, .int .i64 0, .slice none 0 0] 29)).alloc (.cells #[.bool false] 4)
theorem reckW_size (w : World) (R C : Int) (f : Value) : (reckW w R C f).heap.size = w.heap.size + 4 := by simp [reckW]
theorem reckW_below (w : World) (R C : Int) (f : Value) : Below w.heap.size w (reckW w R C f) :=
  ((((Below.refl _ _).alloc (Nat.le_refl _) _).alloc (by simp) _).alloc (by simp; omega) _).alloc (by simp; omega) _
theorem reckW_cells (w : World) (R C : Int) (f : Value) :
    (reckW w R C f).cell? ⟨w.heap.size + 1, 0, none⟩ = some f ∧
    (reckW w R C f).heap[w.heap.size + 2]? = some (.cells #[.int .i64 0, .int .i64 0, .slice none 0 0] 29 (0, 0)) ∧
    (reckW w R C f).heap[w.heap.size + 3]? = some (.cells #[.bool false] 4 (0, 0)) := by
  unfold reckW
  refine ⟨by simp [go_sem], ?_, ?_⟩
  · rw [Below.heap_alloc _ _ _ (by simp)]
    have e : w.heap.size + 2 = ((w.alloc (.cells #[.int .i64 R, .int .i64 C] 166)).alloc (.cells #[f] 204)).heap.size := by simp
    rw [e, heap_alloc_new]
  · have e : w.heap.size + 3 = (((w.alloc (.cells #[.int .i64 R, .int .i64 C] 166)).alloc (.cells #[f] 204)).alloc (.cells #[.int .i64 0, .int .i64 0, .slice none 0 0] 29)).heap.size := by simp
    rw [e, heap_alloc_new]
theorem reck_fill (R C : Nat) (hR : R ≤ 8) (hC : C ≤ 8) (G : Nat) (hG : ∀ (args : Array Value) (a : World), Sem.run Tryz.prog (callFunc G args) a = Result.ok (Next.enter G args) a) (caps : Array Value) (t : Nat → Int) (o : Nat → Bool) (w : World)
    (hcall : ∀ (i j : Nat) a, i < R → j < C → Below w.heap.size w a → Calls Tryz.prog G (#[.int .i64 i, .int .i64 j] ++ caps) a (fun e b => e = .returned (.tuple #[.int .i64 (t (i * C + j)), .bool (o (i * C + j))]) ∧ Below a.heap.size a b)) :
    Calls Tryz.prog 161 #[.agg #[.int .i64 R, .int .i64 C], .func (.func 193) #[] #[.pointer (some ⟨w.heap.size + 1, 0, none⟩), .pointer (some ⟨w.heap.size + 1 + 1 + 1, 0, none⟩)]] (reckW w R C (.func (.func G) #[] caps)) fun e b =>
      ∃ v, e = .returned (.agg #[.int .i64 R, .int .i64 C, v]) ∧ b.ownsRow (w.heap.size + 4) 22 1 v (R * C) ((tab t (R * C)).map (Value.int .i64)) ∧
        b.heap[w.heap.size + 1 + 1]? = some (.cells #[.int .i64 0, .int .i64 0, .slice none 0 0] 29 (0, 0)) ∧ b.cell? ⟨w.heap.size + 1 + 1 + 1, 0, none⟩ = some (.bool (anyB o (R * C))) ∧ Below w.heap.size w b ∧ w.heap.size + 4 ≤ b.heap.size := by
  obtain ⟨W, hW⟩ : ∃ W, reckW w R C (.func (.func G) #[] caps) = W := ⟨_, rfl⟩
  obtain ⟨c1, c2, c3⟩ := reckW_cells w R C (.func (.func G) #[] caps)
  have hs := reckW_size w R C (.func (.func G) #[] caps)
  have hbl := reckW_below w R C (.func (.func G) #[] caps)
  rw [hW] at c1 c2 c3 hs hbl ⊢
  clear hW
  have back : ∀ a, W.grownBy a (some (w.heap.size + 3)) → Below w.heap.size w a := fun a h => hbl.trans (below_gb h (by omega) (fun k e => by cases e; omega))
  have base := filled_any R C hR hC 193 enters68 #[.pointer (some ⟨w.heap.size + 1, 0, none⟩), .pointer (some ⟨w.heap.size + 1 + 1 + 1, 0, none⟩)] t (some (w.heap.size + 3))
    (fun k a => W.grownBy a (some (w.heap.size + 3)) ∧ a.heap[w.heap.size + 3]? = some (.cells #[.bool (anyB o k)] 4 (0, 0))) W (fun m e => by cases e; omega) ⟨gb_refl _ _, c3⟩ ?_ ?_
  · refine base.mono ?_
    rintro e b ⟨v, rfl, hown, ⟨hg, hm⟩, _⟩
    refine ⟨v, rfl, own_mono hown (by omega), ?_, cell_of_one hm, back b hg, by have := hg.size; omega⟩
    rw [hg.block _ (by omega) (by simp)]; exact c2
  · rintro k a b ⟨h1, h2⟩ hb
    refine ⟨⟨hb.os.trans h1.os, hb.tape.trans h1.tape, hb.output.trans h1.output, Nat.le_trans h1.size hb.size, fun i hi hn => by rw [hb.block i hi, h1.block i hi hn]⟩, ?_⟩
    rw [hb.block _ (by omega)]; exact h2
  · rintro i j a hi hj ⟨h1, h2⟩
    have hT : a.cell? ⟨w.heap.size + 1, 0, none⟩ = some (.func (.func G) #[] caps) := h1.cell c1 (by simp)
    refine (reck1_any i j G hG caps _ _ (t (i * C + j)) (anyB o (i * C + j)) (o (i * C + j)) a hT h2 (hcall i j a hi hj (back a h1))).mono ?_
    rintro e b ⟨rfl, h3, h4⟩
    exact ⟨rfl, ⟨gb_trans h1 h4, h3⟩, h4⟩
set_option maxHeartbeats 800000 in
theorem reckoned_any (R C : Nat) (hR : R ≤ 8) (hC : C ≤ 8) (G : Nat) (hG : ∀ (args : Array Value) (a : World), Sem.run Tryz.prog (callFunc G args) a = Result.ok (Next.enter G args) a) (caps : Array Value) (t : Nat → Int) (o : Nat → Bool) (w : World)
    (hcall : ∀ (i j : Nat) a, i < R → j < C → Below w.heap.size w a → Calls Tryz.prog G (#[.int .i64 i, .int .i64 j] ++ caps) a (fun e b => e = .returned (.tuple #[.int .i64 (t (i * C + j)), .bool (o (i * C + j))]) ∧ Below a.heap.size a b)) :
    Calls Tryz.prog 178 #[.agg #[.int .i64 R, .int .i64 C], .func (.func G) #[] caps] w fun e b =>
      ∃ v, e = .returned (.tuple #[.agg #[.int .i64 R, .int .i64 C, v], .bool (anyB o (R * C))]) ∧ Sees b v (tab t (R * C)) ∧ New w.heap.size v ∧ Below w.heap.size w b := by
  have hf := reck_fill R C hR hC G hG caps t o w hcall
  unfold reckW at hf
  obtain ⟨q, hq⟩ : ∃ q, R * C = q := ⟨_, rfl⟩
  obtain ⟨A, hA⟩ : ∃ A, anyB o q = A := ⟨_, rfl⟩
  rw [hq] at hf ⊢
  rw [hA] at hf ⊢
  clear hq hA hcall hG
  go_enter Tryz.func178, Tryz.ntmps178
  go_wp2_with (go_at_call 161; refine Calls.mono hf ?_; rintro e wx ⟨v, rfl, hown, hB, hM, hbl, hsz⟩; obtain ⟨ao, cap, rfl⟩ := own_slice hown; obtain ⟨d0, d1, d2, f0, f1, f2⟩ := mat_cells (old_mat hB (.cells #[.int .i64 R, .int .i64 C, .slice ao q cap] 29)); have hM2 := old_cell hM (by omega) (.cells #[.int .i64 R, .int .i64 C, .slice ao q cap] 29); clear hM hB)
  go_region
  all_goals (try go_wp2)
  refine bodyPost_ret (v := .tuple #[.agg #[.int .i64 R, .int .i64 C, .slice ao q cap], .bool A]) (by simp [results, Tryz.results178, go_sem, d0, d1, d2]) rfl ?_
  have hN := New.own hown
  exact ⟨_, rfl, (((Sees.own hown).alloc _).put hN (by omega) _ _ _).drew, hN.mono (by omega), (below_put (hbl.alloc (by omega) _) (by omega) _ _ _).drew⟩
theorem box_below (w : World) (o : Obj) : Below w.heap.size w (w.alloc o) := (Below.refl _ _).alloc (Nat.le_refl _) _
set_option maxHeartbeats 400000 in
theorem numbers1_any (i j c : Nat) (bk : Nat) (R : Int) (sl : Value) (xs : List Int) (w : World) (hi : i ≤ 8) (hj : j < c) (hc : c ≤ 8) (hn : xs.length ≤ 64) (hx : i * c + j < xs.length)
    (hb : w.heap[bk]? = some (.cells #[.int .i64 R, .int .i64 c, sl] 29 (0, 0))) (hs : Sees w sl xs) :
    Calls Tryz.prog 182 #[.int .i64 i, .int .i64 j, .pointer (some ⟨bk, 0, none⟩)] w fun e w' => e = .returned (.int .i64 (ge xs (i * c + j))) ∧ w' = w := by
  obtain ⟨ao, cap, rfl, hcell⟩ := hs
  obtain ⟨ad, rfl, _, hcell⟩ := hcell _ hx
  obtain ⟨h0, h1, h2, _⟩ := mat_cells hb
  have hm : i * c ≤ 64 := mul_le_64 hi hc
  obtain ⟨q, hq⟩ : ∃ q, i * c = q := ⟨_, rfl⟩
  have hq' : (i : Int) * (c : Int) = (q : Int) := by rw [← hq]; exact (Int.natCast_mul i c).symm
  rw [hq] at hm hx hcell ⊢
  clear hq hb
  go_enter Tryz.func182, Tryz.ntmps182
  go_wp2
  go_ret
  exact ⟨rfl, rfl⟩
theorem numbers_any (R c : Int) (ao : Option Addr) (n cap : Nat) (w : World) :
    Calls Tryz.prog 160 #[.agg #[.int .i64 R, .int .i64 c, .slice ao n cap]] w fun e w' => e = .returned (.func (.func 182) #[] #[.pointer (some ⟨w.heap.size, 0, none⟩)]) ∧ w' = w.alloc (.cells #[.int .i64 R, .int .i64 c, .slice ao n cap] 29) := by
  go_enter Tryz.func160, Tryz.ntmps160
  go_wp2
  go_ret
  exact ⟨rfl, rfl⟩
theorem sizeOf_any (R c : Int) (ao : Option Addr) (n cap : Nat) (w : World) :
    Calls Tryz.prog 144 #[.agg #[.int .i64 R, .int .i64 c, .slice ao n cap]] w fun e w' => e = .returned (.agg #[.int .i64 R, .int .i64 c]) ∧ Below w.heap.size w w' := by
  go_enter Tryz.func144, Tryz.ntmps144
  go_wp2
  refine bodyPost_ret (v := .agg #[.int .i64 R, .int .i64 c]) (by simp [results, Tryz.results144, go_sem]) rfl ?_
  exact ⟨rfl, (box_below _ _).alloc (by simp) _⟩
theorem turned_any (R c : Int) (w : World) :
    Calls Tryz.prog 162 #[.agg #[.int .i64 R, .int .i64 c]] w fun e w' => e = .returned (.agg #[.int .i64 c, .int .i64 R]) ∧ Below w.heap.size w w' := by
  go_enter Tryz.func162, Tryz.ntmps162
  go_wp2
  refine bodyPost_ret (v := .agg #[.int .i64 c, .int .i64 R]) (by simp [results, Tryz.results162, go_sem]) rfl ?_
  exact ⟨rfl, (box_below _ _).alloc (by simp) _⟩
namespace Qm
def cntB (n : Int) : Bool := decide (1 ≤ n) && decide (n ≤ 8)
theorem cntB_t {n : Int} (h1 : 1 ≤ n) (h2 : n ≤ 8) : cntB n = true := by unfold cntB; simp; omega
theorem cntB_f {n : Int} (h : ¬ (1 ≤ n ∧ n ≤ 8)) : cntB n = false := by unfold cntB; simp; omega
theorem cntB_in {n : Int} (h : cntB n = true) : 1 ≤ n ∧ n ≤ 8 := by unfold cntB at h; simpa using h
def laidB (r c : Int) (n : Nat) : Bool := cntB r && (cntB c && decide ((n : Int) = r * c))
theorem laidB_in {r c : Int} {n : Nat} (h : laidB r c n = true) : ∃ R C : Nat, r = R ∧ c = C ∧ 1 ≤ R ∧ R ≤ 8 ∧ 1 ≤ C ∧ C ≤ 8 ∧ n = R * C := by
  unfold laidB at h
  simp only [Bool.and_eq_true, decide_eq_true_eq] at h
  obtain ⟨h1, h2, h3⟩ := h
  have h1 := cntB_in h1
  have h2 := cntB_in h2
  obtain ⟨R, rfl⟩ := Int.eq_ofNat_of_zero_le (by omega : 0 ≤ r)
  obtain ⟨C, rfl⟩ := Int.eq_ofNat_of_zero_le (by omega : 0 ≤ c)
  refine ⟨R, C, rfl, rfl, by omega, by omega, by omega, by omega, ?_⟩
  rw [← Int.natCast_mul] at h3
  exact Int.ofNat.inj h3
theorem laidB_mk {R C n : Nat} (h1 : 1 ≤ R) (h2 : R ≤ 8) (h3 : 1 ≤ C) (h4 : C ≤ 8) (h5 : n = R * C) : laidB R C n = true := by
  unfold laidB
  rw [cntB_t (by omega) (by omega), cntB_t (by omega) (by omega), h5, Int.natCast_mul]; simp
end Qm
theorem mayCount_any (n : Int) (w : World) : Calls Tryz.prog 137 #[.int .i64 n] w fun e w' => e = .returned (.bool (cntB n)) ∧ w' = w := by
  by_cases h1 : 1 ≤ n
  · by_cases h2 : n ≤ 8
    · rw [cntB_t h1 h2]
      have d2 : decide (n ≤ 8) = true := by simp; omega
      go_enter Tryz.func137, Tryz.ntmps137
      go_wp2
      go_ret
      exact ⟨rfl, rfl⟩
    · rw [cntB_f (by omega)]
      have d2 : decide (n ≤ 8) = false := by simp; omega
      go_enter Tryz.func137, Tryz.ntmps137
      go_wp2
      go_ret
      exact ⟨rfl, rfl⟩
  · rw [cntB_f (by omega)]
    have d1 : decide (1 ≤ n) = false := by simp; omega
    go_enter Tryz.func137, Tryz.ntmps137
    go_wp2
    go_ret
    exact ⟨rfl, rfl⟩
theorem outside_any (a : Int) (w : World) : Calls Tryz.prog 138 #[.int .i64 a] w fun e w' => e = .returned (.bool (ob a)) ∧ w' = w := by
  go_enter Tryz.func138, Tryz.ntmps138
  go_wp2_with (go_at_call 91; refine (clamp_any _ _).mono ?_; rintro e w' ⟨rfl, rfl⟩)
  go_ret
  exact ⟨rfl, rfl⟩
end Go.Proofs.YtoefekkdjcflmaaGreatDoor
namespace Go.Proofs.YtoefekkdjcflmaaGreatDoor
open Go.RowKit Qm
set_option maxHeartbeats 400000 in
theorem laid_any (r c : Int) (ao : Option Addr) (n cap : Nat) (w : World) :
    Calls Tryz.prog 159 #[.agg #[.int .i64 r, .int .i64 c, .slice ao n cap]] w fun e w' => e = .returned (.bool (laidB r c n)) ∧ Below w.heap.size w w' := by
  have hB := box_below w (.cells #[.int .i64 r, .int .i64 c, .slice ao n cap] 29)
  cases h1 : cntB r with
  | false =>
    have hl : laidB r c n = false := by unfold laidB; rw [h1]; rfl
    rw [hl]
    go_enter Tryz.func159, Tryz.ntmps159
    go_wp2_with (go_at_call 137; refine (mayCount_any _ _).mono ?_; rintro e w' ⟨rfl, rfl⟩)
    go_ret
    exact ⟨rfl, hB⟩
  | true =>
    cases h2 : cntB c with
    | false =>
      have hl : laidB r c n = false := by unfold laidB; rw [h1, h2]; rfl
      rw [hl]
      go_enter Tryz.func159, Tryz.ntmps159
      go_wp2_with (go_at_call 137; refine (mayCount_any _ _).mono ?_; rintro e w' ⟨rfl, rfl⟩)
      go_ret
      exact ⟨rfl, hB⟩
    | true =>
      have hl : laidB r c n = decide ((n : Int) = r * c) := by unfold laidB; rw [h1, h2]; rfl
      rw [hl]
      obtain ⟨R, rfl⟩ := Int.eq_ofNat_of_zero_le (by have := cntB_in h1; omega : 0 ≤ r)
      obtain ⟨C, rfl⟩ := Int.eq_ofNat_of_zero_le (by have := cntB_in h2; omega : 0 ≤ c)
      have hm : R * C ≤ 64 := mul_le_64 (by have := cntB_in h1; omega) (by have := cntB_in h2; omega)
      obtain ⟨q, hq⟩ : ∃ q, R * C = q := ⟨_, rfl⟩
      have hq' : (R : Int) * (C : Int) = (q : Int) := by rw [← hq]; exact (Int.natCast_mul R C).symm
      rw [hq] at hm
      rw [hq']
      clear hq hl
      obtain ⟨D, hD⟩ : ∃ D, decide ((n : Int) = (q : Int)) = D := ⟨_, rfl⟩
      rw [hD]
      go_enter Tryz.func159, Tryz.ntmps159
      go_wp2_with (go_at_call 137; refine (mayCount_any _ _).mono ?_; rintro e w' ⟨rfl, rfl⟩)
      go_ret
      exact ⟨by rw [← hD]; rfl, hB⟩
namespace Qm
theorem anyB_hit {o : Nat → Bool} {k n : Nat} (hk : k < n) (h : o k = true) : anyB o n = true := by
  induction n with
  | zero => omega
  | succ n ih =>
    rw [anyB]
    by_cases e : k = n
    · subst e; rw [h, Bool.or_true]
    · rw [ih (by omega), Bool.true_or]
theorem anyB_of {o : Nat → Bool} {n : Nat} (h : anyB o n = false) : ∀ k, k < n → o k = false := by
  intro k hk
  cases e : o k with
  | false => rfl
  | true => rw [anyB_hit hk e] at h; cases h
def outB (xs : List Int) (n : Nat) : Bool := anyB (fun k => ob (ge xs k)) n
def rightB (r c : Int) (xs : List Int) : Bool := laidB r c xs.length && !outB xs xs.length
end Qm
set_option maxHeartbeats 400000 in
theorem index_any (v : Value) (xs : List Int) (w : World) (hn : xs.length ≤ 100) (hs : Sees w v xs) :
    Calls Tryz.prog 87 #[v, .func (.func 138) #[] #[]] w fun e w' => ∃ r, e = .returned (.int .i64 r) ∧ decide (0 ≤ r) = outB xs xs.length ∧ w' = w := by
  obtain ⟨ao, cap, rfl, hcell⟩ := hs
  obtain ⟨n, hn'⟩ : ∃ n, xs.length = n := ⟨_, rfl⟩
  rw [hn'] at hn hcell ⊢
  have HN : Hid (xs.length = n) := hn'
  clear hn'
  go_enter Tryz.func87, Tryz.ntmps87
  go_wp2
  go_loop [8] (fun i => ∃ k : Nat, k ≤ n ∧ i = .int .i64 k ∧ Hid (outB xs k = false)) (fun i => n - (intOf i).toNat)
  case atStart => exact ⟨0, Nat.zero_le _, rfl, rfl⟩
  case round =>
    obtain ⟨k, hk, rfl, hno⟩ := hrel
    by_cases hlt : k < n
    · obtain ⟨ad, rfl, _, hc⟩ := hcell k hlt
      cases ho : ob (ge xs k) with
      | true =>
        go_wp2_with (go_at_call 138; refine (outside_any _ _).mono ?_; rintro e w' ⟨rfl, rfl⟩)
        go_ret
        exact ⟨_, rfl, by rw [show outB xs n = true from anyB_hit hlt ho]; simp, rfl⟩
      | false =>
        go_wp2_with (go_at_call 138; refine (outside_any _ _).mono ?_; rintro e w' ⟨rfl, rfl⟩)
        go_round
        case rel => exact ⟨k + 1, by omega, by go_num, by show outB xs (k + 1) = false; unfold outB; rw [anyB, ho]; have := hno.out; unfold outB at this; rw [this]; rfl⟩
        case measure => simp [intOf]; omega
    · have e : k = n := by omega
      subst e
      go_wp2
      go_ret
      exact ⟨-1, rfl, by rw [hno.out]; rfl, rfl⟩
theorem contains_any (v : Value) (xs : List Int) (w : World) (hn : xs.length ≤ 100) (hs : Sees w v xs) :
    Calls Tryz.prog 41 #[v, .func (.func 138) #[] #[]] w fun e w' => e = .returned (.bool (outB xs xs.length)) ∧ w' = w := by
  obtain ⟨A, hA⟩ : ∃ A, outB xs xs.length = A := ⟨_, rfl⟩
  have hi := index_any v xs w hn hs
  rw [hA] at hi ⊢
  go_enter Tryz.func41, Tryz.ntmps41
  go_wp2_with (go_at_call 87; refine hi.mono ?_; rintro e w' ⟨r, rfl, hr, rfl⟩)
  go_ret
  exact ⟨rfl, rfl⟩
set_option maxHeartbeats 400000 in
theorem right_any (r c : Int) (v : Value) (xs : List Int) (w : World) (hn : xs.length ≤ 100) (hs : Sees w v xs) :
    Calls Tryz.prog 141 #[.agg #[.int .i64 r, .int .i64 c, v]] w fun e w' => e = .returned (.bool (rightB r c xs)) ∧ Below w.heap.size w w' := by
  obtain ⟨ao, cap, rfl⟩ := hs.slice
  have hR : rightB r c xs = (laidB r c xs.length && !outB xs xs.length) := rfl
  cases hl : laidB r c xs.length with
  | false =>
    rw [hR, hl]
    go_enter Tryz.func141, Tryz.ntmps141
    go_wp2_with (go_at_call 159; refine (laid_any _ _ _ _ _ _).mono ?_; rintro e w' ⟨rfl, bx⟩)
    go_ret
    exact ⟨rfl, bt (box_below _ _) bx⟩
  | true =>
    rw [hR, hl]
    go_enter Tryz.func141, Tryz.ntmps141
    go_wp2_with (first | (go_at_call 159; refine (laid_any _ _ _ _ _ _).mono ?_; rintro e w' ⟨rfl, bx⟩; obtain ⟨c0, c1, c2, _⟩ := mat_cells ((bx.block w.heap.size (by simp)).trans (heap_alloc_new w _)); have hs' := (hs.alloc _).below bx) | (go_at_call 41; refine (contains_any _ _ _ hn hs').mono ?_; rintro e w' ⟨rfl, rfl⟩))
    go_ret
    exact ⟨rfl, bt (box_below _ _) bx⟩
end Go.Proofs.YtoefekkdjcflmaaGreatDoor
namespace Go.Proofs.YtoefekkdjcflmaaGreatDoor
open Go.RowKit Go.Sort Qm
def AtBox (w : World) (P bk c : Nat) (xs : List Int) : Prop :=
  w.cell? ⟨P, 0, none⟩ = some (.func (.func 182) #[] #[.pointer (some ⟨bk, 0, none⟩)]) ∧ P < w.heap.size ∧ ∃ R sl, w.heap[bk]? = some (.cells #[.int .i64 R, .int .i64 c, sl] 29 (0, 0)) ∧ Sees w sl xs
theorem AtBox.below {w w' : World} {P bk c : Nat} {xs : List Int} (h : AtBox w P bk c xs) (hb : Below w.heap.size w w') : AtBox w' P bk c xs := by
  obtain ⟨h1, h2, R, sl, h3, h4⟩ := h
  exact ⟨by rw [hb.cell (p := ⟨P, 0, none⟩) h2]; exact h1, Nat.lt_of_lt_of_le h2 hb.size, R, sl, by rw [hb.block bk (lt_of_block h3)]; exact h3, h4.below hb⟩
theorem atbox_mk {w : World} {R : Int} {c : Nat} {sl : Value} {xs : List Int} (hs : Sees w sl xs) :
    AtBox ((w.alloc (.cells #[.int .i64 R, .int .i64 c, sl] 29)).alloc (.cells #[.func (.func 182) #[] #[.pointer (some ⟨w.heap.size, 0, none⟩)]] 187)) (w.heap.size + 1) w.heap.size c xs := by
  obtain ⟨h1, h2⟩ := allocs2 w (.cells #[.int .i64 R, .int .i64 c, sl] 29) (.cells #[.func (.func 182) #[] #[.pointer (some ⟨w.heap.size, 0, none⟩)]] 187)
  exact ⟨cell_of_one h2, lt_of_block h2, R, sl, h1, (hs.alloc _).alloc _⟩
theorem at_any (i j c : Nat) (P bk : Nat) (xs : List Int) (w : World) (hi : i ≤ 8) (hj : j < c) (hc : c ≤ 8) (hn : xs.length ≤ 64) (hx : i * c + j < xs.length) (h : AtBox w P bk c xs) :
    Calls Tryz.prog 182 #[.int .i64 i, .int .i64 j, .pointer (some ⟨bk, 0, none⟩)] w fun e w' => e = .returned (.int .i64 (ge xs (i * c + j))) ∧ w' = w := by
  obtain ⟨_, _, R, sl, h3, h4⟩ := h
  exact numbers1_any i j c bk R sl xs w hi hj hc hn hx h3 h4
theorem at_calm (i j c : Nat) (P bk : Nat) (xs : List Int) (w : World) (hi : i ≤ 8) (hj : j < c) (hc : c ≤ 8) (hn : xs.length ≤ 64) (hx : i * c + j < xs.length) (h : AtBox w P bk c xs) (d : Nat) (os : Array Obj) :
    Calls Tryz.prog 182 #[.int .i64 i, .int .i64 j, .pointer (some ⟨bk, 0, none⟩)] (grow (redrawn w d) os) fun e w'' => e = .returned (.int .i64 (ge xs (i * c + j))) ∧ ∃ p : Regrown, w'' = grow (redrawn w p.d) p.os :=
  Calls.regrown_of ((at_any i j c P bk xs _ hi hj hc hn hx (h.below (below_regrown w d os))).mono fun e w' hh => ⟨hh.1, by rw [hh.2]; exact Below.refl _ _⟩)
theorem mul_calm (a b : Int) (w : World) (d : Nat) (os : Array Obj) : Calls Tryz.prog 99 #[.int .i64 a, .int .i64 b] (grow (redrawn w d) os) fun e w'' => e = .returned (.tuple #[.int .i64 (mul a b), .bool (mulB a b)]) ∧ ∃ p : Regrown, w'' = grow (redrawn w p.d) p.os :=
  Calls.regrown_of (mul_any a b _)
set_option maxHeartbeats 400000 in
theorem scale1_any (i j c : Nat) (P bk K : Nat) (k : Int) (xs : List Int) (w : World) (hi : i ≤ 8) (hj : j < c) (hc : c ≤ 8) (hn : xs.length ≤ 64) (hx : i * c + j < xs.length) (h : AtBox w P bk c xs)
    (hk : w.cell? ⟨K, 0, none⟩ = some (.int .i64 k)) :
    Calls Tryz.prog 201 #[.int .i64 i, .int .i64 j, .pointer (some ⟨P, 0, none⟩), .pointer (some ⟨K, 0, none⟩)] w fun e w' => e = .returned (.tuple #[.int .i64 (mul (ge xs (i * c + j)) k), .bool (mulB (ge xs (i * c + j)) k)]) ∧ Below w.heap.size w w' := by
  have k1 := cell_regrown h.1
  have k2 := cell_regrown hk
  have cA := at_calm i j c P bk xs w hi hj hc hn hx h
  obtain ⟨x, hx'⟩ : ∃ x, ge xs (i * c + j) = x := ⟨_, rfl⟩
  rw [hx'] at cA ⊢
  clear hx' h hx
  have cM := mul_calm x k w
  go_enter Tryz.func201, Tryz.ntmps201
  go_wp2
  refine wp_region_quiet_below (by kernel_rfl) (by kernel_rfl) ?_
  repeat (quiet_step (first | exact cA _ _ | exact cM _ _))
  refine wpQuiet_nil ?_
  intro _ hw'
  obtain ⟨⟨dq, osq⟩, hw''⟩ := hw'
  subst hw''
  go_wp2
  go_ret2
  exact ⟨rfl, below_regrown w dq osq⟩
end Go.Proofs.YtoefekkdjcflmaaGreatDoor

