/-
  The contract of mat.filled, over whatever function tells the numbers.
-/
import Derived.Test.YtiniobcknmaigaaMatW
namespace Go.Proofs.Ytiniobcknmaigaa
open Go.RowKit Qm

theorem fill_cells {w wr : World} {row : Option Nat} {R C : Int} (hrow : ∀ m, row = some m → m < w.heap.size)
    (hg : ((w.alloc (.cells #[.int .i64 R, .int .i64 C] 93)).alloc (.cells #[.int .i64 0, .int .i64 0, .slice none 0 0] 24)).grownBy wr row) :
    wr.cell? ⟨w.heap.size, 0, none⟩ = some (.int .i64 R) ∧ wr.cell? ⟨w.heap.size, 1, none⟩ = some (.int .i64 C) ∧
    wr.heap[w.heap.size + 1]? = some (.cells #[.int .i64 0, .int .i64 0, .slice none 0 0] 24 (0, 0)) := by
  have h1 := hg.block w.heap.size (by simp; omega) (fun e => by have := hrow _ e.symm; omega)
  have h2 := hg.block (w.heap.size + 1) (by simp) (fun e => by have := hrow _ e.symm; omega)
  rw [Below.heap_alloc _ _ _ (by simp)] at h1
  rw [heap_alloc_new] at h1
  have e : w.heap.size + 1 = (w.alloc (.cells #[.int .i64 R, .int .i64 C] 93)).heap.size := by simp
  refine ⟨by simp [World.cell?, h1], by simp [World.cell?, h1], ?_⟩
  rw [h2, e, heap_alloc_new]
/-- what the loops of filled keep -/
def FI (w : World) (row : Option Nat) (I : Nat → World → Prop) (t : Nat → Int) (R C : Int) (k : Nat) (l : Value) (wr : World) : Prop :=
  wr.ownsRow (w.heap.size + 2) 41 1 l k ((tab t k).map (Value.int .i64)) ∧
  ((w.alloc (.cells #[.int .i64 R, .int .i64 C] 93)).alloc (.cells #[.int .i64 0, .int .i64 0, .slice none 0 0] 24)).grownBy wr row ∧ I k wr

theorem FI.start {w w1 : World} {row : Option Nat} {I : Nat → World → Prop} {t : Nat → Int} {R C : Int} {l : Value} (hmon : ∀ k a b, I k a → Below w.heap.size a b → I k b) (hI0 : I 0 w)
    (h1 : w1.ownsRow (w.heap.size + 2) 41 1 l 0 [])
    (h2 : ((w.alloc (.cells #[.int .i64 R, .int .i64 C] 93)).alloc (.cells #[.int .i64 0, .int .i64 0, .slice none 0 0] 24)).grownBy w1 none) : FI w row I t R C 0 l w1 := by
  refine ⟨h1, gb_below _ (gb_none h2), hmon 0 w w1 hI0 ?_⟩
  have e := gb_none h2
  exact (((Below.refl _ _).alloc (Nat.le_refl _) _).alloc (by simp) _).trans (e.mono (by simp; omega))

theorem FI.step {w wr w1 w2 : World} {row : Option Nat} {I : Nat → World → Prop} {t : Nat → Int} {R C : Int} {k : Nat} {l v : Value} {o : Obj} (hmon : ∀ k a b, I k a → Below w.heap.size a b → I k b)
    (h : FI w row I t R C k l wr) (hg : wr.grownBy w1 row) (hI : I (k + 1) w1)
    (hown : w2.ownsRow (w.heap.size + 2) 41 1 v (k + 1) ((tab t k).map (Value.int .i64) ++ [.int .i64 (t k)])) (hg2 : (w1.alloc o).grownBy w2 l.ownBlock) : FI w row I t R C (k + 1) v w2 := by
  obtain ⟨h1, h2, h3⟩ := h
  have hs : w.heap.size + 2 ≤ wr.heap.size := by have := h2.size; simpa using this
  have hs1 : wr.heap.size ≤ w1.heap.size := hg.size
  have b1 : Below (w.heap.size + 2) w1 w2 := ((Below.refl _ _).alloc (by omega) _).grown hg2 (by simp; omega) (fun m e => (h1.lt m e).1)
  refine ⟨by rw [tab_succ, List.map_append]; exact hown, ?_, hmon _ _ _ hI (b1.mono (by omega))⟩
  have g1 := gb_trans h2 hg
  refine ⟨b1.os.trans g1.os, b1.tape.trans g1.tape, b1.output.trans g1.output, Nat.le_trans g1.size b1.size, fun i hi hn => ?_⟩
  rw [b1.block i (by simpa using hi), g1.block i hi hn]

theorem FI.owned {w wr w1 : World} {row : Option Nat} {I : Nat → World → Prop} {t : Nat → Int} {R C : Int} {k : Nat} {l : Value} (hrow : ∀ m, row = some m → m < w.heap.size)
    (h : FI w row I t R C k l wr) (hg : wr.grownBy w1 row) (o : Obj) : (w1.alloc o).ownsRow (w.heap.size + 2) 41 1 l k ((tab t k).map (Value.int .i64)) := by
  refine (h.1.kept hg ?_).alloc o
  cases hv : l.ownBlock with
  | none => exact .inl rfl
  | some m => exact .inr (fun e => by have h1 := hrow m e.symm; have h2 := (h.1.lt m hv).1; omega)

theorem own_slice {w : World} {base e size n : Nat} {v : Value} {xs : List Value} (h : w.ownsRow base e size v n xs) : ∃ ao cap, v = .slice ao n cap := by
  rcases h.2 with ⟨rfl, rfl⟩ | ⟨g, cap, cur, rfl, _⟩
  · exact ⟨_, _, rfl⟩
  · exact ⟨_, _, rfl⟩
theorem own_mono {w : World} {base base' e size n : Nat} {v : Value} {xs : List Value} (h : w.ownsRow base e size v n xs) (hb : base' ≤ base) : w.ownsRow base' e size v n xs := by
  refine ⟨h.1, ?_⟩
  rcases h.2 with h0 | ⟨g, cap, cur, hv, hg, r⟩
  · exact .inl h0
  · exact .inr ⟨g, cap, cur, hv, Nat.le_trans hb hg, r⟩
theorem FI.ends {w wr : World} {row : Option Nat} {I : Nat → World → Prop} {t : Nat → Int} {R C : Int} {k : Nat} {l : Value} (hmon : ∀ k a b, I k a → Below w.heap.size a b → I k b) (h : FI w row I t R C k l wr) (x y z : Value) :
    (((wr.setCell ⟨w.heap.size + 1, 0, none⟩ x).setCell ⟨w.heap.size + 1, 1, none⟩ y).setCell ⟨w.heap.size + 1, 2, none⟩ z).ownsRow w.heap.size 41 1 l k ((tab t k).map (Value.int .i64)) ∧
    I k (((wr.setCell ⟨w.heap.size + 1, 0, none⟩ x).setCell ⟨w.heap.size + 1, 1, none⟩ y).setCell ⟨w.heap.size + 1, 2, none⟩ z) ∧
    w.grownBy (((wr.setCell ⟨w.heap.size + 1, 0, none⟩ x).setCell ⟨w.heap.size + 1, 1, none⟩ y).setCell ⟨w.heap.size + 1, 2, none⟩ z) row := by
  obtain ⟨h1, h2, h3⟩ := h
  have hB : Below w.heap.size wr (((wr.setCell ⟨w.heap.size + 1, 0, none⟩ x).setCell ⟨w.heap.size + 1, 1, none⟩ y).setCell ⟨w.heap.size + 1, 2, none⟩ z) :=
    (((Below.refl _ _).setCell (Nat.le_succ _) _).setCell (Nat.le_succ _) _).setCell (Nat.le_succ _) _
  refine ⟨own_mono (ownsRow_setCell_below (ownsRow_setCell_below (ownsRow_setCell_below h1 (Nat.lt_succ_self _) _) (Nat.lt_succ_self _) _) (Nat.lt_succ_self _) _) (by omega), hmon _ _ _ h3 hB, ?_⟩
  have hA : Below w.heap.size w ((w.alloc (.cells #[.int .i64 R, .int .i64 C] 93)).alloc (.cells #[.int .i64 0, .int .i64 0, .slice none 0 0] 24)) := ((Below.refl _ _).alloc (Nat.le_refl _) _).alloc (by simp) _
  have g1 := gb_trans (gb_below row hA) h2
  exact ⟨hB.os.trans g1.os, hB.tape.trans g1.tape, hB.output.trans g1.output, Nat.le_trans g1.size hB.size, fun i hi hn => by rw [hB.block i hi, g1.block i hi hn]⟩
theorem c1_one {w : World} {x : Value} {T : TypeId} : ∀ (j : Nat) (u : Value), [x][j]? = some u → (w.alloc (.cells #[x] T)).cell? ((⟨w.heap.size, 0, none⟩ : Addr).add j) = some u := by
  intro j u hj
  match j, hj with
  | 0, hj => simp at hj; subst hj; simp [Addr.add]
theorem c2_one {z : Int} : ∀ u ∈ [Value.int .i64 z], u.oneCell' = true := by intro u hu; simp at hu; subst hu; rfl

set_option maxHeartbeats 1600000 in
theorem filled_any (R C : Nat) (hR : R ≤ 8) (hC : C ≤ 8) (F : Nat) (hF : ∀ (args : Array Value) (a : World), Sem.run Try.prog (callFunc F args) a = Result.ok (Next.enter F args) a) (caps : Array Value) (t : Nat → Int) (row : Option Nat) (I : Nat → World → Prop) (w : World)
    (hrow : ∀ m, row = some m → m < w.heap.size) (hI0 : I 0 w) (hmon : ∀ k a b, I k a → Below w.heap.size a b → I k b)
    (hcall : ∀ (i j : Nat) a, i < R → j < C → I (i * C + j) a → Calls Try.prog F (#[.int .i64 i, .int .i64 j] ++ caps) a (fun e b => e = .returned (.int .i64 (t (i * C + j))) ∧ I (i * C + j + 1) b ∧ a.grownBy b row)) :
    Calls Try.prog 61 #[.agg #[.int .i64 R, .int .i64 C], .func (.func F) #[] caps] w fun e b => ∃ v, e = .returned (.agg #[.int .i64 R, .int .i64 C, v]) ∧
      b.ownsRow w.heap.size 41 1 v (R * C) ((tab t (R * C)).map (Value.int .i64)) ∧ I (R * C) b ∧ w.grownBy b row := by
  obtain ⟨i0, hi, hz0, hz1, hz2⟩ := info_parts Try.info33
  have hb : R * C ≤ 64 := mul_le_64 hR hC
  obtain ⟨q, hq⟩ : ∃ q, R * C = q := ⟨_, rfl⟩
  have hq' : (R : Int) * (C : Int) = (q : Int) := by rw [← hq]; exact (Int.natCast_mul R C).symm
  have HQ : Hid (R * C = q) := hq
  rw [hq] at hb ⊢
  clear hq
  go_enter Try.func61, Try.ntmps61
  go_wp2_with (at_make; refine wpList_make_own _ rfl _ _ 22 rfl (w.heap.size + 2) 41 i0 (.int .i64 0) 1 Try.under22 hi hz0 hz1 .i64 .i64 _ q rfl rfl rfl (by rw [hz2]; omega) (by unfold maxLen; omega) (by simp) ?_; intro w1 hown1 hg1; obtain ⟨cR, cC, cB⟩ := fill_cells (row := none) (fun m e => by cases e) hg1; have HF : FI w row I t R C 0 _ w1 := FI.start hmon hI0 hown1 hg1; clear hown1 hg1)
  go_loopw [5, 16] (fun l r wr => ∃ i : Nat, i ≤ R ∧ r = .int .i64 i ∧ FI w row I t R C (i * C) l wr) (fun _ r _ => R - (intOf r).toNat)
  case atStart => exact ⟨0, Nat.zero_le _, rfl, by rw [Nat.zero_mul]; simpa using HF⟩
  case round =>
    clear HF cR cC cB
    obtain ⟨i, hi', rfl, hfi⟩ := hrel
    obtain ⟨cR, cC, cB⟩ := fill_cells hrow hfi.2.1
    by_cases hlt : i < R
    · go_wp2
      go_loopw [5, 21] (fun l c wr => ∃ j : Nat, j ≤ C ∧ c = .int .i64 j ∧ FI w row I t R C (i * C + j) l wr) (fun _ c _ => C - (intOf c).toNat)
      case atStart => exact ⟨0, Nat.zero_le _, rfl, hfi⟩
      case round =>
        clear hfi cR cC cB
        obtain ⟨j, hj', rfl, hfi⟩ := hrel
        obtain ⟨cR, cC, cB⟩ := fill_cells hrow hfi.2.1
        by_cases hlj : j < C
        · have hat := at_lt hlt hlj
          rw [HQ.out] at hat
          have hc1 := hcall i j wr hlt hlj hfi.2.2
          have hsz : w.heap.size + 2 ≤ wr.heap.size := by have := hfi.2.1.size; simpa using this
          go_wp2_with (first
            | (at_builtin; refine wpList_append_own _ rfl _ _ 22 rfl (w.heap.size + 2) 41 i0 (.int .i64 0) 1 8 Try.under22 hi hz0 hz1 hz2 rfl (by decide) _ _ _ rfl (hfi.owned hrow hgx _) ⟨_, 0, none⟩ 1 1 [.int .i64 (t (i * C + j))] rfl rfl c1_one c2_one (by unfold maxLen; omega) (by omega) (by have h7 := hgx.size; simp; omega) ?_; intro v2 w2 hown2 hg2 hnil2; have HF2 := FI.step hmon hfi hgx hIx hown2 hg2; clear hown2 hg2 hnil2 hIx)
            | (refine Calls.mono hc1 ?_; rintro e wx ⟨rfl, hIx, hgx⟩))
          go_roundw
          case rel => exact ⟨j + 1, by omega, by go_num, HF2⟩
          case measure => simp [intOf]; omega
        · have hjC : j = C := by omega
          subst hjC
          go_wp2
          go_roundw
          case rel => exact ⟨i + 1, by omega, by go_num, by rw [Nat.succ_mul]; exact hfi⟩
          case measure => simp [intOf]; omega
    · have hiR : i = R := by omega
      subst hiR
      rw [HQ.out] at hfi
      obtain ⟨d0, d1, d2, f0, f1, f2⟩ := mat_cells cB
      obtain ⟨ao, cap, rfl⟩ := own_slice hfi.1
      have HE := hfi.ends hmon (.int .i64 i) (.int .i64 C) (.slice ao q cap)
      clear hfi
      go_wp2
      refine bodyPost_ret (v := .agg #[.int .i64 i, .int .i64 C, .slice ao q cap]) (by simp [results, Try.results61, go_sem, d0, d1, d2]) rfl ?_
      exact ⟨_, rfl, HE⟩
end Go.Proofs.Ytiniobcknmaigaa
