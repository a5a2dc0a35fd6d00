/-
  The contract of the code's reckoned: steps, one behind the other.
-/
import Derived.Test.YtiniobcknmaigaaKStep
namespace Go.Proofs.Ytiniobcknmaigaa
open Go.RowKit Go.Sort Qm

theorem RkI.imp {w wr : World} {N : Nat} {m : Bool} {r c : Nat} {xs : List Int} {f g : Prop} (h : RkI w N m r c xs f wr) (hg : g → f) : RkI w N m r c xs g wr := by
  obtain ⟨h1, h2, h3, h4, ao, cap, h5, h6, h7⟩ := h
  exact ⟨h1, h2, h3, h4, ao, cap, h5, h6, fun b hb => ⟨(h7 b hb).1, (h7 b hb).2.1, (h7 b hb).2.2.1, (h7 b hb).2.2.2.1, fun x => (h7 b hb).2.2.2.2 (hg x)⟩⟩

theorem RkI.ends {w wr : World} {N : Nat} {m : Bool} {r c : Nat} {xs ys : List Int} {f : Prop} {v : Value} (hNw : N < w.heap.size) (h : RkI w N m r c xs f wr) (hs : Sees wr v ys) (hv : ∀ b, v.ownBlock = some b → b ≠ w.heap.size + 1) (x y z : Value) :
    Sees (((wr.setCell ⟨w.heap.size + 1, 0, none⟩ x).setCell ⟨w.heap.size + 1, 1, none⟩ y).setCell ⟨w.heap.size + 1, 2, none⟩ z) v ys ∧
    (((wr.setCell ⟨w.heap.size + 1, 0, none⟩ x).setCell ⟨w.heap.size + 1, 1, none⟩ y).setCell ⟨w.heap.size + 1, 2, none⟩ z).heap[N]? = some (.cells #[.bool m, .int .i64 0] 77 (0, 0)) ∧
    w.grownBy (((wr.setCell ⟨w.heap.size + 1, 0, none⟩ x).setCell ⟨w.heap.size + 1, 1, none⟩ y).setCell ⟨w.heap.size + 1, 2, none⟩ z) (some N) := by
  have hsz : wr.heap.size ≤ (((wr.setCell ⟨w.heap.size + 1, 0, none⟩ x).setCell ⟨w.heap.size + 1, 1, none⟩ y).setCell ⟨w.heap.size + 1, 2, none⟩ z).heap.size := by simp [World.setCell]
  have hoff : ∀ k, k ≠ w.heap.size + 1 → (((wr.setCell ⟨w.heap.size + 1, 0, none⟩ x).setCell ⟨w.heap.size + 1, 1, none⟩ y).setCell ⟨w.heap.size + 1, 2, none⟩ z).heap[k]? = wr.heap[k]? := by
    intro k hk
    rw [Below.heap_setCell _ _ _ _ hk, Below.heap_setCell _ _ _ _ hk, Below.heap_setCell _ _ _ _ hk]
  refine ⟨hs.agree hsz fun k hk => hoff k (hv k hk), (hoff N (by omega)).trans h.note, ?_⟩
  have g := h.mod
  exact ⟨g.os, g.tape, g.output, Nat.le_trans g.size hsz, fun k hk hn => by rw [hoff k (by omega)]; exact g.block k hk fun e => hn (by rw [e])⟩

set_option maxRecDepth 20000 in
set_option maxHeartbeats 1600000 in
theorem kreck_any (k : Nat) (hk8 : k ≤ 8) (R C : Nat → Nat) (xs : Nat → List Int) (mb : Nat → Bool) (N : Nat) (m0 : Bool) (w : World) (F : Nat → Nat) (caps : Nat → Array Value) (bS : Nat) (sl : Value)
    (hN : w.heap[N]? = some (.cells #[.bool m0, .int .i64 0] 77 (0, 0))) (hst : ∀ i, i < k → w.cell? ⟨bS, i, none⟩ = some (.func (.func (F i)) #[] (caps i))) (hbN : bS ≠ N) (hbw : bS < w.heap.size)
    (hF : ∀ i, i < k → ∀ (args : Array Value) (a : World), Sem.run Try.prog (callFunc (F i) args) a = Result.ok (Next.enter (F i) args) a)
    (hcall : ∀ i, i < k → ∀ w', Mod (fun b => b = N) w w' → ∀ s, Sees w' s (xs i) → Calls Try.prog (F i) (#[.agg #[.int .i64 (R i), .int .i64 (C i), s]] ++ caps i) w' fun e b => ∃ s', e = .returned (.tuple #[.agg #[.int .i64 (R (i + 1)), .int .i64 (C (i + 1)), s'], .bool (mb i), .int .i64 0]) ∧ Sees b s' (xs (i + 1)) ∧ New w'.heap.size s' ∧ Below w'.heap.size w' b)
    (hpos : ∀ i, i ≤ k → 0 < (xs i).length) (hs : Sees w sl (xs 0)) (hne : ∀ b, sl.ownBlock = some b → b ≠ N) :
    Calls Try.prog 40 #[.func (.func 41) #[.pointer (some ⟨N, 0, none⟩)] #[], .agg #[.int .i64 (R 0), .int .i64 (C 0), sl], .slice (some ⟨bS, 0, none⟩) k k] w fun e b => ∃ s', e = .returned (.agg #[.int .i64 (R k), .int .i64 (C k), s']) ∧ Sees b s' (xs k) ∧ (0 < k → New w.heap.size s') ∧
      b.heap[N]? = some (.cells #[.bool (m0 || anyB mb k), .int .i64 0] 77 (0, 0)) ∧ w.grownBy b (some N) := by
  have hlt := hs.lt (hpos 0 (Nat.zero_le _))
  obtain ⟨ao, cap, rfl⟩ := hs.slice
  have hNw : N < w.heap.size := lt_of_block hN
  have H0 : RkI w N m0 (R 0) (C 0) (xs 0) False _ := RkI.start (r := R 0) (c := C 0) hN hs fun b hb => ⟨hne b hb, hlt b hb⟩
  clear hs hne hlt hN
  have HE := enters_keep
  obtain ⟨W, hW⟩ : ∃ W, (w.alloc (.cells #[.int .i64 (R 0), .int .i64 (C 0), .slice ao (xs 0).length cap] 24)).alloc (.cells #[.int .i64 0, .int .i64 0, .slice none 0 0] 24) = W := ⟨_, rfl⟩
  rw [hW] at H0
  go_enter Try.func40, Try.ntmps40
  go_wp2
  go_loopw [14] (fun i wr => ∃ a : Nat, a ≤ k ∧ i = .int .i64 a ∧ RkI w N (m0 || anyB mb a) (R a) (C a) (xs a) (0 < a) wr) (fun i _ => k - (intOf i).toNat)
  case atStart => exact ⟨0, Nat.zero_le _, rfl, by simpa [anyB] using H0⟩
  case round =>
    clear H0 hW
    obtain ⟨i, hi, rfl, hI⟩ := hrel
    obtain ⟨ro, rc, hm, hsee, hbl⟩ := hI.mat
    obtain ⟨d0, d1, d2, _⟩ := mat_cells hm
    by_cases hlt : i < k
    · have hci : wr.cell? ⟨bS, i, none⟩ = some (.func (.func (F i)) #[] (caps i)) := by
        rw [World.cell?_of_block (w := w) (hI.mod.block bS hbw hbN)]; exact hst i hlt
      have hFi := hF i hlt
      have hc1 := hcall i hlt wr hI.mod _ hsee
      have hp1 := hpos (i + 1) (by omega)
      have hI' : Hid (RkI w N (m0 || anyB mb i) (R i) (C i) (xs i) (0 < i) wr) := hI
      have hnote := hI.note
      obtain ⟨m, hm1⟩ : ∃ m, (m0 || anyB mb i) = m := ⟨_, rfl⟩
      have hm2 : (m0 || anyB mb (i + 1)) = (m || mb i) := by rw [← hm1]; simp [anyB, Bool.or_assoc]
      rw [hm1] at hnote hI'
      clear hI hcall hF hst hbl
      go_wp2_with (first
        | (have _ := bb; go_at_call 41; refine (keep_any N m (mb i) _ (heap_old (keep bb hnote) _)).mono ?_; rintro e wc ⟨rfl, hn2, hg2⟩; have hmc := (Mod.ofGb hg2).block wb.heap.size (by simp) (by have := lt_of_block hnote; have := bb.size; omega); rw [heap_new] at hmc; obtain ⟨g0, g1, g2, _⟩ := mat_cells hmc; have hST := RkI.step (r' := R (i + 1)) (c' := C (i + 1)) hNw hI'.out bb sb nb (fun b hb => sb.lt hp1 b hb) hg2 hn2; have hold := (bt bb (box_below wb (.cells #[.int .i64 (R (i + 1)), .int .i64 (C (i + 1)), .slice bo (xs (i + 1)).length bc] 24))); have hmw := ((Mod.of hold).trans (Mod.ofGb hg2)).block w.heap.size (lt_of_block hm) (by omega); rw [hm] at hmw; obtain ⟨l0, l1, l2, k0, k1, k2⟩ := mat_cells hmw)
        | (refine Calls.mono hc1 ?_; rintro e wb ⟨sb', rfl, sb, nb, bb⟩; obtain ⟨bo, bc, rfl⟩ := sb.slice))
      go_roundw
      case rel => exact ⟨i + 1, by omega, by go_num, by rw [hm2]; exact hST.imp (fun _ => trivial)⟩
      case measure => simp [intOf]; omega
    · have e : i = k := by omega
      subst e
      obtain ⟨o0, o1, o2, f0, f1, f2⟩ := mat_cells hI.out
      have HE2 := hI.ends hNw hsee (fun b hb => (hbl b hb).2.2.1) (.int .i64 (R i)) (.int .i64 (C i)) (.slice ro (xs i).length rc)
      have HN2 : 0 < i → New w.heap.size (.slice ro (xs i).length rc) := fun h0 b hb => (hbl b hb).2.2.2.2 h0
      clear hI
      go_wp2
      refine bodyPost_ret (v := .agg #[.int .i64 (R i), .int .i64 (C i), .slice ro (xs i).length rc]) (by simp [results, Try.results40, go_sem, o0, o1, o2]) rfl ?_
      exact ⟨_, rfl, HE2.1, HN2, HE2.2⟩
end Go.Proofs.Ytiniobcknmaigaa
