/-
  The contracts of the document's Diag and Eye.
-/
import Derived.Test.YtiniobcknmaigaaRTrans
import Derived.Test.YtiniobcknmaigaaDiag
namespace Go.Proofs.Ytiniobcknmaigaa
open Go.RowKit Go.Sort Qm

namespace Qm
/-- what stands where the first k of a diagonal have been laid -/
def dgt (d : Nat → Int) (n k : Nat) : Nat → Int := fun p => if p / n = p % n ∧ p / n < k then d (p / n) else 0
theorem dgt_zero (d : Nat → Int) (n m p : Nat) (_ : p < m) : (0 : Int) = dgt d n 0 p := by simp [dgt]
theorem dgt_succ (d : Nat → Int) {n k : Nat} (hk : k < n) (p : Nat) : (if p = k * n + k then d k else dgt d n k p) = dgt d n (k + 1) p := by
  unfold dgt
  by_cases e : p = k * n + k
  · rw [if_pos e, e, div_of hk, mod_of hk, if_pos ⟨rfl, by omega⟩]
  · rw [if_neg e]
    by_cases h : p / n = p % n
    · have hne : p / n ≠ k := fun h2 => e (by have := Nat.div_add_mod p n; rw [← h, h2] at this; rw [Nat.mul_comm]; exact this.symm)
      by_cases h3 : p / n < k
      · rw [if_pos ⟨h, h3⟩, if_pos ⟨h, by omega⟩]
      · rw [if_neg (fun hh => h3 hh.2), if_neg (fun hh => by have := hh.2; omega)]
    · rw [if_neg (fun hh => h hh.1), if_neg (fun hh => h hh.1)]
theorem dgt_all (d : Nat → Int) {n : Nat} (hn : 0 < n) : tab (dgt d n n) (n * n) = dia d n := by
  unfold dia
  refine tab_congr fun p hp => ?_
  have h : p / n < n := (Nat.div_lt_iff_lt_mul hn).2 hp
  unfold dgt
  by_cases e : p / n = p % n
  · rw [if_pos ⟨e, h⟩, if_pos e]
  · rw [if_neg (fun hh => e hh.1), if_neg e]
end Qm

theorem rdiag_len (v : Value) (xs : List Int) (hl : xs.length ≤ 100) (h : ¬ (1 ≤ xs.length ∧ xs.length ≤ 8)) (w : World) (hs : Sees w v xs) :
    Calls Try.prog 28 #[v] w fun e b => e = .returned (.tuple #[.agg #[.int .i64 0, .int .i64 0, .slice none 0 0], .int .i64 1]) ∧ Below w.heap.size w b := by
  obtain ⟨ao, cap, rfl⟩ := hs.slice
  obtain ⟨n, hn⟩ : ∃ n, xs.length = n := ⟨_, rfl⟩
  rw [hn] at h hl ⊢
  clear hs hn
  have b0 := box_below w (.cells #[.int .i64 0, .int .i64 0, .slice none 0 0] 24)
  by_cases h1 : 1 ≤ n
  · have d1 : decide ((n : Int) < 1) = false := by simp; omega
    have d2 : decide ((8 : Int) < (n : Int)) = true := by simp; omega
    have h2 : (8 : Int) < (n : Int) := by omega
    go_enter Try.func28, Try.ntmps28
    go_wp2
    refine bodyPost_ret (v := .tuple #[.agg #[.int .i64 0, .int .i64 0, .slice none 0 0], .int .i64 1]) (by simp [results, Try.results28, go_sem]) rfl ?_
    exact ⟨rfl, b0⟩
  · have h0 : n = 0 := by omega
    subst h0
    go_enter Try.func28, Try.ntmps28
    go_wp2
    refine bodyPost_ret (v := .tuple #[.agg #[.int .i64 0, .int .i64 0, .slice none 0 0], .int .i64 1]) (by simp [results, Try.results28, go_sem]) rfl ?_
    exact ⟨rfl, b0⟩

set_option maxRecDepth 20000 in
set_option maxHeartbeats 1600000 in
theorem rdiag_mid (v : Value) (xs : List Int) (h1 : 1 ≤ xs.length) (h8 : xs.length ≤ 8) (w : World) (hs : Sees w v xs) :
    Calls Try.prog 28 #[v] w fun e b => Below w.heap.size w b ∧
      ((outB xs xs.length = false ∧ ∃ v, e = .returned (.tuple #[.agg #[.int .i64 (xs.length : Nat), .int .i64 (xs.length : Nat), v], .int .i64 0]) ∧ Sees b v (dia (ge xs) xs.length) ∧ New w.heap.size v) ∨
       (outB xs xs.length = true ∧ e = .returned (.tuple #[.agg #[.int .i64 0, .int .i64 0, .slice none 0 0], .int .i64 1]))) := by
  obtain ⟨ao, cap, rfl⟩ := hs.slice
  obtain ⟨n, hn⟩ : ∃ n, xs.length = n := ⟨_, rfl⟩
  have hxl : n ≤ xs.length := by omega
  rw [hn] at h1 h8 hs ⊢
  have h64 : n * n ≤ 64 := mul_le_64 h8 h8
  have hno := fun w => none_any n n h8 h8 h1 h1 w
  obtain ⟨q, hq⟩ : ∃ q, n * n = q := ⟨_, rfl⟩
  have HQ : Hid (n * n = q) := hq
  have HT : Hid (tab (dgt (ge xs) n n) q = dia (ge xs) n) := by have := dgt_all (ge xs) (n := n) (by omega); rw [hq] at this; exact this
  rw [hq] at h64 hno
  clear hn hq
  obtain ⟨W, hW⟩ : ∃ W, w.alloc (.cells #[.int .i64 0, .int .i64 0, .slice none 0 0] 24) = W := ⟨_, rfl⟩
  have x2 := heap_new w (.cells #[.int .i64 0, .int .i64 0, .slice none 0 0] 24)
  have bq := box_below w (.cells #[.int .i64 0, .int .i64 0, .slice none 0 0] 24)
  rw [hW] at x2 bq
  go_enter Try.func28, Try.ntmps28
  go_wp2_with (go_at_call 25; refine (hno _).mono ?_; rintro e w1 ⟨g, gc, rfl, hown, b1⟩)
  have hgW := (hown.lt g rfl).1
  have hDg : w.heap.size < g := Nat.lt_of_lt_of_le (lt_of_block x2) hgW
  have y2 := heap_old (keep b1 x2) (.cells #[.int .i64 n, .int .i64 n, .slice (some ⟨g, 0, none⟩) q gc] 24)
  have y3 := heap_new w1 (.cells #[.int .i64 n, .int .i64 n, .slice (some ⟨g, 0, none⟩) q gc] 24)
  have bw := (bt (bt bq b1) (box_below w1 (.cells #[.int .i64 n, .int .i64 n, .slice (some ⟨g, 0, none⟩) q gc] 24)))
  have F0 : Fills (w1.alloc (.cells #[.int .i64 n, .int .i64 n, .slice (some ⟨g, 0, none⟩) q gc] 24)) g gc q (fun _ => 0) (w1.alloc (.cells #[.int .i64 n, .int .i64 n, .slice (some ⟨g, 0, none⟩) q gc] 24)) := Fills.start (hown.alloc _)
  have hgw : w.heap.size ≤ g := Nat.le_trans bq.size hgW
  obtain ⟨V, hV⟩ : ∃ V, w1.alloc (.cells #[.int .i64 n, .int .i64 n, .slice (some ⟨g, 0, none⟩) q gc] 24) = V := ⟨_, rfl⟩
  rw [hV] at y2 y3 bw F0 ⊢
  have gx2 := F0.apart y2
  have gx3 := F0.apart y3
  clear hV hW x2 hown b1 bq hno
  go_loopw [6] (fun i wr => ∃ k : Nat, k ≤ n ∧ i = .int .i64 k ∧ Hid (outB xs k = false) ∧ Fills V g gc q (dgt (ge xs) n k) wr) (fun i _ => n - (intOf i).toNat)
  case atStart => exact ⟨0, Nat.zero_le _, rfl, rfl, F0.congr (dgt_zero (ge xs) n q)⟩
  case round =>
    clear F0
    obtain ⟨k, hk, rfl, hno, hF⟩ := hrel
    obtain ⟨v0, v1, v2, _⟩ := mat_cells (hF.keep y3 gx3)
    obtain ⟨d0, d1, d2, f0, f1, f2⟩ := mat_cells (hF.keep y2 gx2)
    by_cases hlt : k < n
    · have pA : k * n + k < q := by rw [← HQ.out]; exact at_lt hlt hlt
      have hc := hF.cell pA
      have hf := hF.free (k * n + k)
      have HF := ((hF.drew).store (k * n + k) (ge xs k)).congr (fun p _ => dgt_succ (ge xs) hlt p)
      have hbl := hF.below bw hgw
      obtain ⟨ad, rfl, ca⟩ := (hF.sees hs bw hgw).at k (by omega)
      cases ho : ob (ge xs k) with
      | true =>
        have hi : inB (ge xs k) = false := by unfold inB; rw [ho]; rfl
        have HO : Hid (outB xs n = true) := anyB_hit hlt ho
        clear hF HF hc hf
        obtain ⟨x, hx⟩ : ∃ x, ge xs k = x := ⟨_, rfl⟩
        rw [hx] at hi ca
        clear hx ho
        go_wp2_with (go_at_call 29; refine (rin_any _ _).mono ?_; rintro e w' ⟨rfl, rfl⟩)
        refine bodyPost_ret (v := .tuple #[.agg #[.int .i64 0, .int .i64 0, .slice none 0 0], .int .i64 1]) (by simp [results, Try.results28, go_sem, d0, d1, d2]) rfl ?_
        exact ⟨below_put hbl (Nat.le_refl _) _ _ _, .inr ⟨HO.out, rfl⟩⟩
      | false =>
        have hi : inB (ge xs k) = true := by unfold inB; rw [ho]; rfl
        have HO : Hid (outB xs (k + 1) = false) := by show outB xs (k + 1) = false; unfold outB; rw [anyB, ho]; have := hno.out; unfold outB at this; rw [this]; rfl
        obtain ⟨x, hx⟩ : ∃ x, ge xs k = x := ⟨_, rfl⟩
        rw [hx] at hi ca HF
        obtain ⟨qa, hqa⟩ : ∃ qa, k * n = qa := ⟨_, rfl⟩
        have hqa' : (k : Int) * (n : Int) = (qa : Int) := by rw [← hqa]; exact (Int.natCast_mul k n).symm
        rw [hqa] at HF pA hc hf
        have ba : qa ≤ 64 := by omega
        clear hx hF hqa ho hbl
        have ia : IntKind.i64.wrap (qa : Int) = (qa : Int) := wrap_in (by omega) (by omega)
        have ic : IntKind.i64.wrap ((qa : Int) + (k : Int)) = (qa : Int) + (k : Int) := wrap_in (by omega) (by omega)
        have ta : ((qa : Int) + (k : Int)).toNat = qa + k := by omega
        have la : (qa : Int) + (k : Int) < (q : Int) := by omega
        have za : (0 : Int) ≤ (qa : Int) + (k : Int) := by omega
        have lk : (k : Int) < (n : Int) := by omega
        go_wp2_with (go_at_call 29; refine (rin_any _ _).mono ?_; rintro e w' ⟨rfl, rfl⟩)
        go_still_tail 12, (by kernel_rfl)
        change wpList Try.prog _ _ _ _ w'.drew
        go_wp2
        go_roundw
        case rel => exact ⟨k + 1, by omega, by go_num, HO, HF⟩
        case measure => simp [intOf]; omega
    · have e : k = n := by omega
      subst e
      have hsh := hF.shows
      rw [HT.out] at hsh
      have hbl := hF.below bw hgw
      clear hF
      go_wp2
      refine bodyPost_ret (v := .tuple #[.agg #[.int .i64 k, .int .i64 k, .slice (some ⟨g, 0, none⟩) q gc], .int .i64 0]) (by simp [results, Try.results28, go_sem, d0, d1, d2]) rfl ?_
      exact ⟨below_put hbl (Nat.le_refl _) _ _ _, .inl ⟨hno.out, _, rfl, hsh.put (new_at g q gc) hDg _ _ _, (new_at g q gc).mono hgw⟩⟩

theorem rdiag_any (v : Value) (xs : List Int) (h1 : 1 ≤ xs.length) (hn : xs.length ≤ 8) (ho : outB xs xs.length = false) (w : World) (hs : Sees w v xs) :
    Calls Try.prog 28 #[v] w fun e b => ∃ v, e = .returned (.tuple #[.agg #[.int .i64 (xs.length : Nat), .int .i64 (xs.length : Nat), v], .int .i64 0]) ∧ Sees b v (dia (ge xs) xs.length) ∧ New w.heap.size v ∧ Below w.heap.size w b := by
  refine (rdiag_mid v xs h1 hn w hs).mono ?_
  rintro e b ⟨hb, ⟨_, v, h1, h2, h3⟩ | ⟨h1, _⟩⟩
  · exact ⟨v, h1, h2, h3, hb⟩
  · rw [ho] at h1; cases h1
theorem rdiag_not (v : Value) (xs : List Int) (hn : xs.length ≤ 100) (h : ¬ (1 ≤ xs.length ∧ xs.length ≤ 8 ∧ outB xs xs.length = false)) (w : World) (hs : Sees w v xs) :
    Calls Try.prog 28 #[v] w fun e b => e = .returned (.tuple #[.agg #[.int .i64 0, .int .i64 0, .slice none 0 0], .int .i64 1]) ∧ Below w.heap.size w b := by
  by_cases h2 : 1 ≤ xs.length ∧ xs.length ≤ 8
  · refine (rdiag_mid v xs h2.1 h2.2 w hs).mono ?_
    rintro e b ⟨hb, ⟨h1, _⟩ | ⟨_, h1⟩⟩
    · exact absurd ⟨h2.1, h2.2, h1⟩ h
    · exact ⟨h1, hb⟩
  · exact rdiag_len v xs hn h2 w hs

/-- the document's Eye: the ones are laid, then Diag -/
theorem reye_lay (n : Int) (K : Nat) (hK : K ≤ 9) (hlo : ∀ k : Nat, k < K → (k : Int) < n) (hhi : ¬ ((K : Int) < n ∧ K < 9)) (w : World) (Z : Ending → World → Prop)
    (hd : ∀ v b, Sees b v (tab (fun _ => (16777216 : Int)) K) → Below w.heap.size w b → Calls Try.prog 28 #[v] b fun e c => ∃ r c' sl E, e = .returned (.tuple #[.agg #[.int .i64 r, .int .i64 c', sl], .int .i64 E]) ∧ (∃ ao l cap, sl = .slice ao l cap) ∧ Below b.heap.size b c ∧
      (∀ D, D < b.heap.size → ∀ x y z, Below w.heap.size w (((c.setCell ⟨D, 0, none⟩ x).setCell ⟨D, 1, none⟩ y).setCell ⟨D, 2, none⟩ z) → Z (.returned (.tuple #[.agg #[.int .i64 r, .int .i64 c', sl], .int .i64 E])) (((c.setCell ⟨D, 0, none⟩ x).setCell ⟨D, 1, none⟩ y).setCell ⟨D, 2, none⟩ z))) :
    Calls Try.prog 24 #[.int .i64 n] w Z := by
  obtain ⟨i0, hi, hz0, hz1, hz2⟩ := info_parts Try.info33
  obtain ⟨W, hW⟩ : ∃ W, w.alloc (.cells #[.int .i64 0, .int .i64 0, .slice none 0 0] 24) = W := ⟨_, rfl⟩
  have x1 := heap_new w (.cells #[.int .i64 0, .int .i64 0, .slice none 0 0] 24)
  have bW := box_below w (.cells #[.int .i64 0, .int .i64 0, .slice none 0 0] 24)
  have hWs : W.heap.size = w.heap.size + 1 := by rw [← hW]; simp
  rw [hW] at x1 bW
  go_enter Try.func24, Try.ntmps24
  go_wp2
  go_loopw [4, 5] (fun l i wr => ∃ k : Nat, k ≤ K ∧ i = .int .i64 k ∧ wr.ownsRow (w.heap.size + 1) 41 1 l k ((tab (fun _ => (16777216 : Int)) k).map (Value.int .i64)) ∧ Below (w.heap.size + 1) W wr) (fun _ i _ => K - (intOf i).toNat)
  case atStart => exact ⟨0, Nat.zero_le _, rfl, World.ownsRow_nil _ _ _ _, Below.refl _ _⟩
  case round =>
    obtain ⟨k, hk, rfl, hown, hbl⟩ := hrel
    have hsz : w.heap.size + 1 ≤ wr.heap.size := by have := hbl.size; omega
    by_cases hlt : k < K
    · have l1 := hlo k hlt
      have l2 : (k : Int) < 9 := by omega
      have d2 : decide ((k : Int) < 9) = true := by simp; omega
      go_wp2_with (at_builtin; refine wpList_append_own _ rfl _ _ 22 rfl (w.heap.size + 1) 41 i0 (.int .i64 0) 1 8 Try.under22 hi hz0 hz1 hz2 rfl (by decide) _ _ _ rfl (hown.alloc _) ⟨_, 0, none⟩ 1 1 [.int .i64 16777216] rfl rfl c1_one c2_one (by unfold maxLen; omega) (by omega) (by simp; omega) ?_; intro v2 w2 hown2 hg2 hnil2; have b2 : Below (w.heap.size + 1) W w2 := (hbl.alloc hsz _).grown hg2 (by simp; omega) (fun m e => (hown.lt m e).1); have h2' : w2.ownsRow (w.heap.size + 1) 41 1 v2 (k + 1) ((tab (fun _ => (16777216 : Int)) (k + 1)).map (Value.int .i64)) := (by rw [tab_succ, List.map_append]; exact hown2); clear hown2 hg2 hnil2)
      go_roundw
      case rel => exact ⟨k + 1, by omega, by go_num, h2', b2⟩
      case measure => simp [intOf]; omega
    · have e : k = K := by omega
      subst e
      have bl := hbl.mono (Nat.le_of_eq hWs)
      have y1 := keep bl x1
      have hd' := hd u4 wr (Sees.own hown) (bt bW bl)
      by_cases hn : (k : Int) < n
      · have d2 : decide ((k : Int) < 9) = false := by simp; omega
        go_wp2_with (go_at_call 28; refine hd'.mono ?_; rintro e w4 ⟨r, c', sl, E, rfl, ⟨ao, l, cap, rfl⟩, b4, hz⟩; obtain ⟨d0, d1, d2, f0, f1, f2⟩ := mat_cells (keep b4 y1))
        refine bodyPost_ret (v := .tuple #[.agg #[.int .i64 r, .int .i64 c', .slice ao l cap], .int .i64 E]) (by simp [results, Try.results24, go_sem, d0, d1, d2]) rfl ?_
        exact hz _ (lt_of_block y1) _ _ _ (below_put (bt (bt bW bl) b4) (Nat.le_refl _) _ _ _)
      · have d1 : decide ((k : Int) < n) = false := by simpa using hn
        go_wp2_with (go_at_call 28; refine hd'.mono ?_; rintro e w4 ⟨r, c', sl, E, rfl, ⟨ao, l, cap, rfl⟩, b4, hz⟩; obtain ⟨d0, d1, d2, f0, f1, f2⟩ := mat_cells (keep b4 y1))
        refine bodyPost_ret (v := .tuple #[.agg #[.int .i64 r, .int .i64 c', .slice ao l cap], .int .i64 E]) (by simp [results, Try.results24, go_sem, d0, d1, d2]) rfl ?_
        exact hz _ (lt_of_block y1) _ _ _ (below_put (bt (bt bW bl) b4) (Nat.le_refl _) _ _ _)

theorem reye_any (n : Nat) (h1 : 1 ≤ n) (hn : n ≤ 8) (w : World) :
    Calls Try.prog 24 #[.int .i64 n] w fun e b => ∃ v, e = .returned (.tuple #[.agg #[.int .i64 n, .int .i64 n, v], .int .i64 0]) ∧ Sees b v (dia (fun _ => 16777216) n) ∧ New w.heap.size v ∧ Below w.heap.size w b := by
  refine reye_lay n n (by omega) (fun k hk => by omega) (by omega) w _ ?_
  intro v b hs hb
  have hl : (tab (fun _ => (16777216 : Int)) n).length = n := tab_len _ _
  have ho : outB (tab (fun _ => (16777216 : Int)) n) n = false := anyB_none fun k hk => by rw [ge_tab hk]; decide
  have he : dia (ge (tab (fun _ => (16777216 : Int)) n)) n = dia (fun _ => 16777216) n := by
    unfold dia
    refine tab_congr fun p hp => ?_
    have h : p / n < n := (Nat.div_lt_iff_lt_mul (by omega)).2 hp
    rw [ge_tab h]
  have h := rdiag_any v (tab (fun _ => (16777216 : Int)) n) (by rw [hl]; exact h1) (by rw [hl]; exact hn) (by rw [hl]; exact ho) b hs
  rw [hl, he] at h
  refine h.mono ?_
  rintro e c ⟨v', rfl, s', n', b'⟩
  refine ⟨_, _, v', 0, rfl, ?_, b', ?_⟩
  · obtain ⟨ao, cap, rfl⟩ := s'.slice; exact ⟨_, _, _, rfl⟩
  · intro D hD x y z hbl
    exact ⟨v', rfl, s'.put n' hD _ _ _, n'.mono hb.size, hbl⟩

theorem reye_not (n : Int) (h : ¬ (1 ≤ n ∧ n ≤ 8)) (w : World) :
    Calls Try.prog 24 #[.int .i64 n] w fun e b => e = .returned (.tuple #[.agg #[.int .i64 0, .int .i64 0, .slice none 0 0], .int .i64 1]) ∧ Below w.heap.size w b := by
  have go : ∀ K : Nat, K ≤ 9 → (∀ k : Nat, k < K → (k : Int) < n) → ¬ ((K : Int) < n ∧ K < 9) → ¬ (1 ≤ K ∧ K ≤ 8) → Calls Try.prog 24 #[.int .i64 n] w fun e b => e = .returned (.tuple #[.agg #[.int .i64 0, .int .i64 0, .slice none 0 0], .int .i64 1]) ∧ Below w.heap.size w b := by
    intro K h9 hlo hhi hK
    refine reye_lay n K h9 hlo hhi w _ ?_
    intro v b hs hb
    have hl : (tab (fun _ => (16777216 : Int)) K).length = K := tab_len _ _
    have h := rdiag_not v (tab (fun _ => (16777216 : Int)) K) (by rw [hl]; omega) (by rw [hl]; exact fun hh => hK ⟨hh.1, hh.2.1⟩) b hs
    refine h.mono ?_
    rintro e c ⟨rfl, b'⟩
    exact ⟨_, _, _, _, rfl, ⟨_, _, _, rfl⟩, b', fun D hD x y z hbl => ⟨rfl, hbl⟩⟩
  by_cases h0 : n < 1
  · exact go 0 (by omega) (fun k hk => by omega) (by omega) (by omega)
  · exact go 9 (by omega) (fun k hk => by omega) (by omega) (by omega)
end Go.Proofs.Ytiniobcknmaigaa
