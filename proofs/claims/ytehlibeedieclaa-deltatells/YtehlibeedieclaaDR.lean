/-
  The document's Diff.
-/
import Derived.Test.YtehlibeedieclaaDA
import Derived.Maps.AppendAt
namespace Go.Proofs.Ytehlibeedieclaa.Gr
open Go.RowKit Go.Sort Dm
set_option linter.unusedVariables false

/-- two slices in two blocks -/
def Apart (v u : Value) : Prop := ∀ k, v.ownBlock = some k → u.ownBlock = some k → False
theorem Apart.swap {v u : Value} (h : Apart v u) : Apart u v := fun k a b => h k b a
theorem wrap64_nat (V : Nat) (h : V < 9223372036854775808) : wrap64 (V : Int) = V := by unfold wrap64; omega
theorem wrap64_sub (N : Nat) (h : N < 9223372036854775808) : wrap64 ((N : Int) - 1) = (N : Int) - 1 := by unfold wrap64; omega
theorem own_other {w w' : World} {base : Nat} {e : TypeId} {size n : Nat} {v : Value} {xs : List Value} {row : Option Nat} (h : w.ownsRow base e size v n xs) (hg : w.grownBy w' row) (hr : ∀ k, row = some k → v.ownBlock = some k → False) : w'.ownsRow base e size v n xs := by
  obtain ⟨hl, h0 | ⟨g, cap', cur, hv, hb', hg', r⟩⟩ := h
  · exact ⟨hl, .inl h0⟩
  · refine ⟨hl, .inr ⟨g, cap', cur, hv, hb', ?_, r⟩⟩
    rw [hg.block g (lt_of_block hg') (fun e => hr g e.symm (by rw [hv]; rfl))]
    exact hg'
/-- 'append' of a row of words to an own row, another own row beside -/
theorem app64two {ops : Array Oper} {rest : List Oper} {o : Oper} {a : Act} {Q : Exit → Act → World → Prop} {w : World} (hg : o.guard = none) (s x : Operand)
    (hop : o.op = Op.call { callee := Callee.builtin Builtin.append, args := #[s, x], argTypes := #[22, 22] }) (base : Nat) (v : Value) (n : Nat) (xs : List Value)
    (hs : a.eval s = v) (hown : w.ownsRow base 2 1 v n xs) (hb : base ≤ w.heap.size) (u : Value) (m : Nat) (ys : List Value) (hu : w.ownsRow base 2 1 u m ys) (hap : Apart v u) (ad : Addr) (c k : Nat) (zs : List Int) (hx : a.eval x = .slice (some ad) k c) (sx : SeesI w (.slice (some ad) k c) zs) (hl : n + zs.length ≤ 100000)
    (hK : ∀ v' w', w'.ownsRow base 2 1 v' (n + zs.length) (xs ++ zs.map vw) → w'.ownsRow base 2 1 u m ys → Apart v' u → Below base w w' → wpList Try.prog ops Q rest (a.put o.dst v') w') : wpList Try.prog ops Q (o :: rest) a w := by
  obtain ⟨i0, hi, hz0, hz1, hz2⟩ := info_parts info2
  obtain rfl : k = zs.length := sx.le.2
  refine wpList_append_own_at _ hg s x 22 hop base 2 i0 (.int .i64 0) 1 8 under22 hi hz0 hz1 hz2 rfl (by decide) _ _ _ hs hown ad zs.length c (zs.map vw) hx (by simp) (seesI_cells sx) (ws_one zs) (by unfold maxLen; omega) (by omega) hb (fun v' w' h1 h2 _ h4 => hK v' w' h1 (own_other hu h2 (fun k e1 e2 => hap k e1 e2)) ?_ ?_)
  · intro k e1 e2
    rcases h4 with h4 | h4
    · exact hap k (h4 ▸ e1) e2
    · rw [h4] at e1
      cases e1
      have := (hu.lt _ e2).2
      omega
  · exact (Below.refl base w).grown h2 hb (fun k e => (hown.lt k e).1)

namespace Dm
/-- how many words of the mask are laid -/
def cD (N k : Nat) : Nat := if k = N then upS N else k / 60
/-- the mask, as far as it is laid -/
def rowM (p : Nat → Bool) (N k : Nat) : List Int := (maskS p (upS N) N).take (cD N k)
theorem rowM_len (p : Nat → Bool) {N k : Nat} (h : k ≤ N) : (rowM p N k).length ≤ 1 + k := by
  unfold rowM cD
  rw [List.length_take, maskS_len]
  split
  · rename_i e; subst e; unfold upS; omega
  · omega
theorem rowM_all (p : Nat → Bool) (N : Nat) : rowM p N N = maskS p (upS N) N := by
  unfold rowM cD
  rw [if_pos rfl, List.take_of_length_le (by rw [maskS_len]; exact Nat.le_refl _)]
theorem rowM_zero (p : Nat → Bool) (N : Nat) : rowM p N 0 = [] := by
  unfold rowM cD
  split
  · rename_i e; subst e; rfl
  · rfl
theorem rowM_no (p : Nat → Bool) {N k : Nat} (h : k < N) (h1 : ¬ k % 60 = 59) (h2 : ¬ k = N - 1) : rowM p N (k + 1) = rowM p N k := by
  have a1 : ¬ k + 1 = N := by omega
  have a2 : ¬ k = N := by omega
  have a3 : (k + 1) / 60 = k / 60 := by omega
  unfold rowM cD
  rw [if_neg a1, if_neg a2, a3]
theorem rowM_yes (p : Nat → Bool) {N k : Nat} (h : k < N) (h1 : k % 60 = 59 ∨ k = N - 1) : rowM p N (k + 1) = rowM p N k ++ [((mwS (fun t => p (60 * (k / 60) + t)) (k % 60 + 1) : Nat) : Int)] := by
  have hk : cD N k = k / 60 := by
    have a2 : ¬ k = N := by omega
    unfold cD; rw [if_neg a2]
  have hc : cD N (k + 1) = cD N k + 1 := by
    rw [hk]
    show (if k + 1 = N then upS N else (k + 1) / 60) = _
    unfold upS
    split <;> omega
  have hU : k / 60 < upS N := by unfold upS; omega
  have hm : min 60 (N - 60 * (k / 60)) = k % 60 + 1 := by omega
  unfold rowM
  rw [hc, hk, List.take_add_one, List.getElem?_eq_getElem (by rw [maskS_len]; exact hU)]
  simp only [maskS, List.getElem_map, List.getElem_range, hm]
  rfl
theorem nxt {k : Nat} (h : ¬ k % 60 = 59) : (k + 1) / 60 = k / 60 ∧ (k + 1) % 60 = k % 60 + 1 := by omega
theorem mwS_yes {p : Nat → Bool} {k : Nat} (h : p k = true) : mwS p (k + 1) = mwS p k + 2 ^ k := by simp [mwS, h]; omega
end Dm
set_option maxRecDepth 20000 in
set_option maxHeartbeats 400000 in
theorem rdiff_size (ao bo : Option Addr) (n m c d : Nat) (h : ¬ n = m) (w : World) :
    Calls Try.prog 11 #[.slice ao n c, .slice bo m d] w fun e w' => e = .returned (.tuple #[.slice none 0 0, .int .i64 9]) ∧ Below w.heap.size w w' := by
  have h1 : ¬ ((n : Int) = (m : Int)) := by omega
  have h2 : decide ((n : Int) = (m : Int)) = false := decide_eq_false h1
  go_enter Try.func11, Try.ntmps11
  go_wp2
  go_ret2
  exact ⟨rfl, Below.refl _ _⟩
set_option maxRecDepth 20000 in
set_option maxHeartbeats 400000 in
theorem rdiff_big (ao bo : Option Addr) (n c d : Nat) (h : 600 < n) (w : World) :
    Calls Try.prog 11 #[.slice ao n c, .slice bo n d] w fun e w' => e = .returned (.tuple #[.slice none 0 0, .int .i64 5]) ∧ Below w.heap.size w w' := by
  have h1 : (600 : Int) < (n : Int) := by omega
  have h2 : decide ((600 : Int) < (n : Int)) = true := decide_eq_true h1
  go_enter Try.func11, Try.ntmps11
  go_wp2
  go_ret2
  exact ⟨rfl, Below.refl _ _⟩
set_option maxRecDepth 20000 in
set_option maxHeartbeats 2000000 in
theorem rdiff_yes (va vb' : Value) (b n : List Int) (w : World) (hl : b.length = n.length) (hN : n.length ≤ 600) (sa : SeesI w va b) (sb : SeesI w vb' n) :
    Calls Try.prog 11 #[va, vb'] w fun e w' => ∃ v', e = .returned (.tuple #[v', .int .i64 0]) ∧ SeesI w' v' (diffS b n) ∧ Below w.heap.size w w' := by
  obtain ⟨ao, cap, rfl⟩ := sa.slice
  obtain ⟨bo, bcap, rfl⟩ := sb.slice
  obtain ⟨N, hn⟩ : ∃ N, n.length = N := ⟨_, rfl⟩
  have HN : Hid (b.length = N ∧ n.length = N) := ⟨by rw [hl, hn], hn⟩
  have hD : diffS b n = rowM (dfS b n) N N ++ otherS b n N := by unfold diffS; rw [hn, rowM_all]
  have HD : Hid (diffS b n = rowM (dfS b n) N N ++ otherS b n N) := hD
  rw [hl, hn] at sa ⊢
  rw [hn] at sb hN
  clear hl hn hD
  have e1 : ¬ ((600 : Int) < (N : Int)) := by omega
  obtain ⟨fz, hfz⟩ : ∃ fz, w.heap.size = fz := ⟨_, rfl⟩
  have HF : Hid (w.heap.size = fz) := hfz
  have hbl : Below fz w w := by rw [← hfz]; exact Below.refl _ _
  have ho : w.ownsRow fz 2 1 (.slice none 0 0) (rowM (dfS b n) N 0).length ((rowM (dfS b n) N 0).map vw) := by rw [rowM_zero]; exact ⟨rfl, .inl ⟨rfl, rfl⟩⟩
  have hp : w.ownsRow fz 2 1 (.slice none 0 0) (otherS b n 0).length ((otherS b n 0).map vw) := ⟨rfl, .inl ⟨rfl, rfl⟩⟩
  have hq : Apart (.slice none 0 0) (.slice none 0 0) := fun k e => by cases e
  go_enter Try.func11, Try.ntmps11
  go_wp2
  go_loopw [6, 7, 8, 9, 10] (fun vm vo wd by' i wr => ∃ k : Nat, k ≤ N ∧ i = .int .i64 k ∧ wr.ownsRow fz 2 1 vm (rowM (dfS b n) N k).length ((rowM (dfS b n) N k).map vw) ∧ wr.ownsRow fz 2 1 vo (otherS b n k).length ((otherS b n k).map vw) ∧ Apart vm vo ∧
    (∃ W B : Nat, wd = .int .i64 W ∧ by' = .int .i64 B ∧ Hid (k < N → W = mwS (fun t => dfS b n (60 * (k / 60) + t)) (k % 60) ∧ B = 2 ^ (k % 60))) ∧ Below fz w wr) (fun _ _ _ _ i _ => N - (intOf i).toNat)
  case atStart => exact ⟨0, Nat.zero_le _, rfl, ho, hp, hq, ⟨0, 1, rfl, rfl, fun _ => ⟨rfl, rfl⟩⟩, hbl⟩
  case round =>
    clear ho hp hq hbl
    obtain ⟨k, hk, rfl, hom, hoo, hap, ⟨W, B, rfl, rfl, hWB⟩, hbl⟩ := hrel
    have hfw : fz ≤ wr.heap.size := by have := hbl.size; omega
    by_cases hlt : k < N
    · obtain ⟨ad, rfl, la, ca⟩ := sa.at k (by rw [HN.out.1]; exact hlt)
      obtain ⟨bd, rfl, lb, cb⟩ := sb.at k (by rw [HN.out.2]; exact hlt)
      have ca' : wr.cell? (ad.add k) = _ := (hbl.cell (by rw [add_block, ← HF.out]; exact la)).trans ca
      have cb' : wr.cell? (bd.add k) = _ := (hbl.cell (by rw [add_block, ← HF.out]; exact lb)).trans cb
      clear ca cb
      obtain ⟨hW, hB⟩ := hWB.out hlt
      have hk60 : k % 60 < 60 := by omega
      have hp60 : (2 : Nat) ^ (k % 60) ≤ 2 ^ 59 := Nat.pow_le_pow_right (by decide) (by omega)
      have hWlt := mwS_lt (fun t => dfS b n (60 * (k / 60) + t)) (k % 60)
      have hkk : 60 * (k / 60) + k % 60 = k := by omega
      have hBb : B ≤ 576460752303423488 := by rw [hB]; exact hp60
      have hWb : W < B := by rw [hW, hB]; exact hWlt
      have HWe : Hid (W = mwS (fun t => dfS b n (60 * (k / 60) + t)) (k % 60) ∧ B = 2 ^ (k % 60)) := ⟨hW, hB⟩
      clear hW hB hp60 hWlt
      obtain ⟨V, hV⟩ : ∃ V, W + B = V := ⟨_, rfl⟩
      obtain ⟨D, hD2⟩ : ∃ D, B * 2 = D := ⟨_, rfl⟩
      have hVb : V < 9223372036854775808 := by omega
      have HV : Hid ((W : Int) + (B : Int) = (V : Int) ∧ (B : Int) * 2 = (D : Int)) := ⟨by omega, by omega⟩
      have hDb : D < 9223372036854775808 := by omega
      have q2 : (k : Int).tmod 60 = ((k % 60 : Nat) : Int) := by rw [Int.tmod_eq_emod_of_nonneg (by omega)]; omega
      have hi0 : (-9223372036854775808 : Int) ≤ ((k % 60 : Nat) : Int) := by omega
      have hi1 : ((k % 60 : Nat) : Int) < 9223372036854775808 := by omega
      have hml := rowM_len (dfS b n) hk
      have hol := otherS_le b n k
      have hm9 : (rowM (dfS b n) N k).length + 1 ≤ 100000 := by omega
      have ho9 : (otherS b n k).length + 1 ≤ 100000 := by omega
      cases hd : dfS b n k
      · have he : n.getD k 0 = b.getD k 0 := by simpa [dfS] using hd
        have hoe : otherS b n (k + 1) = otherS b n k := by simp [otherS, hd]
        have hms : mwS (fun t => dfS b n (60 * (k / 60) + t)) (k % 60 + 1) = W := by rw [mwS_no (by rw [hkk]; exact hd), HWe.out.1]
        by_cases h59 : k % 60 = 59
        · skip
          --[pno59
          have t1 : ((k % 60 : Nat) : Int) = 59 := by omega
          have hrm := rowM_yes (dfS b n) hlt (Or.inl h59)
          rw [hms] at hrm
          have n2 : (k + 1) % 60 = 0 := by omega
          have HW : Hid (k + 1 < N → 0 = mwS (fun t => dfS b n (60 * ((k + 1) / 60) + t)) ((k + 1) % 60) ∧ 1 = 2 ^ ((k + 1) % 60)) := fun _ => by rw [n2]; exact ⟨rfl, rfl⟩
          have HR : Hid (rowM (dfS b n) N (k + 1) = _ ∧ otherS b n (k + 1) = _) := ⟨hrm, hoe⟩
          clear hrm hoe hms HWe hWB hd hkk h59 n2
          rw [he] at cb'
          clear he
          generalize b.getD k 0 = x at *
          have q8 := wrap_i ((k % 60 : Nat) : Int) hi0 hi1
          clear hi0 hi1
          generalize k % 60 = i7 at q2 q8 t1 hk60
          go_wp2
          go_quiet (fail)
          have homV : (wr.drewN nq).ownsRow _ _ _ _ _ _ := hom
          have hooV : (wr.drewN nq).ownsRow _ _ _ _ _ _ := hoo
          have hblV : Below fz w (wr.drewN nq) := hbl.trans (below_drewN (Below.refl _ _) _)
          have hfV : fz ≤ (wr.drewN nq).heap.size := hfw
          generalize wr.drewN nq = U at *
          clear hom hoo hbl hfw ca' cb'
          go_wp2_with (first
            | (at_builtin; go_must (refine app64two rfl _ _ rfl fz _ _ _ rfl (homV.alloc _) (le_alloc hfV _) _ _ _ (hooV.alloc _) hap _ _ _ [(W : Int)] rfl (one64' _ _ _ (by simp)) hm9 ?_); intro v6 w6 ho6 hoo6 hap6 hb6; have hb6' : Below fz w w6 := (hblV.alloc hfV _).trans hb6))
          go_roundw
          case rel => exact ⟨k + 1, by omega, by go_num, by rw [HR.out.1, List.length_append, List.map_append]; exact ho6, by rw [HR.out.2]; exact hoo6, hap6, ⟨0, 1, rfl, rfl, HW⟩, hb6'⟩
          case measure => simp [intOf]; omega
          --]pno59
        · by_cases hlast : k = N - 1
          · skip
            --[pnolast
            have t1 : ¬ ((k % 60 : Nat) : Int) = 59 := by omega
            have t2 : (N : Int) - 1 = (k : Int) := by omega
            have hrm := rowM_yes (dfS b n) hlt (Or.inr hlast)
            rw [hms] at hrm
            have HW : Hid (k + 1 < N → 0 = mwS (fun t => dfS b n (60 * ((k + 1) / 60) + t)) ((k + 1) % 60) ∧ 1 = 2 ^ ((k + 1) % 60)) := fun h => by omega
            have HR : Hid (rowM (dfS b n) N (k + 1) = _ ∧ otherS b n (k + 1) = _) := ⟨hrm, hoe⟩
            clear hrm hoe hms HWe hWB hd hkk h59 hlast 
            rw [he] at cb'
            clear he
            generalize b.getD k 0 = x at *
            have q8 := wrap_i ((k % 60 : Nat) : Int) hi0 hi1
            clear hi0 hi1
            generalize k % 60 = i7 at q2 q8 t1 hk60
            go_wp2
            go_quiet (fail)
            have homV : (wr.drewN nq).ownsRow _ _ _ _ _ _ := hom
            have hooV : (wr.drewN nq).ownsRow _ _ _ _ _ _ := hoo
            have hblV : Below fz w (wr.drewN nq) := hbl.trans (below_drewN (Below.refl _ _) _)
            have hfV : fz ≤ (wr.drewN nq).heap.size := hfw
            generalize wr.drewN nq = U at *
            clear hom hoo hbl hfw ca' cb'
            go_wp2_with (first
              | (at_builtin; go_must (refine app64two rfl _ _ rfl fz _ _ _ rfl (homV.alloc _) (le_alloc hfV _) _ _ _ (hooV.alloc _) hap _ _ _ [(W : Int)] rfl (one64' _ _ _ (by simp)) hm9 ?_); intro v6 w6 ho6 hoo6 hap6 hb6; have hb6' : Below fz w w6 := (hblV.alloc hfV _).trans hb6))
            go_roundw
            case rel => exact ⟨k + 1, by omega, by go_num, by rw [HR.out.1, List.length_append, List.map_append]; exact ho6, by rw [HR.out.2]; exact hoo6, hap6, ⟨0, 1, rfl, rfl, HW⟩, hb6'⟩
            case measure => simp [intOf]; omega
            --]pnolast
          · skip
            --[pnonone
            have t1 : ¬ ((k % 60 : Nat) : Int) = 59 := by omega
            have t2 : ¬ (k : Int) = (N : Int) - 1 := by omega
            have t2b : ((k : Int) == (N : Int) - 1) = false := by simp; omega
            have t1b : (((k % 60 : Nat) : Int) == 59) = false := by simp; omega
            have hrm := rowM_no (dfS b n) hlt h59 hlast
            obtain ⟨n1, n2⟩ := nxt h59
            have HW : Hid (k + 1 < N → W = mwS (fun t => dfS b n (60 * ((k + 1) / 60) + t)) ((k + 1) % 60) ∧ D = 2 ^ ((k + 1) % 60)) := fun _ => by rw [n1, n2]; exact ⟨hms.symm, by rw [← hD2, HWe.out.2, Nat.pow_succ]⟩
            have HR : Hid (rowM (dfS b n) N (k + 1) = _ ∧ otherS b n (k + 1) = _) := ⟨hrm, hoe⟩
            clear hrm hoe hms HWe hWB hd hkk h59 hlast n1 n2
            rw [he] at cb'
            clear he
            generalize b.getD k 0 = x at *
            have q8 := wrap_i ((k % 60 : Nat) : Int) hi0 hi1
            clear hi0 hi1
            generalize k % 60 = i7 at q2 q8 t1 t1b hk60
            go_wp2
            go_quiet (fail)
            have homV : (wr.drewN nq).ownsRow _ _ _ _ _ _ := hom
            have hooV : (wr.drewN nq).ownsRow _ _ _ _ _ _ := hoo
            have hblV : Below fz w (wr.drewN nq) := hbl.trans (below_drewN (Below.refl _ _) _)
            have hfV : fz ≤ (wr.drewN nq).heap.size := hfw
            generalize wr.drewN nq = U at *
            clear hom hoo hbl hfw ca' cb'
            go_wp2
            go_roundw
            case rel => exact ⟨k + 1, by omega, by go_num, by rw [HR.out.1]; exact homV, by rw [HR.out.2]; exact hooV, hap, ⟨W, D, rfl, by rw [← HV.out.2], HW⟩, hblV⟩
            case measure => simp [intOf]; omega
            --]pnonone
      · have he : ¬ n.getD k 0 = b.getD k 0 := by simpa [dfS] using hd
        have hoe : otherS b n (k + 1) = otherS b n k ++ [n.getD k 0] := by simp [otherS, hd]
        have hms : mwS (fun t => dfS b n (60 * (k / 60) + t)) (k % 60 + 1) = V := by rw [mwS_yes (by rw [hkk]; exact hd), ← hV, HWe.out.1, HWe.out.2]
        by_cases h59 : k % 60 = 59
        · skip
          --[pyes59
          have t1 : ((k % 60 : Nat) : Int) = 59 := by omega
          have hrm := rowM_yes (dfS b n) hlt (Or.inl h59)
          rw [hms] at hrm
          have n2 : (k + 1) % 60 = 0 := by omega
          have HW : Hid (k + 1 < N → 0 = mwS (fun t => dfS b n (60 * ((k + 1) / 60) + t)) ((k + 1) % 60) ∧ 1 = 2 ^ ((k + 1) % 60)) := fun _ => by rw [n2]; exact ⟨rfl, rfl⟩
          have HR : Hid (rowM (dfS b n) N (k + 1) = _ ∧ otherS b n (k + 1) = _) := ⟨hrm, hoe⟩
          clear hrm hoe hms HWe hWB hd hkk h59 n2
          have he' : ¬ n.getD k 0 = b.getD k 0 := he
          clear he
          generalize n.getD k 0 = y at cb' he' HR
          generalize b.getD k 0 = x at *
          have q8 := wrap_i ((k % 60 : Nat) : Int) hi0 hi1
          clear hi0 hi1
          generalize k % 60 = i7 at q2 q8 t1 hk60
          go_wp2
          go_quiet (fail)
          have homV : (wr.drewN nq).ownsRow _ _ _ _ _ _ := hom
          have hooV : (wr.drewN nq).ownsRow _ _ _ _ _ _ := hoo
          have hblV : Below fz w (wr.drewN nq) := hbl.trans (below_drewN (Below.refl _ _) _)
          have hfV : fz ≤ (wr.drewN nq).heap.size := hfw
          have cbV : (wr.drewN nq).cell? (bd.add k) = _ := cb'
          generalize wr.drewN nq = U at *
          clear hom hoo hbl hfw ca' cb'
          go_wp2_with (first
            | (have _ := hb5'; at_builtin; go_must (refine app64two rfl _ _ rfl fz _ _ _ rfl (hom5.alloc _) (le_alloc hf5 _) _ _ _ (ho5.alloc _) hap5.swap _ _ _ [(W : Int) + (B : Int)] rfl (one64' _ _ _ (by simp)) hm9 ?_); intro v6 w6 ho6 hoo6 hap6 hb6; have hb6' : Below fz w w6 := (hb5'.alloc hf5 _).trans hb6)
            | (at_builtin; go_must (refine app64two rfl _ _ rfl fz _ _ _ rfl (hooV.alloc _) (le_alloc hfV _) _ _ _ (homV.alloc _) hap.swap _ _ _ [y] rfl (one64' _ y _ (by simp)) ho9 ?_); intro v5 w5 ho5 hom5 hap5 hb5; have hb5' : Below fz w w5 := (hblV.alloc hfV _).trans hb5; have hf5 : fz ≤ w5.heap.size := Nat.le_trans (le_alloc hfV _) hb5.size))
          go_roundw
          case rel => exact ⟨k + 1, by omega, by go_num, by rw [HR.out.1, List.length_append, List.map_append, ← HV.out.1]; exact ho6, by rw [HR.out.2, List.length_append, List.map_append]; exact hoo6, hap6, ⟨0, 1, rfl, rfl, HW⟩, hb6'⟩
          case measure => simp [intOf]; omega
          --]pyes59
        · by_cases hlast : k = N - 1
          · skip
            --[pyeslast
            have t1 : ¬ ((k % 60 : Nat) : Int) = 59 := by omega
            have t2 : (N : Int) - 1 = (k : Int) := by omega
            have hrm := rowM_yes (dfS b n) hlt (Or.inr hlast)
            rw [hms] at hrm
            have HW : Hid (k + 1 < N → 0 = mwS (fun t => dfS b n (60 * ((k + 1) / 60) + t)) ((k + 1) % 60) ∧ 1 = 2 ^ ((k + 1) % 60)) := fun h => by omega
            have HR : Hid (rowM (dfS b n) N (k + 1) = _ ∧ otherS b n (k + 1) = _) := ⟨hrm, hoe⟩
            clear hrm hoe hms HWe hWB hd hkk h59 hlast 
            have he' : ¬ n.getD k 0 = b.getD k 0 := he
            clear he
            generalize n.getD k 0 = y at cb' he' HR
            generalize b.getD k 0 = x at *
            have q8 := wrap_i ((k % 60 : Nat) : Int) hi0 hi1
            clear hi0 hi1
            generalize k % 60 = i7 at q2 q8 t1 hk60
            go_wp2
            go_quiet (fail)
            have homV : (wr.drewN nq).ownsRow _ _ _ _ _ _ := hom
            have hooV : (wr.drewN nq).ownsRow _ _ _ _ _ _ := hoo
            have hblV : Below fz w (wr.drewN nq) := hbl.trans (below_drewN (Below.refl _ _) _)
            have hfV : fz ≤ (wr.drewN nq).heap.size := hfw
            have cbV : (wr.drewN nq).cell? (bd.add k) = _ := cb'
            generalize wr.drewN nq = U at *
            clear hom hoo hbl hfw ca' cb'
            go_wp2_with (first
              | (have _ := hb5'; at_builtin; go_must (refine app64two rfl _ _ rfl fz _ _ _ rfl (hom5.alloc _) (le_alloc hf5 _) _ _ _ (ho5.alloc _) hap5.swap _ _ _ [(W : Int) + (B : Int)] rfl (one64' _ _ _ (by simp)) hm9 ?_); intro v6 w6 ho6 hoo6 hap6 hb6; have hb6' : Below fz w w6 := (hb5'.alloc hf5 _).trans hb6)
              | (at_builtin; go_must (refine app64two rfl _ _ rfl fz _ _ _ rfl (hooV.alloc _) (le_alloc hfV _) _ _ _ (homV.alloc _) hap.swap _ _ _ [y] rfl (one64' _ y _ (by simp)) ho9 ?_); intro v5 w5 ho5 hom5 hap5 hb5; have hb5' : Below fz w w5 := (hblV.alloc hfV _).trans hb5; have hf5 : fz ≤ w5.heap.size := Nat.le_trans (le_alloc hfV _) hb5.size))
            go_roundw
            case rel => exact ⟨k + 1, by omega, by go_num, by rw [HR.out.1, List.length_append, List.map_append, ← HV.out.1]; exact ho6, by rw [HR.out.2, List.length_append, List.map_append]; exact hoo6, hap6, ⟨0, 1, rfl, rfl, HW⟩, hb6'⟩
            case measure => simp [intOf]; omega
            --]pyeslast
          · skip
            --[pyesnone
            have t1 : ¬ ((k % 60 : Nat) : Int) = 59 := by omega
            have t2 : ¬ (k : Int) = (N : Int) - 1 := by omega
            have t2b : ((k : Int) == (N : Int) - 1) = false := by simp; omega
            have t1b : (((k % 60 : Nat) : Int) == 59) = false := by simp; omega
            have hrm := rowM_no (dfS b n) hlt h59 hlast
            obtain ⟨n1, n2⟩ := nxt h59
            have HW : Hid (k + 1 < N → V = mwS (fun t => dfS b n (60 * ((k + 1) / 60) + t)) ((k + 1) % 60) ∧ D = 2 ^ ((k + 1) % 60)) := fun _ => by rw [n1, n2]; exact ⟨hms.symm, by rw [← hD2, HWe.out.2, Nat.pow_succ]⟩
            have HR : Hid (rowM (dfS b n) N (k + 1) = _ ∧ otherS b n (k + 1) = _) := ⟨hrm, hoe⟩
            clear hrm hoe hms HWe hWB hd hkk h59 hlast n1 n2
            have he' : ¬ n.getD k 0 = b.getD k 0 := he
            clear he
            generalize n.getD k 0 = y at cb' he' HR
            generalize b.getD k 0 = x at *
            have q8 := wrap_i ((k % 60 : Nat) : Int) hi0 hi1
            clear hi0 hi1
            generalize k % 60 = i7 at q2 q8 t1 t1b hk60
            go_wp2
            go_quiet (fail)
            have homV : (wr.drewN nq).ownsRow _ _ _ _ _ _ := hom
            have hooV : (wr.drewN nq).ownsRow _ _ _ _ _ _ := hoo
            have hblV : Below fz w (wr.drewN nq) := hbl.trans (below_drewN (Below.refl _ _) _)
            have hfV : fz ≤ (wr.drewN nq).heap.size := hfw
            have cbV : (wr.drewN nq).cell? (bd.add k) = _ := cb'
            generalize wr.drewN nq = U at *
            clear hom hoo hbl hfw ca' cb'
            go_wp2_with (first
              | (at_builtin; go_must (refine app64two rfl _ _ rfl fz _ _ _ rfl (hooV.alloc _) (le_alloc hfV _) _ _ _ (homV.alloc _) hap.swap _ _ _ [y] rfl (one64' _ y _ (by simp)) ho9 ?_); intro v5 w5 ho5 hom5 hap5 hb5; have hb5' : Below fz w w5 := (hblV.alloc hfV _).trans hb5; have hf5 : fz ≤ w5.heap.size := Nat.le_trans (le_alloc hfV _) hb5.size))
            go_roundw
            case rel => exact ⟨k + 1, by omega, by go_num, by rw [HR.out.1]; exact hom5, by rw [HR.out.2, List.length_append, List.map_append]; exact ho5, hap5.swap, ⟨V, D, by rw [← HV.out.1], by rw [← HV.out.2], HW⟩, hb5'⟩
            case measure => simp [intOf]; omega
            --]pyesnone
    · obtain rfl : k = N := by omega
      have hol := otherS_le b n k
      have hml := rowM_len (dfS b n) hk
      --[e
      go_wp2_with (at_builtin; go_must (refine app64 rfl _ _ rfl fz _ _ _ rfl hom hfw _ (otherS b n k) rfl (Row.own hoo) (by omega) ?_); intro v5 w5 ho5 hg5; have hb5 : Below fz w w5 := hbl.grown hg5 hfw (fun m e => (hom.lt m e).1))
      go_ret2
      exact ⟨_, rfl, by rw [HD.out]; exact Row.own (n := _) (by rw [List.map_append]; exact ho5), by rw [HF.out]; exact hb5⟩
      --]e
end Go.Proofs.Ytehlibeedieclaa.Gr
