/-
  The document's bit and Apply.
-/
import Derived.Test.YtehlibeedieclaaDS
import Derived.Test.YtehlibeedieclaaDR
namespace Go.Proofs.Ytehlibeedieclaa.Gr
open Go.RowKit Go.Sort Dm
set_option linter.unusedVariables false

/-- a word of 64 bits as a number -/
def uoS (x : Int) : Nat := (x % 18446744073709551616).toNat
theorem uoS_lt (x : Int) : uoS x < 18446744073709551616 := by unfold uoS; omega
theorem uoS_cast (x : Int) : IntKind.u64.wrap x = (uoS x : Int) := by
  have : IntKind.u64.wrap x = x % 18446744073709551616 := by simp [IntKind.wrap, IntKind.bits, IntKind.signed]
  rw [this]; unfold uoS; omega
theorem half_step (u k : Nat) : u / 2 ^ k / 2 = u / 2 ^ (k + 1) := by rw [Nat.pow_succ, Nat.div_div_eq_div_mul]
theorem wrap_u64n (n : Nat) (h : n < 18446744073709551616) : IntKind.u64.wrap (n : Int) = n := by simp [IntKind.wrap, IntKind.bits, IntKind.signed]; omega
set_option maxRecDepth 20000 in
set_option maxHeartbeats 1000000 in
theorem rbit_any (x : Int) (i : Nat) (hi : i < 64) (w : World) :
    Calls Try.prog 21 #[.int .i64 x, .int .i64 i] w fun e w' => e = .returned (.bool (ubS x i)) ∧ Below w.heap.size w w' := by
  have hu := uoS_cast x
  have hlt := uoS_lt x
  have hub : ubS x i = (uoS x).testBit i := rfl
  rw [hub]
  clear hub
  generalize uoS x = u at hu hlt ⊢
  go_enter Try.func21, Try.ntmps21
  go_wp2
  go_loop [5, 6] (fun a b => ∃ k V : Nat, k ≤ i ∧ b = .int .i64 k ∧ a = .int .u64 V ∧ V < 18446744073709551616 ∧ Hid (V = u / 2 ^ k)) (fun _ b => i - (intOf b).toNat)
  case atStart => exact ⟨0, u, Nat.zero_le _, rfl, rfl, hlt, by simp [Hid]⟩
  case round =>
    obtain ⟨k, V, hk, rfl, rfl, hV, hVe⟩ := hrel
    clear hu hlt
    by_cases hlt : k < i
    · obtain ⟨V2, hV2⟩ : ∃ V2, V / 2 = V2 := ⟨_, rfl⟩
      have HR : Hid (V2 < 18446744073709551616 ∧ V2 = u / 2 ^ (k + 1)) := ⟨by omega, by rw [← hV2, hVe.out, half_step]⟩
      have f1 : (V : Int).tdiv 2 = (V2 : Int) := by rw [Int.tdiv_eq_ediv_of_nonneg (by omega)]; omega
      have f2 := wrap_u64n V2 HR.out.1
      clear hV2
      go_wp2
      exact ⟨⟨k + 1, V2, by omega, by go_num, rfl, HR.out.1, HR.out.2⟩, by simp [intOf]; omega⟩
    · obtain rfl : k = i := by omega
      have hb : u.testBit k = decide (V % 2 = 1) := by rw [Nat.testBit_eq_decide_div_mod_eq, hVe.out]
      have HB : Hid (u.testBit k = decide (V % 2 = 1)) := hb
      obtain ⟨R, hR⟩ : ∃ R, V % 2 = R := ⟨_, rfl⟩
      have f1 : (V : Int).tmod 2 = (R : Int) := by rw [Int.tmod_eq_emod_of_nonneg (by omega)]; omega
      have hR2 : R < 18446744073709551616 := by omega
      have f2 := wrap_u64n R hR2
      have HR : Hid (V % 2 = R) := hR
      clear hb hR
      go_wp2
      go_ret
      refine ⟨?_, Below.refl _ _⟩
      have hq : ((R : Int) == 1) = decide (R = 1) := by
        by_cases h : R = 1
        · subst h; rfl
        · rw [decide_eq_false h]; simp; omega
      rw [HB.out, HR.out, ← hq]
      rfl
namespace Dm
theorem doc_at {base d : List Int} : ∀ {i st}, docS base d i = some st → upS base.length ≤ st.1 ∧ st.1 ≤ max d.length (upS base.length)
  | 0, st, h => by simp [docS] at h; subst h; simp; omega
  | i + 1, st, h => by
    have h' : (docS base d i).bind (docStep base d i) = some st := h
    cases hs : docS base d i with
    | none => rw [hs] at h'; cases h'
    | some s0 =>
      have ih := doc_at hs
      rw [hs] at h'
      have h2 : docStep base d i s0 = some st := h'
      unfold docStep at h2
      split at h2
      · split at h2
        · cases h2
        · cases h2; exact ih
      · split at h2
        · cases h2; exact ih
        · split at h2
          · cases h2
          · rename_i hn; cases h2; simp only; omega
theorem doc_next {base d : List Int} {i : Nat} {s : Nat × List Int} (h : docS base d i = some s) : docS base d (i + 1) = docStep base d i s := by
  show (docS base d i).bind _ = _
  rw [h]; rfl
theorem docR_none {base d : List Int} {i : Nat} (hi : i ≤ 64 * upS base.length) (h : docS base d i = none) : docR base d = none := by
  unfold docR
  have := docS_none h (64 * upS base.length - i)
  rw [show i + (64 * upS base.length - i) = 64 * upS base.length by omega] at this
  rw [this]; rfl
end Dm
theorem own_keepU {w w' : World} {base : Nat} {e : TypeId} {size n : Nat} {v : Value} {xs : List Value} (h : w.ownsRow base e size v n xs) (hb : Below w.heap.size w w') : w'.ownsRow base e size v n xs := by
  obtain ⟨hl, h0 | ⟨g, cap', cur, hv, hb', hg', r⟩⟩ := h
  · exact ⟨hl, .inl h0⟩
  · exact ⟨hl, .inr ⟨g, cap', cur, hv, hb', keep hb hg', r⟩⟩
theorem block_lt_add {w : World} {ad : Addr} {k : Nat} {v : Value} (h : w.cell? (ad.add k) = some v) : (ad.add k).block < w.heap.size := block_lt_of_cell h
set_option maxRecDepth 20000 in
set_option maxHeartbeats 400000 in
theorem rapply_big (ao bo : Option Addr) (n m c d : Nat) (h : 600 < n) (w : World) :
    Calls Try.prog 13 #[.slice ao n c, .slice bo m d] w fun e w' => e = .returned (.tuple #[.slice none 0 0, .int .i64 5]) ∧ Below w.heap.size w w' := by
  have h1 : (600 : Int) < (n : Int) := by omega
  have h2 : decide ((600 : Int) < (n : Int)) = true := decide_eq_true h1
  go_enter Try.func13, Try.ntmps13
  go_wp2
  go_ret2
  exact ⟨rfl, Below.refl _ _⟩
set_option maxRecDepth 20000 in
set_option maxHeartbeats 400000 in
theorem rapply_more (ao bo : Option Addr) (n m c d : Nat) (h : n ≤ 600) (h' : m < upS n) (w : World) :
    Calls Try.prog 13 #[.slice ao n c, .slice bo m d] w fun e w' => e = .returned (.tuple #[.slice none 0 0, .int .i64 4]) ∧ Below w.heap.size w w' := by
  have h2 : decide ((600 : Int) < (n : Int)) = false := decide_eq_false (by omega)
  have e3 : ((n : Int) + 59).tdiv 60 = (upS n : Int) := by rw [Int.tdiv_eq_ediv_of_nonneg (by omega)]; unfold upS; omega
  have hb : upS n < 1000 := by unfold upS; omega
  have e5 := wrap_i (upS n : Int) (by omega) (by omega)
  generalize upS n = U at *
  have h3 : decide ((m : Int) < (U : Int)) = true := by simp; omega
  go_enter Try.func13, Try.ntmps13
  go_wp2
  go_ret2
  exact ⟨rfl, Below.refl _ _⟩
set_option maxRecDepth 100000 in
set_option maxHeartbeats 4000000 in
theorem rapply_yes (va vb' : Value) (base d : List Int) (w : World) (hN : base.length ≤ 600) (hU : upS base.length ≤ d.length) (hd : d.length ≤ 1500) (sa : SeesI w va base) (sb : SeesI w vb' d) :
    Calls Try.prog 13 #[va, vb'] w fun e w' => (∀ r, docR base d = some r → ∃ v, e = .returned (.tuple #[v, .int .i64 0]) ∧ SeesI w' v r) ∧ (docR base d = none → e = .returned (.tuple #[.slice none 0 0, .int .i64 2])) ∧ Below w.heap.size w w' := by
  obtain ⟨ao, cap, rfl⟩ := sa.slice
  obtain ⟨bo, bcap, rfl⟩ := sb.slice
  have e3 : ((base.length : Int) + 59).tdiv 60 = (upS base.length : Int) := by rw [Int.tdiv_eq_ediv_of_nonneg (by omega)]; unfold upS; omega
  have hUb : upS base.length ≤ 10 := by unfold upS; omega
  obtain ⟨N, hn⟩ : ∃ N, base.length = N := ⟨_, rfl⟩
  obtain ⟨M, hm⟩ : ∃ M, d.length = M := ⟨_, rfl⟩
  obtain ⟨U, hUe⟩ : ∃ U, upS base.length = U := ⟨_, rfl⟩
  have HN : Hid (base.length = N ∧ d.length = M ∧ upS base.length = U) := ⟨hn, hm, hUe⟩
  rw [hUe] at hU hUb e3
  rw [hn] at hN e3 sa ⊢
  rw [hm] at hU hd sb ⊢
  have h2 : decide ((600 : Int) < (N : Int)) = false := decide_eq_false (by omega)
  have h3 : decide ((M : Int) < (U : Int)) = false := by simp; omega
  have h3n : decide (M < U) = false := decide_eq_false (by omega)
  have e5 := wrap_i (U : Int) (by omega) (by omega)
  obtain ⟨fz, hfz⟩ : ∃ fz, w.heap.size = fz := ⟨_, rfl⟩
  have HF : Hid (w.heap.size = fz) := hfz
  have hb0 : Below fz w w := by rw [← hfz]; exact Below.refl _ _
  have ho : w.ownsRow fz 2 1 (.slice none 0 0) ([] : List Int).length (([] : List Int).map vw) := ⟨rfl, .inl ⟨rfl, rfl⟩⟩
  clear hn hm hUe
  obtain ⟨Z, hZ⟩ : ∃ Z, 64 * U = Z := ⟨_, rfl⟩
  have hZb : Z ≤ 640 := by omega
  have e6 : 64 * (U : Int) = (Z : Int) := by omega
  have HZ : Hid (64 * U = Z) := hZ
  obtain ⟨R, hR⟩ : ∃ R, docR base d = R := ⟨_, rfl⟩
  have HRR : Hid (docR base d = R) := hR
  rw [hR]
  clear hR
  go_enter Try.func13, Try.ntmps13
  go_wp2
  go_loopw [7, 8, 9] (fun vo at' i wr => ∃ k a : Nat, ∃ o : List Int, k ≤ Z ∧ i = .int .i64 k ∧ at' = .int .i64 a ∧ wr.ownsRow fz 2 1 vo o.length (o.map vw) ∧ Hid (docS base d k = some (a, o)) ∧ Below fz w wr) (fun _ _ i _ => Z - (intOf i).toNat)
  case atStart => exact ⟨0, U, [], Nat.zero_le _, rfl, rfl, ho, by unfold Hid; rw [← HN.out.2.2]; rfl, hb0⟩
  case round =>
    clear ho hb0
    obtain ⟨k, a, o, hk, rfl, rfl, hown, hs, hbl⟩ := hrel
    have hfw : fz ≤ wr.heap.size := by have := hbl.size; omega
    obtain ⟨hUa, haM⟩ := doc_at hs.out
    have hol := doc_len hs.out
    have hq : qS base.length k ≤ base.length := by unfold qS; omega
    rw [HN.out.2.2] at hUa haM
    rw [HN.out.2.1] at haM
    simp only at hUa haM hol
    rw [HN.out.1] at hq hol
    have haM' : a ≤ M := by omega
    have ho9 : o.length + 1 ≤ 100000 := by omega
    clear hol hq haM hUa
    by_cases hlt : k < Z
    · have hnx := doc_next hs.out
      have hkU : k / 64 < U := by omega
      have hjM : k / 64 < M := by omega
      obtain ⟨bd, rfl, lb, cb⟩ := sb.at (k / 64) (by rw [HN.out.2.1]; exact hjM)
      have cb' : wr.cell? (bd.add (k / 64)) = _ := (hbl.cell (by rw [add_block, ← HF.out]; exact lb)).trans cb
      clear cb
      have hk64 : k % 64 < 64 := by omega
      have cB := fun (u : World) => rbit_any (d.getD (k / 64) 0) (k % 64) hk64 u
      have q1 : (k : Int).tdiv 64 = ((k / 64 : Nat) : Int) := by rw [Int.tdiv_eq_ediv_of_nonneg (by omega)]; omega
      have q2 : (k : Int).tmod 64 = ((k % 64 : Nat) : Int) := by rw [Int.tmod_eq_emod_of_nonneg (by omega)]; omega
      have hj6 : k / 64 ≤ 10 := by omega
      obtain ⟨P, hP⟩ : ∃ P, 60 * (k / 64) + k % 64 = P := ⟨_, rfl⟩
      have hP1 : 60 * ((k / 64 : Nat) : Int) + ((k % 64 : Nat) : Int) = (P : Int) := by omega
      have hPb : P ≤ 700 := by omega
      have hz : 64 * upS base.length = Z := by rw [HN.out.2.2]; exact hZ
      unfold docStep at hnx
      rw [hP, HN.out.1] at hnx
      by_cases hv : 60 ≤ k % 64 ∨ N ≤ P
      · rw [if_pos hv] at hnx
        cases hb : ubS (d.getD (k / 64) 0) (k % 64)
        · rw [hb] at hnx cB
          have HX : Hid (docS base d (k + 1) = some (a, o)) := hnx
          clear hnx hb
          by_cases h60 : 60 ≤ k % 64
          · skip
            --[a1
            have t60 : (60 : Int) ≤ ((k % 64 : Nat) : Int) := by omega
            clear hv h60
            clear hz hP hkU
            generalize d.getD (k / 64) 0 = x at cb' cB
            generalize k / 64 = j6 at *
            generalize k % 64 = i7 at *
            have tj : (j6 : Int) < (M : Int) := by omega
            have tj0 : (0 : Int) ≤ (j6 : Int) := by omega
            have q7 := wrap_i (j6 : Int) (by omega) (by omega)
            have q8 := wrap_i (i7 : Int) (by omega) (by omega)
            go_wp2_with (go_at_call 21; go_must (refine (cB _).mono ?_); rintro e w2 ⟨rfl, b2⟩; have own2 := own_keepU hown b2; have hbl2 : Below fz w w2 := hbl.trans (b2.mono hfw); have hfw2 : fz ≤ w2.heap.size := Nat.le_trans hfw b2.size)
            go_roundw
            case rel => exact ⟨k + 1, a, o, by omega, by go_num, rfl, own2, HX, hbl2⟩
            case measure => simp [intOf]; omega
            --]a1
          · skip
            --[a2
            have t60 : ¬ (60 : Int) ≤ ((k % 64 : Nat) : Int) := by omega
            have tN : (N : Int) ≤ (P : Int) := by omega
            clear hv h60
            clear hz hP hkU
            generalize d.getD (k / 64) 0 = x at cb' cB
            generalize k / 64 = j6 at *
            generalize k % 64 = i7 at *
            have tj : (j6 : Int) < (M : Int) := by omega
            have tj0 : (0 : Int) ≤ (j6 : Int) := by omega
            have q7 := wrap_i (j6 : Int) (by omega) (by omega)
            have q8 := wrap_i (i7 : Int) (by omega) (by omega)
            go_wp2_with (go_at_call 21; go_must (refine (cB _).mono ?_); rintro e w2 ⟨rfl, b2⟩; have own2 := own_keepU hown b2; have hbl2 : Below fz w w2 := hbl.trans (b2.mono hfw); have hfw2 : fz ≤ w2.heap.size := Nat.le_trans hfw b2.size)
            go_roundw
            case rel => exact ⟨k + 1, a, o, by omega, by go_num, rfl, own2, HX, hbl2⟩
            case measure => simp [intOf]; omega
            --]a2
        · rw [hb] at hnx cB
          have HX : Hid (R = none) := HRR.out.symm.trans (docR_none (i := k + 1) (by rw [hz]; omega) hnx)
          clear hnx hb
          by_cases h60 : 60 ≤ k % 64
          · skip
            --[b1
            have t60 : (60 : Int) ≤ ((k % 64 : Nat) : Int) := by omega
            clear hv h60
            clear hz hP hkU
            generalize d.getD (k / 64) 0 = x at cb' cB
            generalize k / 64 = j6 at *
            generalize k % 64 = i7 at *
            have tj : (j6 : Int) < (M : Int) := by omega
            have tj0 : (0 : Int) ≤ (j6 : Int) := by omega
            have q7 := wrap_i (j6 : Int) (by omega) (by omega)
            have q8 := wrap_i (i7 : Int) (by omega) (by omega)
            go_wp2_with (go_at_call 21; go_must (refine (cB _).mono ?_); rintro e w2 ⟨rfl, b2⟩; have own2 := own_keepU hown b2; have hbl2 : Below fz w w2 := hbl.trans (b2.mono hfw); have hfw2 : fz ≤ w2.heap.size := Nat.le_trans hfw b2.size)
            go_ret2
            exact ⟨fun r h => (by rw [HX.out] at h; cases h), fun _ => rfl, (by first | exact hbl2 | (rw [HF.out]; exact hbl2))⟩
            --]b1
          · skip
            --[b2
            have t60 : ¬ (60 : Int) ≤ ((k % 64 : Nat) : Int) := by omega
            have tN : (N : Int) ≤ (P : Int) := by omega
            clear hv h60
            clear hz hP hkU
            generalize d.getD (k / 64) 0 = x at cb' cB
            generalize k / 64 = j6 at *
            generalize k % 64 = i7 at *
            have tj : (j6 : Int) < (M : Int) := by omega
            have tj0 : (0 : Int) ≤ (j6 : Int) := by omega
            have q7 := wrap_i (j6 : Int) (by omega) (by omega)
            have q8 := wrap_i (i7 : Int) (by omega) (by omega)
            go_wp2_with (go_at_call 21; go_must (refine (cB _).mono ?_); rintro e w2 ⟨rfl, b2⟩; have own2 := own_keepU hown b2; have hbl2 : Below fz w w2 := hbl.trans (b2.mono hfw); have hfw2 : fz ≤ w2.heap.size := Nat.le_trans hfw b2.size)
            go_ret2
            exact ⟨fun r h => (by rw [HX.out] at h; cases h), fun _ => rfl, (by first | exact hbl2 | (rw [HF.out]; exact hbl2))⟩
            --]b2
      · rw [if_neg hv, HN.out.2.1] at hnx
        have hPN : P < N := by omega
        obtain ⟨ad, rfl, la, ca⟩ := sa.at P (by rw [HN.out.1]; exact hPN)
        have ca' : wr.cell? (ad.add P) = _ := (hbl.cell (by rw [add_block, ← HF.out]; exact la)).trans ca
        clear ca
        cases hb : ubS (d.getD (k / 64) 0) (k % 64)
        · rw [hb, if_pos rfl] at hnx
          rw [hb] at cB
          have HX : Hid (docS base d (k + 1) = some (a, o ++ [base.getD P 0])) := hnx
          clear hnx hb
          --[c
          have t60 : ¬ (60 : Int) ≤ ((k % 64 : Nat) : Int) := by omega
          have tN : ¬ (N : Int) ≤ (P : Int) := by omega
          have tP : (P : Int) < (N : Int) := by omega
          have tP0 : (0 : Int) ≤ (P : Int) := by omega
          clear hv
          generalize base.getD P 0 = y at ca' HX
          clear hz hP hkU
          generalize d.getD (k / 64) 0 = x at cb' cB
          generalize k / 64 = j6 at *
          generalize k % 64 = i7 at *
          have tj : (j6 : Int) < (M : Int) := by omega
          have tj0 : (0 : Int) ≤ (j6 : Int) := by omega
          have q7 := wrap_i (j6 : Int) (by omega) (by omega)
          have q8 := wrap_i (i7 : Int) (by omega) (by omega)
          go_wp2_with (first
            | (go_at_call 21; go_must (refine (cB _).mono ?_); rintro e w2 ⟨rfl, b2⟩; have own2 := own_keepU hown b2; have hbl2 : Below fz w w2 := hbl.trans (b2.mono hfw); have hfw2 : fz ≤ w2.heap.size := Nat.le_trans hfw b2.size; have ca2 : w2.cell? (ad.add P) = _ := (b2.cell (block_lt_add ca')).trans ca')
            | (at_builtin; go_must (refine app64 rfl _ _ rfl fz _ _ _ rfl (own2.alloc _) (le_alloc hfw2 _) _ [y] rfl (one64' _ y _ (by simp)) ho9 ?_); intro v5 w5 ho5 hg5; have hb5 : Below fz w w5 := (hbl2.alloc hfw2 _).grown hg5 (le_alloc hfw2 _) (fun m e => (own2.lt m e).1)))
          go_roundw
          case rel => exact ⟨k + 1, a, o ++ [y], by omega, by go_num, rfl, by rw [List.length_append, List.map_append]; exact ho5, HX, hb5⟩
          case measure => simp [intOf]; omega
          --]c
        · rw [hb, if_neg (by decide)] at hnx
          rw [hb] at cB
          by_cases haM2 : a < M
          · obtain ⟨bd', e, lb', cb2⟩ := sb.at a (by rw [HN.out.2.1]; exact haM2)
            cases e
            have cb2' : wr.cell? (bd.add a) = _ := (hbl.cell (by rw [add_block, ← HF.out]; exact lb')).trans cb2
            clear cb2
            by_cases he : d.getD a 0 = base.getD P 0
            · rw [if_pos (Or.inr he)] at hnx
              have HX : Hid (R = none) := HRR.out.symm.trans (docR_none (i := k + 1) (by rw [hz]; omega) hnx)
              clear hnx hb
              --[d
              have t60 : ¬ (60 : Int) ≤ ((k % 64 : Nat) : Int) := by omega
              have tN : ¬ (N : Int) ≤ (P : Int) := by omega
              have tP : (P : Int) < (N : Int) := by omega
              have tP0 : (0 : Int) ≤ (P : Int) := by omega
              clear hv
              have tM : ¬ (M : Int) ≤ (a : Int) := by omega
              have tM1 : (a : Int) < (M : Int) := by omega
              rw [he] at cb2'
              clear he
              generalize base.getD P 0 = y at ca' cb2'
              clear hz hP hkU
              generalize d.getD (k / 64) 0 = x at cb' cB
              generalize k / 64 = j6 at *
              generalize k % 64 = i7 at *
              have tj : (j6 : Int) < (M : Int) := by omega
              have tj0 : (0 : Int) ≤ (j6 : Int) := by omega
              have q7 := wrap_i (j6 : Int) (by omega) (by omega)
              have q8 := wrap_i (i7 : Int) (by omega) (by omega)
              go_wp2_with (go_at_call 21; go_must (refine (cB _).mono ?_); rintro e w2 ⟨rfl, b2⟩; have own2 := own_keepU hown b2; have hbl2 : Below fz w w2 := hbl.trans (b2.mono hfw); have hfw2 : fz ≤ w2.heap.size := Nat.le_trans hfw b2.size)
              have ca2 : w2.cell? (ad.add P) = _ := (b2.cell (block_lt_add ca')).trans ca'
              have cb3 : w2.cell? (bd.add a) = _ := (b2.cell (block_lt_add cb2')).trans cb2'
              go_quiet (fail)
              have ownV : (w2.drewN nq).ownsRow _ _ _ _ _ _ := own2
              have hblV : Below fz w (w2.drewN nq) := hbl2.trans (below_drewN (Below.refl _ _) _)
              have hfV : fz ≤ (w2.drewN nq).heap.size := hfw2
              have cbV : (w2.drewN nq).cell? (bd.add a) = _ := cb3
              generalize w2.drewN nq = V at *
              go_wp2
              go_ret2
              exact ⟨fun r h => (by rw [HX.out] at h; cases h), fun _ => rfl, (by first | exact hblV | (rw [HF.out]; exact hblV))⟩
              --]d
            · rw [if_neg (fun h => h.elim (by omega) he)] at hnx
              have HX : Hid (docS base d (k + 1) = some (a + 1, o ++ [d.getD a 0])) := hnx
              clear hnx hb
              --[e
              have t60 : ¬ (60 : Int) ≤ ((k % 64 : Nat) : Int) := by omega
              have tN : ¬ (N : Int) ≤ (P : Int) := by omega
              have tP : (P : Int) < (N : Int) := by omega
              have tP0 : (0 : Int) ≤ (P : Int) := by omega
              clear hv
              have tM : ¬ (M : Int) ≤ (a : Int) := by omega
              have tM1 : (a : Int) < (M : Int) := by omega
              generalize base.getD P 0 = y at ca' he
              generalize d.getD a 0 = z at cb2' he HX
              have heb : (z == y) = false := by simpa using he
              clear hz hP hkU
              generalize d.getD (k / 64) 0 = x at cb' cB
              generalize k / 64 = j6 at *
              generalize k % 64 = i7 at *
              have tj : (j6 : Int) < (M : Int) := by omega
              have tj0 : (0 : Int) ≤ (j6 : Int) := by omega
              have q7 := wrap_i (j6 : Int) (by omega) (by omega)
              have q8 := wrap_i (i7 : Int) (by omega) (by omega)
              go_wp2_with (go_at_call 21; go_must (refine (cB _).mono ?_); rintro e w2 ⟨rfl, b2⟩; have own2 := own_keepU hown b2; have hbl2 : Below fz w w2 := hbl.trans (b2.mono hfw); have hfw2 : fz ≤ w2.heap.size := Nat.le_trans hfw b2.size)
              have ca2 : w2.cell? (ad.add P) = _ := (b2.cell (block_lt_add ca')).trans ca'
              have cb3 : w2.cell? (bd.add a) = _ := (b2.cell (block_lt_add cb2')).trans cb2'
              go_quiet (fail)
              have ownV : (w2.drewN nq).ownsRow _ _ _ _ _ _ := own2
              have hblV : Below fz w (w2.drewN nq) := hbl2.trans (below_drewN (Below.refl _ _) _)
              have hfV : fz ≤ (w2.drewN nq).heap.size := hfw2
              have cbV : (w2.drewN nq).cell? (bd.add a) = _ := cb3
              generalize w2.drewN nq = V at *
              go_wp2_with (at_builtin; go_must (refine app64 rfl _ _ rfl fz _ _ _ rfl (ownV.alloc _) (le_alloc hfV _) _ [z] rfl (one64' _ z _ (by simp)) ho9 ?_); intro v5 w5 ho5 hg5; have hb5 : Below fz w w5 := (hblV.alloc hfV _).grown hg5 (le_alloc hfV _) (fun m e => (ownV.lt m e).1))
              go_roundw
              case rel => exact ⟨k + 1, a + 1, o ++ [z], by omega, by go_num, by go_num, by rw [List.length_append, List.map_append]; exact ho5, HX, hb5⟩
              case measure => simp [intOf]; omega
              --]e
          · rw [if_pos (Or.inl (by omega))] at hnx
            have HX : Hid (R = none) := HRR.out.symm.trans (docR_none (i := k + 1) (by rw [hz]; omega) hnx)
            clear hnx hb
            --[f
            have t60 : ¬ (60 : Int) ≤ ((k % 64 : Nat) : Int) := by omega
            have tN : ¬ (N : Int) ≤ (P : Int) := by omega
            have tP : (P : Int) < (N : Int) := by omega
            have tP0 : (0 : Int) ≤ (P : Int) := by omega
            clear hv
            have tM : (M : Int) ≤ (a : Int) := by omega
            clear hz hP hkU
            generalize d.getD (k / 64) 0 = x at cb' cB
            generalize k / 64 = j6 at *
            generalize k % 64 = i7 at *
            have tj : (j6 : Int) < (M : Int) := by omega
            have tj0 : (0 : Int) ≤ (j6 : Int) := by omega
            have q7 := wrap_i (j6 : Int) (by omega) (by omega)
            have q8 := wrap_i (i7 : Int) (by omega) (by omega)
            go_wp2_with (go_at_call 21; go_must (refine (cB _).mono ?_); rintro e w2 ⟨rfl, b2⟩; have own2 := own_keepU hown b2; have hbl2 : Below fz w w2 := hbl.trans (b2.mono hfw); have hfw2 : fz ≤ w2.heap.size := Nat.le_trans hfw b2.size)
            go_quiet (fail)
            have ownV : (w2.drewN nq).ownsRow _ _ _ _ _ _ := own2
            have hblV : Below fz w (w2.drewN nq) := hbl2.trans (below_drewN (Below.refl _ _) _)
            have hfV : fz ≤ (w2.drewN nq).heap.size := hfw2
            generalize w2.drewN nq = V at *
            go_wp2
            go_ret2
            exact ⟨fun r h => (by rw [HX.out] at h; cases h), fun _ => rfl, (by first | exact hblV | (rw [HF.out]; exact hblV))⟩
            --]f
    · obtain rfl : k = Z := by omega
      have hz : 64 * upS base.length = k := by rw [HN.out.2.2]; exact hZ
      by_cases haM2 : a < M
      · have HX : Hid (R = none) := by unfold Hid; rw [← HRR.out]; unfold docR; rw [hz, hs.out]; show (if a < d.length then none else _) = none; rw [if_pos (by rw [HN.out.2.1]; exact haM2)]
        have t1 : (a : Int) < (M : Int) := by omega
        clear hz
        --[g
        go_wp2
        go_ret2
        exact ⟨fun r h => (by rw [HX.out] at h; cases h), fun _ => rfl, (by first | exact hbl | (rw [HF.out]; exact hbl))⟩
        --]g
      · have HX : Hid (R = some o) := by unfold Hid; rw [← HRR.out]; unfold docR; rw [hz, hs.out]; show (if a < d.length then none else _) = _; rw [if_neg (by rw [HN.out.2.1]; exact haM2)]
        have t1 : ¬ (a : Int) < (M : Int) := by omega
        clear hz
        --[h
        go_wp2
        go_ret2
        exact ⟨fun r h => (by rw [HX.out] at h; cases h; exact ⟨_, rfl, Row.own hown⟩), fun h => (by rw [HX.out] at h; cases h), (by first | exact hbl | (rw [HF.out]; exact hbl))⟩
        --]h
end Go.Proofs.Ytehlibeedieclaa.Gr
