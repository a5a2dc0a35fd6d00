/-
  The commit word: the document's.
-/
import Derived.Test.YtcfobifldlkfnaaNC
namespace Go.Proofs.Ytcfobifldlkfnaa.Gr
open Go.RowKit Go.Sort Qm Nm
set_option linter.unusedVariables false

/-- 2^56 by 256 so often -/
def dvd8 (k : Nat) : Nat := 72057594037927936 / 256 ^ k
theorem dvd8_succ (k : Nat) : dvd8 k / 256 = dvd8 (k + 1) := by unfold dvd8; rw [Nat.div_div_eq_div_mul, Nat.pow_succ]
theorem dvd8_le (k : Nat) : dvd8 k ≤ 72057594037927936 := Nat.div_le_self _ _
theorem dvd8_eq {k : Nat} (h : k < 8) : dvd8 k = 256 ^ (7 - k) := by
  rcases (by omega : k = 0 ∨ k = 1 ∨ k = 2 ∨ k = 3 ∨ k = 4 ∨ k = 5 ∨ k = 6 ∨ k = 7) with rfl | rfl | rfl | rfl | rfl | rfl | rfl | rfl <;> rfl
theorem div8 (x : Int) (k : Nat) (hk : k < 8) : ((uo x / dvd8 k % 256 : Nat) : Int) = iv (dig (uo x) k) := by
  unfold iv; rw [dig_nat, dvd8_eq hk]
theorem tdiv_nat (a b : Nat) : (a : Int).tdiv (b : Int) = ((a / b : Nat) : Int) := by
  rw [Int.tdiv_eq_ediv_of_nonneg (Int.natCast_nonneg a)]; rfl
theorem tmod_nat (a b : Nat) : (a : Int).tmod (b : Int) = ((a % b : Nat) : Int) := by
  rw [Int.tmod_eq_emod_of_nonneg (Int.natCast_nonneg a)]; rfl
theorem wrap_u64n (a : Nat) (h : a < 18446744073709551616) : IntKind.u64.wrap (a : Int) = (a : Int) := by rw [wrap_u64']; omega
set_option maxRecDepth 20000 in
set_option maxHeartbeats 2000000 in
theorem rcommit_any (v : Value) (ws : List Int) (w : World) (hn : ws.length ≤ 1000) (hs : SeesI w v ws) :
    Calls Try.prog 20 #[v] w fun e w' => e = .returned (.int .i64 (comS ws)) ∧ Below w.heap.size w w' := by
  obtain ⟨ao, cap, rfl⟩ := hs.slice
  have cO := fun (u : World) (b : Value) (sb : SeesB u b (lays ws ws.length)) => rof_any b (lays ws ws.length) u (by rw [lays_len ws (Nat.le_refl _)]; omega) sb
  have HC : Hid (comS ws = iv (ofS (lays ws ws.length)) + 4294967296) := by unfold Hid comS lays; rw [List.take_length, Int.add_comm]
  have hO := iv_lt32 (ofS (lays ws ws.length))
  generalize comS ws = C at HC ⊢
  generalize ofS (lays ws ws.length) = O at cO HC hO
  have HL := fun k (h : k < ws.length) => lays_succ h
  have Hl0 : Hid (lays ws 0 = []) := rfl
  have hll := fun k (h : k ≤ ws.length) => lays_len ws h
  obtain ⟨L, hL⟩ : ∃ L, lays ws = L := ⟨_, rfl⟩
  rw [hL] at cO HL Hl0 hll
  obtain ⟨n, hn'⟩ : ∃ n, ws.length = n := ⟨_, rfl⟩
  have HN : Hid (ws.length = n) := hn'
  rw [hn'] at hn cO HL hll ⊢
  have HS : Hid (SeesI w (.slice ao n cap) ws) := by rw [← hn']; exact hs
  have hgo := fun (k : Nat) (hk : k < n) => (HS.out).at k (by rw [HN.out]; exact hk)
  obtain ⟨fz, hfz⟩ : ∃ fz, w.heap.size = fz := ⟨_, rfl⟩
  have HF : Hid (w.heap.size = fz) := hfz
  have b1 : Below fz w w := Below.refl _ _
  have ho0 : w.ownsRow fz 5 1 (.slice none 0 0) (8 * 0) ((L 0).map vb) := by rw [Hl0.out]; exact ⟨rfl, .inl ⟨rfl, rfl⟩⟩
  clear hn' hs hL hfz
  go_enter Try.func20, Try.ntmps20
  go_wp2
  go_loopw [4, 3] (fun i b wr => ∃ k : Nat, k ≤ n ∧ i = .int .i64 k ∧ wr.ownsRow fz 5 1 b (8 * k) ((L k).map vb) ∧ Below fz w wr) (fun i _ _ => n - (intOf i).toNat)
  case atStart => exact ⟨0, Nat.zero_le _, rfl, ho0, b1⟩
  case round =>
    clear ho0 b1
    obtain ⟨k, hk, rfl, hown, hbl⟩ := hrel
    have hfw : fz ≤ wr.heap.size := by have := hbl.size; have := HF.out; omega
    by_cases hlt : k < n
    · obtain ⟨ad, rfl, la, ca⟩ := hgo k hlt
      have ca' : wr.cell? (ad.add k) = _ := (hbl.cell (by rw [add_block, ← HF.out]; exact la)).trans ca
      have hla : ad.block < w.heap.size := la
      have hcw : Hid (∀ u, Below fz w u → u.cell? (ad.add k) = some (vw (ws.getD k 0))) := fun u hb => (hb.cell (by rw [add_block, ← HF.out]; exact la)).trans ca
      have HX := HL k hlt
      have hll1 := hll k hk
      have d1 : decide ((k : Int) < (n : Int)) = true := by simp; omega
      clear ca ca' hgo HL hll cO la hla
      generalize ws.getD k 0 = x at hcw HX
      have HX' : Hid (L (k + 1) = L k ++ some8 x 8) := HX
      have Hs8 : Hid (∀ j : Nat, j < 8 → ((uo x / dvd8 j % 256 : Nat) : Int) = iv (dig (uo x) j)) := div8 x
      have He8 : Hid (∀ j : Nat, some8 x (j + 1) = some8 x j ++ [dig (uo x) j]) := fun j => some8_succ x j
      have hown0 : wr.ownsRow fz 5 1 u3 (8 * k + 0) ((L k ++ some8 x 0).map vb) := by simpa [some8] using hown
      have hU : IntKind.u64.wrap x = (uo x : Int) := by rw [wrap_u64', uo_cast]
      have hU2 := uo_lt x
      generalize uo x = U at hU hU2 Hs8 He8
      clear HX hown
      go_wp2
      go_loopw [6, 5, 3] (fun i d b wt => ∃ j : Nat, j ≤ 8 ∧ i = .int .i64 j ∧ d = .int .u64 (dvd8 j) ∧ wt.ownsRow fz 5 1 b (8 * k + j) ((L k ++ some8 x j).map vb) ∧ Below fz w wt) (fun i _ _ _ => 8 - (intOf i).toNat)
      case atStart => exact ⟨0, by omega, rfl, rfl, hown0, hbl⟩
      case round =>
        clear hown0
        obtain ⟨j, hj, rfl, rfl, hown, hbt⟩ := hrel
        have hft : fz ≤ wr.heap.size := by have := hbt.size; have := HF.out; omega
        have hds := dvd8_succ j
        have hdl := dvd8_le j
        by_cases hlj : j < 8
        · have hc := hcw.out wr hbt
          have hb := Hs8.out j hlj
          have hb2 := He8.out j
          have hdp : 0 < dvd8 j := by rw [dvd8_eq hlj]; exact Nat.pow_pos (by omega)
          generalize dig U j = D at hb hb2
          obtain ⟨V', hV'⟩ : ∃ V', dvd8 (j + 1) = V' := ⟨_, rfl⟩
          have HV' : Hid (dvd8 (j + 1) = V') := hV'
          rw [hV'] at hds
          clear hV'
          generalize dvd8 j = V at *
          have t1 := tdiv_nat U V
          have hqu : U / V ≤ U := Nat.div_le_self _ _
          generalize U / V = Q at t1 hb hqu
          have t2 : (Q : Int).tmod 256 = ((Q % 256 : Nat) : Int) := tmod_nat Q 256
          have hrm : Q % 256 < 256 := Nat.mod_lt _ (by omega)
          generalize Q % 256 = R at t2 hb hrm
          have t3 : (V : Int).tdiv 256 = ((V / 256 : Nat) : Int) := tdiv_nat V 256
          rw [hds] at t3
          have hv' : V' ≤ V := by rw [← hds]; exact Nat.div_le_self _ _
          have w1 := wrap_u64n Q (by omega)
          have w2 := wrap_u64n R (by omega)
          have w3 := wrap_u64n V' (by omega)
          have w4 : IntKind.u8.wrap (R : Int) = iv D := by rw [IntKind.wrap_u8', ← hb]; omega
          have w5 : (R : Int) % 256 = iv D := by rw [← hb]; omega
          have hb3 : Hid (some8 x (j + 1) = some8 x j ++ [D]) := hb2
          have hV0 : ¬ (V : Int) = 0 := by omega
          have d2 : decide ((j : Int) < 8) = true := by simp; omega
          clear hb2 hb hds
          go_wp2_with (at_builtin; go_must (refine app8 rfl _ _ rfl fz _ (8 * k + j) _ rfl (hown.alloc _) (le_alloc hft _) _ 1 1 [D] rfl (one8 _ D) (by simp; omega) ?_); intro v5 w5 ho5 hg5; have hb5 : Below fz w w5 := (hbt.alloc hft _).grown hg5 (le_alloc hft _) (fun m e => (hown.lt m e).1))
          go_roundw
          case rel => exact ⟨j + 1, by omega, by go_num, by rw [HV'.out], by rw [hb3.out, ← List.append_assoc, List.map_append]; exact ho5, hb5⟩
          case measure => simp [intOf]; omega
        · obtain rfl : j = 8 := by omega
          rw [← HX'.out] at hown
          go_wp2
          go_roundw
          case rel => exact ⟨k + 1, by omega, by go_num, hown, hbt⟩
          case measure => simp [intOf]; omega
    · obtain rfl : k = n := by omega
      have sB : SeesB wr _ (L k) := Row.own hown
      have h1 := hO.1
      have h2 := hO.2
      have HZ : Hid (iv O + 4294967296 = C) := HC.out.symm
      generalize iv O = Z at cO HZ h1 h2
      clear HC hO
      go_wp2_with (go_at_call 32; go_must (refine (cO _ _ sB).mono ?_); rintro e w6 ⟨rfl, rfl⟩)
      go_ret
      exact ⟨by rw [← HZ.out]; rfl, by rw [HF.out]; exact hbl⟩
end Go.Proofs.Ytcfobifldlkfnaa.Gr
