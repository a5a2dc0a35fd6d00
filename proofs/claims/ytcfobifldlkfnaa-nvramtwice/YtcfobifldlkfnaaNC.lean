/-
  The commit word: the code's and the document's.
-/
import Derived.Test.YtcfobifldlkfnaaNM
import Derived.Test.YtcfobifldlkfnaaAB
namespace Go.Proofs.Ytcfobifldlkfnaa.Gr
open Go.RowKit Go.Sort Qm Nm
set_option linter.unusedVariables false

/-- the bytes of so many words, and of so many bytes of the next one -/
def lays (ws : List Int) (k : Nat) : List (BitVec 8) := layS (ws.take k)
theorem lays_succ {ws : List Int} {k : Nat} (h : k < ws.length) : lays ws (k + 1) = lays ws k ++ some8 (ws.getD k 0) 8 := by
  unfold lays
  rw [List.take_add_one, List.getD_eq_getElem?_getD, List.getElem?_eq_getElem h]
  exact layS_snoc _ _
theorem lays_len (ws : List Int) {k : Nat} (h : k ≤ ws.length) : (lays ws k).length = 8 * k := by unfold lays; rw [layS_len, List.length_take]; omega
theorem some8_len (x : Int) (k : Nat) : (some8 x k).length = k := by unfold some8; simp
theorem wrapBig (x : Int) (h0 : 0 ≤ x) (h1 : x < 4294967296) : wrap64 x = x := by unfold wrap64; omega

set_option maxRecDepth 20000 in
set_option maxHeartbeats 2000000 in
theorem commit_any (v : Value) (ws : List Int) (w : World) (hn : ws.length ≤ 1000) (hs : SeesI w v ws) :
    Calls Try.prog 19 #[v] w fun e w' => e = .returned (.int .i64 (comS ws)) ∧ Below w.heap.size w w' := by
  obtain ⟨ao, cap, rfl⟩ := hs.slice
  have cO := fun (u : World) (b : Value) (sb : SeesB u b (lays ws ws.length)) => of_any b (lays ws ws.length) u (by rw [lays_len ws (Nat.le_refl _)]; omega) sb
  have HC : Hid (comS ws = 4294967296 + iv (ofS (lays ws ws.length))) := by unfold Hid comS lays; rw [List.take_length]
  have hO := iv_lt32 (ofS (lays ws ws.length))
  generalize comS ws = C at HC ⊢
  generalize ofS (lays ws ws.length) = O at cO HC hO
  have HL := fun k (h : k < ws.length) => lays_succ h
  have Hl0 : Hid (lays ws 0 = []) := rfl
  have hll := fun k (h : k ≤ ws.length) => lays_len ws h
  obtain ⟨L, hL⟩ : ∃ L, lays ws = L := ⟨_, rfl⟩
  rw [hL] at cO HL Hl0 hll
  obtain ⟨n, hn'⟩ : ∃ n, ws.length = n := ⟨_, rfl⟩
  have HN : Hid (ws.length = n) := hn'
  rw [hn'] at hn cO HL hll ⊢
  have HS : Hid (SeesI w (.slice ao n cap) ws) := by rw [← hn']; exact hs
  have hgo := fun (k : Nat) (hk : k < n) => (HS.out).at k (by rw [HN.out]; exact hk)
  obtain ⟨fz, hfz⟩ : ∃ fz, w.heap.size = fz := ⟨_, rfl⟩
  have HF : Hid (w.heap.size = fz) := hfz
  clear hn' hs hL
  go_enter Try.func19, Try.ntmps19
  go_wp2_with (at_make; refine make80 rfl _ _ rfl (8 * (n : Int)) (8 * n) rfl (by simp [Act.eval]) (by omega) (by omega) ?_; intro w1 ho1 b1)
  rw [hfz] at ho1 b1
  have ho0 : w1.ownsRow fz 5 1 (.slice (some ⟨fz, 0, none⟩) 0 (8 * n)) (8 * 0) ((L 0).map vb) := by rw [Hl0.out]; exact ho1
  clear ho1 hfz
  go_loopw [13, 3] (fun i b wr => ∃ k : Nat, k ≤ n ∧ i = .int .i64 k ∧ wr.ownsRow fz 5 1 b (8 * k) ((L k).map vb) ∧ Below fz w wr) (fun i _ _ => n - (intOf i).toNat)
  case atStart => exact ⟨0, Nat.zero_le _, rfl, ho0, b1⟩
  case round =>
    clear ho0 b1
    obtain ⟨k, hk, rfl, hown, hbl⟩ := hrel
    have hfw : fz ≤ wr.heap.size := by have := hbl.size; have := HF.out; omega
    by_cases hlt : k < n
    · obtain ⟨ad, rfl, la, ca⟩ := hgo k hlt
      have ca' : wr.cell? (ad.add k) = _ := (hbl.cell (by rw [add_block, ← HF.out]; exact la)).trans ca
      have HX := HL k hlt
      have hll1 := hll k hk
      have d1 : decide ((k : Int) < (n : Int)) = true := by simp; omega
      clear ca hgo HL hll cO la
      generalize ws.getD k 0 = x at ca' HX
      have e8 := fun j => some8_succ x j
      have el := fun j => some8_len x j
      have HX' : Hid (L (k + 1) = L k ++ some8 x 8) := HX
      have Hs8 : Hid (∀ j : Nat, j < 8 → IntKind.u64.wrap x / (2 : Int) ^ (56 - 8 * j) % 256 = iv (dig (uo x) j)) := shr8' x
      have He8 : Hid (∀ j : Nat, some8 x (j + 1) = some8 x j ++ [dig (uo x) j]) := e8
      have hown0 : wr.ownsRow fz 5 1 u3 (8 * k + 0) ((L k ++ some8 x 0).map vb) := by simpa [some8] using hown
      clear HX e8 el hown
      go_wp2
      go_loopw [6, 3] (fun i b wt => ∃ j : Nat, j ≤ 8 ∧ i = .int .i64 (56 - 8 * (j : Int)) ∧ wt.ownsRow fz 5 1 b (8 * k + j) ((L k ++ some8 x j).map vb) ∧ Below fz w wt) (fun i _ _ => (intOf i + 8).toNat)
      case atStart => exact ⟨0, by omega, rfl, hown0, hbl⟩
      case round =>
        clear hown0 ca'
        obtain ⟨j, hj, rfl, hown, hbt⟩ := hrel
        have hft : fz ≤ wr.heap.size := by have := hbt.size; have := HF.out; omega
        by_cases hlj : j < 8
        · have hb := Hs8.out j hlj
          have hb2 := He8.out j
          generalize dig (uo x) j = D at hb hb2
          have hb3 : Hid (some8 x (j + 1) = some8 x j ++ [D]) := hb2
          have d2 : decide ((0 : Int) ≤ 56 - 8 * (j : Int)) = true := by simp; omega
          clear hb2
          go_wp2_with (at_builtin; go_must (refine app8 rfl _ _ rfl fz _ (8 * k + j) _ rfl (hown.alloc _) (le_alloc hft _) _ 1 1 [D] rfl (one8 _ D) (by simp; omega) ?_); intro v5 w5 ho5 hg5; have hb5 : Below fz w w5 := (hbt.alloc hft _).grown hg5 (le_alloc hft _) (fun m e => (hown.lt m e).1))
          go_roundw
          case rel => exact ⟨j + 1, by omega, by congr 1; omega, by rw [hb3.out, ← List.append_assoc, List.map_append]; exact ho5, hb5⟩
          case measure => simp [intOf]; omega
        · obtain rfl : j = 8 := by omega
          rw [← HX'.out] at hown
          go_wp2
          go_roundw
          case rel => exact ⟨k + 1, by omega, by go_num, hown, hbt⟩
          case measure => simp [intOf]; omega
    · obtain rfl : k = n := by omega
      have sB : SeesB wr _ (L k) := Row.own hown
      have h1 := hO.1
      have h2 := hO.2
      have hw9 := wrapBig (iv O) h1 h2
      have HZ : Hid (4294967296 + iv O = C) := HC.out.symm
      generalize iv O = Z at cO HZ h1 h2 hw9
      clear HC hO
      go_wp2_with (go_at_call 31; go_must (refine (cO _ _ sB).mono ?_); rintro e w6 ⟨rfl, b6⟩)
      go_ret
      exact ⟨by rw [← HZ.out]; rfl, by rw [HF.out]; exact hbl.trans (b6.mono hfw)⟩
end Go.Proofs.Ytcfobifldlkfnaa.Gr
