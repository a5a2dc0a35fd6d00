/-
  The contract of the head of each statement on sum.
-/
import Derived.Test.YtgamakjhndlffaaCW
import Derived.Lib.SlBytesConst
namespace Go.Proofs.Ytgamakjhndlffaa.Gr
open Go.RowKit Qm

theorem open_seal (bs : List (BitVec 8)) : openS (sealS bs) = bs ∧ openE (sealS bs) = 0 := by
  unfold openS openE
  rw [seal_ok, seal_open]
  have : ¬ (sealS bs).length < 4 := by rw [sealS_len]; omega
  rw [if_neg this]
  exact ⟨rfl, rfl⟩
def nine : List (BitVec 8) := [49#8, 50#8, 51#8, 52#8, 53#8, 54#8, 55#8, 56#8, 57#8]
theorem nine_of : iv (ofS nine) = 3421780262 := by kernel_rfl
theorem const_sees (w : World) (bs : List (BitVec 8)) (C : Array Value) (h : (bs.map vb).toArray = C) (n : Nat) (hn : bs.length = n) : SeesB (w.alloc (.cells C 5 (n, n + 1))) (.slice (some ⟨w.heap.size, 0, none⟩) n n) bs := by
  subst hn
  refine ⟨some ⟨w.heap.size, 0, none⟩, bs.length, by rw [List.length_map], ⟨by rw [List.length_map]; exact Nat.le_refl _, fun e => by cases e⟩, fun k u hu => ⟨_, rfl, by simp, ?_⟩⟩
  have ha : (⟨w.heap.size, 0, none⟩ : Addr).add k = ⟨w.heap.size, k, none⟩ := by unfold Addr.add; split <;> simp_all
  rw [ha, cell_of_row _ _ k C 5 _ (heap_new w _), ← h]
  simpa using hu
def nineV : Array Value := #[.int .u8 49, .int .u8 50, .int .u8 51, .int .u8 52, .int .u8 53, .int .u8 54, .int .u8 55, .int .u8 56, .int .u8 57]

set_option maxRecDepth 20000 in
set_option maxHeartbeats 800000 in
theorem shown_any (w : World) : Calls Try.prog 8 #[] w fun e w' => e = .returned (.bool true) ∧ Below w.heap.size w w' := by
  have k1 := const_sees w [97#8] #[.int .u8 97] rfl 1 rfl
  have q1 := Lib.run_convert_bytes_const (P := Try.prog) w 23 5 #[.int .u8 97] 1 1 under23 under5
  have c1 := seal_any _ [97#8] (by decide) _ k1
  have k2 := fun u => const_sees u nine #[.int .u8 49, .int .u8 50, .int .u8 51, .int .u8 52, .int .u8 53, .int .u8 54, .int .u8 55, .int .u8 56, .int .u8 57] (by kernel_rfl) 9 rfl
  have q2 := fun u => Lib.run_convert_bytes_const (P := Try.prog) u 23 5 #[.int .u8 49, .int .u8 50, .int .u8 51, .int .u8 52, .int .u8 53, .int .u8 54, .int .u8 55, .int .u8 56, .int .u8 57] 9 9 under23 under5
  have hE := (open_seal [97#8]).2
  have hS := (open_seal [97#8]).1
  have hlen : (sealS [97#8]).length ≤ 3500 := by rw [sealS_len]; decide
  have c2 := fun (u : World) v (h : SeesB u v (sealS [97#8])) => open_any v (sealS [97#8]) hlen u h
  rw [hE, hS] at c2
  have c3 := fun (u : World) v (h : SeesB u v nine) => of_any v nine u (by decide) h
  rw [nine_of] at c3
  have HS : Hid (∀ (b : World) (v : Value) B, b.ownsRow B 5 1 v ([97#8].length + 4) ((sealS [97#8]).map vb) → SeesB b v (sealS [97#8])) := fun b v B h => Row.own h
  have b0 := box_below w (.cells #[.int .u8 97] 5 (1, 2))
  clear hE hS hlen
  generalize sealS [97#8] = Z at c1 c2 HS
  go_enter Try.func8, Try.ntmps8
  go_upto_region 2 with (first
    | (go_at_call 18; refine c1.mono ?_; rintro e w1 ⟨g, G, rfl, ho1, b1⟩; have hs1 := HS.out _ _ _ ho1)
    | (go_at_call 9; refine (c2 _ _ hs1).mono ?_; rintro e w2 ⟨v2, rfl, hs2, b2⟩))
  have B := bt (bt b0 b1) b2
  clear b0 b1 b2 k1 c1 c2 hs1 ho1 HS
  obtain ⟨ao, cap, rfl⟩ := hs2.slice
  obtain ⟨ad, rfl, hl, hc0⟩ := hs2.at 0 (by decide)
  have hc : w2.cell? ad = some (.int .u8 97) := hc0
  have b5 := box_below w2 (.cells #[.int .u8 49, .int .u8 50, .int .u8 51, .int .u8 52, .int .u8 53, .int .u8 54, .int .u8 55, .int .u8 56, .int .u8 57] 5 (9, 10))
  go_wp2_with (go_at_call 15; refine (c3 _ _ (k2 _)).mono ?_; rintro e w3 ⟨rfl, b3⟩; have hc3 := ((bt b5 b3).cell hl).trans hc)
  go_ret
  exact ⟨rfl, bt B (bt b5 b3)⟩
end Go.Proofs.Ytgamakjhndlffaa.Gr
