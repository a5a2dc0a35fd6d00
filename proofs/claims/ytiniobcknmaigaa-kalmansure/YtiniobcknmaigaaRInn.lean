/-
  The contracts of the document's Same of tracks, and of Innov.
-/
import Derived.Test.YtiniobcknmaigaaRMid
import Derived.Test.YtiniobcknmaigaaRSame
namespace Go.Proofs.Ytiniobcknmaigaa
open Go.RowKit Go.Sort Qm

theorem six_cells {w : World} {b : Nat} {x y z u v t : Value} {T : TypeId} (h : w.heap[b]? = some (.cells #[x, y, z, u, v, t] T (0, 0))) :
    w.cell? ⟨b, 0, none⟩ = some x ∧ w.cell? ⟨b, 1, none⟩ = some y ∧ w.cell? ⟨b, 2, none⟩ = some z ∧ w.cell? ⟨b, 3, none⟩ = some u ∧ w.cell? ⟨b, 4, none⟩ = some v ∧ w.cell? ⟨b, 5, none⟩ = some t := by
  simp [World.cell?, h]
theorem six_free {w : World} {b : Nat} {x y z u v t : Value} {T : TypeId} (h : w.heap[b]? = some (.cells #[x, y, z, u, v, t] T (0, 0))) :
    w.frozen? ⟨b, 0, none⟩ = false ∧ w.frozen? ⟨b, 1, none⟩ = false ∧ w.frozen? ⟨b, 2, none⟩ = false ∧ w.frozen? ⟨b, 3, none⟩ = false ∧ w.frozen? ⟨b, 4, none⟩ = false ∧ w.frozen? ⟨b, 5, none⟩ = false := by
  simp [World.frozen?, h]
theorem Sees.first {w : World} {v : Value} {xs : List Int} (h : Sees w v xs) (hl : xs.length = 1) : ∃ a cap, v = .slice (some a) 1 cap ∧ a.block < w.heap.size ∧ w.cell? a = some (.int .i64 (ge xs 0)) := by
  obtain ⟨ao, cap, rfl, hc⟩ := h
  obtain ⟨ad, rfl, h1, h2⟩ := hc 0 (by omega)
  have e : ad.add 0 = ad := by
    obtain ⟨b, o, m⟩ := ad
    cases m <;> simp [Addr.add]
  rw [e] at h2
  exact ⟨ad, cap, by rw [hl], h1, h2⟩

theorem old_cell' {w : World} {a : Addr} {v : Value} (h : w.cell? a = some v) (hb : a.block < w.heap.size) (x : Obj) : (w.alloc x).cell? a = some v :=
  (((Below.refl _ _).alloc (Nat.le_refl _) x).cell (p := a) hb).trans h
namespace Qm
def inY (n : Nat) (xs hs : List Int) (z : Int) : Int := sub z (ge (prd 1 n 1 hs xs) 0)
def inS (n : Nat) (ps hs : List Int) (r : Int) : Int := add (ge (midL 1 n hs ps) 0) r
def inF (n : Nat) (xs ps hs : List Int) (z r : Int) : Bool := prdB 1 n 1 hs xs || subB z (ge (prd 1 n 1 hs xs) 0) || midB 1 n hs ps || addB (ge (midL 1 n hs ps) 0) r
end Qm

end Go.Proofs.Ytiniobcknmaigaa
