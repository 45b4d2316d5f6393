import Derived.Test.YtcokahccbjdeaabDoorCoD
import Derived.Deep.RegionHeld3
namespace Go.Proofs.YtcokahccbjdeaabDoor
open Go.RowKit

/-- A ship with its device, and what it holds. -/
def Rd (B N : Nat) (w : World) (k : Nat) (run : Int) (r : RefS) : Prop := ∃ b g q c L, Ship B w k b g q c run L ∧ Rel c r ∧ r.made = true ∧ c.ops ≤ (N : Int)
theorem Rd.up {B N M : Nat} {w : World} {k : Nat} {run : Int} {r : RefS} (h : Rd B N w k run r) (hm : N ≤ M) : Rd B M w k run r := by
  obtain ⟨b, g, q, c, L, S, R, m, o⟩ := h
  exact ⟨b, g, q, c, L, S, R, m, by omega⟩
theorem Rd.below {B N : Nat} {w w' : World} {k : Nat} {run : Int} {r : RefS} (h : Rd B N w k run r) (hb : Below w.heap.size w w') : Rd B N w' k run r ∧ FrS B w w' := by
  obtain ⟨b, g, q, c, L, S, R, m, o⟩ := h
  exact ⟨⟨b, g, q, c, L, (S.below hb).1, R, m, o⟩, (S.below hb).2⟩
theorem Rel.oks {c : ChipS} {r : RefS} (h : Rel c r) : ∀ x, loadM c.cells = some x → x.ok := by
  intro x hx
  cases hm : r.made
  · rw [h.no hm] at hx; cases hx
  · obtain ⟨h1, h2⟩ := h.yes hm
    rw [h1] at hx
    simp only [Option.some.injEq] at hx
    rw [← hx]; exact h2
theorem reopened_rd (w : World) (B N k : Nat) (run : Int) (r : RefS) (h : Rd B N w k run r) :
    Calls Tryd.prog 16 #[.pointer (some ⟨k, 0, none⟩)] w fun e w' => e = .returned (.bool true) ∧ Rd B 128 w' k 0 r ∧ FrS B w w' := by
  obtain ⟨b, g, q, c, L, S, R, m, o⟩ := h
  refine (reopened_any w B k b g c _ L r.h S.s (R.yes m).1).mono ?_
  rintro e w' ⟨rfl, ⟨b', g', q', S'⟩, F⟩
  obtain ⟨R', o'⟩ := moved_rel R S.s.dv.chip.len
  exact ⟨rfl, ⟨b', g', q', _, _, S', R', m, o'⟩, F⟩
end Go.Proofs.YtcokahccbjdeaabDoor
