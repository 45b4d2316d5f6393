import Derived.Test.YtcokahccbjdeaabDoorStF
import Derived.Test.YtcokahccbjdeaabDoorStG
namespace Go.Proofs.YtcokahccbjdeaabDoor
open Go.RowKit

def loadOut : Option HeldS → Value
  | none => .tuple #[noHeld.v, .int .i64 8]
  | some h => .tuple #[h.v, .int .i64 0]
set_option maxRecDepth 100000 in
set_option maxHeartbeats 4000000 in
theorem load_held (w : World) (b g : Nat) (c : ChipS) (h : Dv w b g c) :
    Calls Tryd.prog 29 #[.pointer (some ⟨b, 0, none⟩)] w fun e w' => e = .returned (loadOut (loadM c.cells)) ∧ Below w.heap.size w w' := by
  have HM := fun wx (hb : Below w.heap.size w wx) => marked_any wx b g c (h.chip.below hb)
  have HN := fun wx (hb : Below w.heap.size w wx) => newest_page wx b g c (h.below hb)
  clear h
  have hb1 : ∀ o, Below w.heap.size w (w.alloc o) := fun o => (Below.refl _ _).alloc (Nat.le_refl _) o
  cases hm : markedM c.cells
  · have HL : Hid (loadM c.cells = none) := by unfold loadM Hid; rw [hm]; rfl
    rw [hm] at HM
    clear hm HN
    go_enter Tryd.func29, Tryd.ntmps29
    go_wp2_with (first
      | (go_at_call 49; refine (HM _ (hb1 _)).mono ?_; rintro en w2 ⟨rfl, rfl⟩))
    refine bodyPost_ret (v := .tuple #[noHeld.v, .int .i64 8]) (by simp [results, Tryd.results29, go_sem, HeldS.v, noHeld]) rfl ⟨by rw [HL.out]; rfl, hb1 _⟩
  · rw [hm] at HM
    cases hn : newestM c.cells with
    | none =>
      have HL : Hid (loadM c.cells = none) := by unfold loadM Hid; rw [hm, hn]; rfl
      rw [hn] at HN
      clear hm hn
      simp only [newOut, pageV, noHeld] at HN
      go_enter Tryd.func29, Tryd.ntmps29
      go_wp2_with (first
        | (go_at_call 49; refine (HM _ (hb1 _)).mono ?_; rintro en w2 ⟨rfl, rfl⟩)
        | (go_at_call 50; refine (HN _ (hb1 _)).mono ?_; rintro en w3 ⟨rfl, hb3⟩; have hA := (hb3.block _ (by simp)).trans (heap_alloc_new w _); have hA3 : w3.heap[w.heap.size]? = some (.cells noHeld.cs 62 (0, 0)) := hA; clear hA; obtain ⟨q0, q1, q2, q3, q4, q5, qf⟩ := held_cells_alloc hA3; simp only [noHeld] at q0 q1 q2 q3 q4 q5))
      refine bodyPost_ret (v := .tuple #[noHeld.v, .int .i64 8]) (by simp [results, Tryd.results29, go_sem, HeldS.v, noHeld, q0, q1, q2, q3, q4, q5]) rfl ⟨by rw [HL.out]; rfl, ?_⟩
      have hbw := (hb1 _).trans (hb3.mono (by simp))
      have hbA := hbw.alloc hbw.size (.cells (pageC 0 0 noHeld) 90)
      exact (((((hbA.setCell (Nat.le_refl _) _).setCell (Nat.le_refl _) _).setCell (Nat.le_refl _) _).setCell (Nat.le_refl _) _).setCell (Nat.le_refl _) _).setCell (Nat.le_refl _) _
    | some q =>
      obtain ⟨s, t, gd, fl, tr, ts, sz, gt⟩ := q
      have HL : Hid (loadM c.cells = some ⟨gd, fl, tr, ts, sz, gt⟩) := by unfold loadM Hid; rw [hm, hn]; rfl
      rw [hn] at HN
      clear hm hn
      simp only [newOut, pageV] at HN
      go_enter Tryd.func29, Tryd.ntmps29
      go_wp2_with (first
        | (go_at_call 49; refine (HM _ (hb1 _)).mono ?_; rintro en w2 ⟨rfl, rfl⟩)
        | (go_at_call 50; refine (HN _ (hb1 _)).mono ?_; rintro en w3 ⟨rfl, hb3⟩; have hA := (hb3.block _ (by simp)).trans (heap_alloc_new w _); have hA3 : w3.heap[w.heap.size]? = some (.cells noHeld.cs 62 (0, 0)) := hA; clear hA; obtain ⟨q0, q1, q2, q3, q4, q5, qf⟩ := held_cells_alloc hA3; simp only [noHeld] at q0 q1 q2 q3 q4 q5))
      refine bodyPost_ret (v := .tuple #[HeldS.v ⟨gd, fl, tr, ts, sz, gt⟩, .int .i64 0]) (by simp [results, Tryd.results29, go_sem, HeldS.v, q0, q1, q2, q3, q4, q5]) rfl ⟨by rw [HL.out]; rfl, ?_⟩
      have hbw := (hb1 _).trans (hb3.mono (by simp))
      have hbA := hbw.alloc hbw.size (.cells (pageC s t ⟨gd, fl, tr, ts, sz, gt⟩) 90)
      exact (((((hbA.setCell (Nat.le_refl _) _).setCell (Nat.le_refl _) _).setCell (Nat.le_refl _) _).setCell (Nat.le_refl _) _).setCell (Nat.le_refl _) _).setCell (Nat.le_refl _) _
end Go.Proofs.YtcokahccbjdeaabDoor
