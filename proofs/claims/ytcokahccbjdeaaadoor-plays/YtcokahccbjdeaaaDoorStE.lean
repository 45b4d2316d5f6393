import Derived.Test.YtcokahccbjdeaaaDoorStC
import Derived.Test.YtcokahccbjdeaaaDoorStD
namespace Go.Proofs.YtcokahccbjdeaaaDoor
open Go.RowKit

set_option maxRecDepth 100000 in
set_option maxHeartbeats 2000000 in
theorem read_page (w : World) (b g : Nat) (c : ChipS) (s : Nat) (hs : s < 2) (h : Dv w b g c) :
    Calls Tryd.prog 82 #[.pointer (some ⟨b, 0, none⟩), .int .i64 s] w fun e w' => e = .returned (pageOut s (pageM (sectorOf c.cells s))) ∧ Below w.heap.size w w' := by
  obtain ⟨T, hT⟩ : ∃ T, T = mk (sectorOf c.cells s) := ⟨_, rfl⟩
  have HR : ∀ wx, Below w.heap.size w wx → Calls Tryd.prog 58 #[.pointer (some ⟨b, 0, none⟩), .int .i64 ((s : Int) * 256), .int .i64 256] wx fun e w' => e = .returned (.string T) ∧ w' = wx := by
    intro wx hb
    have := read_any wx b g c ((s : Int) * 256) 256 (by omega) (by omega) (by omega) (by omega) (h.chip.below hb)
    rw [read_sector c s (by omega)] at this
    rw [hT]; exact this
  have hTs : T.size = 256 := by rw [hT, mk_size, sector_len _ _ h.chip.len (by omega)]
  have hTl : Hid (T.data.toList = sectorOf c.cells s) := by rw [hT]; exact mk_data _
  have hT0 : Hid ((sectorOf c.cells s).getD 0 0 = T[0]) := by rw [Hid, ← hTl.out]; exact ba_getD T 0 (by omega)
  have HD := fun wx => decode_page wx T hTs
  have HN := fun wx (hb : Below w.heap.size w wx) => turnOf_any wx T[0] (h.turns.below hb)
  have hTI : (T.size : Int) = 256 := by omega
  clear hT h
  rw [hTl.out] at HD
  cases ht : turnB T[0] with
  | none =>
    rw [ht] at HN
    have HP : Hid (pageM (sectorOf c.cells s) = none) := by unfold pageM Hid; rw [hT0.out, ht]
    clear ht HD
    go_enter Tryd.func82, Tryd.ntmps82
    go_wp2_with (first
      | (go_at_call 58; refine (HR _ ((Below.refl _ _).alloc (Nat.le_refl _) _)).mono ?_; rintro en w2 ⟨rfl, rfl⟩)
      | (go_at_call 95; refine (HN _ ((Below.refl _ _).alloc (Nat.le_refl _) _)).mono ?_; rintro en w3 ⟨rfl, rfl⟩))
    refine bodyPost_ret (v := .tuple #[pageV 0 0 noHeld, .bool false]) (by simp [results, Tryd.results82, go_sem, pageV, noHeld]) rfl ⟨by rw [HP.out]; rfl, (Below.refl _ _).alloc (Nat.le_refl _) _⟩
  | some t =>
    rw [ht] at HN
    cases hq : decPage (sectorOf c.cells s) with
    | none =>
      have HP : Hid (pageM (sectorOf c.cells s) = none) := by unfold pageM Hid; rw [hT0.out, ht]; simp only [hq]; rfl
      rw [hq] at HD
      clear ht hq
      go_enter Tryd.func82, Tryd.ntmps82
      go_wp2_with (first
        | (go_at_call 58; refine (HR _ ((Below.refl _ _).alloc (Nat.le_refl _) _)).mono ?_; rintro en w2 ⟨rfl, rfl⟩)
        | (go_at_call 95; refine (HN _ ((Below.refl _ _).alloc (Nat.le_refl _) _)).mono ?_; rintro en w3 ⟨rfl, rfl⟩)
        | (go_at_call 96; refine (HD _).mono ?_; rintro en w4 ⟨⟨gd, fl, tr, ts, sz, gt⟩, rfl, _, hb4⟩; simp only [HeldS.v]; have hZ4 := (hb4.block _ (by simp)).trans (heap_alloc_new w _); have hZ5 : w4.heap[w.heap.size]? = some (.cells (pageC 0 0 noHeld) 110 (0, 0)) := hZ4; obtain ⟨q0, q1, q2, q3, q4, q5, q6, q7, qf⟩ := page_cells_alloc hZ5; clear hZ4))
      simp only [noHeld] at q2 q3 q4 q5 q6 q7
      refine bodyPost_ret (v := .tuple #[pageV 0 0 noHeld, .bool false]) (by simp [results, Tryd.results82, go_sem, pageV, noHeld, q0, q1, q2, q3, q4, q5, q6, q7]) rfl ⟨by rw [HP.out]; rfl, ?_⟩
      have hbT : Below w.heap.size w w4 := ((Below.refl _ _).alloc (Nat.le_refl _) _).trans (hb4.mono (by simp))
      have hbA := hbT.alloc hbT.size (.cells (HeldS.cs ⟨gd, fl, tr, ts, sz, gt⟩) 72)
      exact (((((((hbA.setCell (Nat.le_refl _) _).setCell (Nat.le_refl _) _).setCell (Nat.le_refl _) _).setCell (Nat.le_refl _) _).setCell (Nat.le_refl _) _).setCell (Nat.le_refl _) _).setCell (Nat.le_refl _) _).setCell (Nat.le_refl _) _
    | some H =>
      have HP : Hid (pageM (sectorOf c.cells s) = some (t, H)) := by unfold pageM Hid; rw [hT0.out, ht]; simp only [hq]; rfl
      rw [hq] at HD
      clear ht hq
      go_enter Tryd.func82, Tryd.ntmps82
      go_wp2_with (first
        | (go_at_call 58; refine (HR _ ((Below.refl _ _).alloc (Nat.le_refl _) _)).mono ?_; rintro en w2 ⟨rfl, rfl⟩)
        | (go_at_call 95; refine (HN _ ((Below.refl _ _).alloc (Nat.le_refl _) _)).mono ?_; rintro en w3 ⟨rfl, rfl⟩)
        | (go_at_call 96; refine (HD _).mono ?_; rintro en w4 ⟨h', rfl, hx, hb4⟩; have hx2 := hx H rfl; clear hx; subst hx2; obtain ⟨gd, fl, tr, ts, sz, gt⟩ := h'; simp only [HeldS.v]; have hZ4 := (hb4.block _ (by simp)).trans (heap_alloc_new w _); have hZ5 : w4.heap[w.heap.size]? = some (.cells (pageC 0 0 noHeld) 110 (0, 0)) := hZ4; obtain ⟨q0, q1, q2, q3, q4, q5, q6, q7, qf⟩ := page_cells_alloc hZ5; clear hZ4))
      simp only [noHeld] at q2 q3 q4 q5 q6 q7
      refine bodyPost_ret (v := .tuple #[pageV s t ⟨gd, fl, tr, ts, sz, gt⟩, .bool true]) (by simp [results, Tryd.results82, go_sem, pageV, q0, q1, q2, q3, q4, q5, q6, q7]) rfl ⟨by rw [HP.out]; rfl, ?_⟩
      have hbT : Below w.heap.size w w4 := ((Below.refl _ _).alloc (Nat.le_refl _) _).trans (hb4.mono (by simp))
      have hbA := hbT.alloc hbT.size (.cells (HeldS.cs ⟨gd, fl, tr, ts, sz, gt⟩) 72)
      exact (((((((hbA.setCell (Nat.le_refl _) _).setCell (Nat.le_refl _) _).setCell (Nat.le_refl _) _).setCell (Nat.le_refl _) _).setCell (Nat.le_refl _) _).setCell (Nat.le_refl _) _).setCell (Nat.le_refl _) _).setCell (Nat.le_refl _) _
end Go.Proofs.YtcokahccbjdeaaaDoor
