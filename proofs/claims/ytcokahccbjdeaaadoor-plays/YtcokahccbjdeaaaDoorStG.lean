import Derived.Test.YtcokahccbjdeaaaDoorStE
namespace Go.Proofs.YtcokahccbjdeaaaDoor
open Go.RowKit

def newOut : Option (Nat × Nat × HeldS) → Value
  | none => .tuple #[pageV 0 0 noHeld, .bool false]
  | some (s, t, h) => .tuple #[pageV s t h, .bool true]
theorem pageOut_eq (s : Nat) (p : Option (Nat × HeldS)) : ∃ (s' t : Nat) (h : HeldS) (o : Bool), pageOut s p = .tuple #[pageV s' t h, .bool o] ∧
    (o = true → p = some (t, h) ∧ s' = s) ∧ (o = false → p = none ∧ s' = 0 ∧ t = 0 ∧ h = noHeld) := by
  cases p with
  | none => exact ⟨0, 0, noHeld, false, rfl, by simp, by simp⟩
  | some q => exact ⟨s, q.1, q.2, true, rfl, by simp, by simp⟩
set_option maxRecDepth 100000 in
set_option maxHeartbeats 4000000 in
theorem newest_page (w : World) (b g : Nat) (c : ChipS) (h : Dv w b g c) :
    Calls Tryd.prog 53 #[.pointer (some ⟨b, 0, none⟩)] w fun e w' => e = .returned (newOut (newestM c.cells)) ∧ Below w.heap.size w w' := by
  have H0 := fun wx (hb : Below w.heap.size w wx) => read_page wx b g c 0 (by omega) (h.below hb)
  have H1 := fun wx (hb : Below w.heap.size w wx) => read_page wx b g c 1 (by omega) (h.below hb)
  clear h
  obtain ⟨N, hN⟩ : ∃ N, N = newestM c.cells := ⟨_, rfl⟩
  rw [← hN]
  unfold newestM at hN
  have k0 : ∀ t h, pageM (sectorOf c.cells 0) = some (t, h) → t < 3 := fun t h e => pageM_lt e
  obtain ⟨s0, t0, ⟨gd0, fl0, tr0, ts0, sz0, gt0⟩, o0, e0, a0, z0⟩ := pageOut_eq 0 (pageM (sectorOf c.cells 0))
  obtain ⟨s1, t1', ⟨gd1, fl1, tr1, ts1, sz1, gt1⟩, o1, e1, a1, z1⟩ := pageOut_eq 1 (pageM (sectorOf c.cells 1))
  rw [e0] at H0
  rw [e1] at H1
  clear e0 e1
  simp only [pageV] at H0 H1
  have t1 : True := trivial
  cases o0
  · have hN' : Hid (newOut N = .tuple #[pageV s1 t1' ⟨gd1, fl1, tr1, ts1, sz1, gt1⟩, .bool o1]) := by
      rw [Hid, hN, (z0 rfl).1]
      cases o1
      · obtain ⟨y1, y2, y3, y4⟩ := z1 rfl; rw [y1, y2, y3, y4]; rfl
      · obtain ⟨y1, y2⟩ := a1 rfl; rw [y1, y2]; rfl
    clear hN a0 z0 a1 z1 k0
    go_enter Tryd.func53, Tryd.ntmps53
    go_wp2_with (first
      | (go_at_call 82; have _t := t1; refine (H0 _ ((Below.refl _ _).alloc (Nat.le_refl _) _)).mono ?_; rintro en w2 ⟨rfl, hb2⟩; clear t1; have hbw : Below w.heap.size w w2 := ((Below.refl _ _).alloc (Nat.le_refl _) _).trans (hb2.mono (by simp)); have hA2 := (hb2.block _ (by simp)).trans (heap_alloc_new w _); have hbw2 := hbw.alloc hbw.size (.cells (pageC s0 t0 ⟨gd0, fl0, tr0, ts0, sz0, gt0⟩) 110); simp only [pageC] at hbw2)
      | (go_at_call 82; refine (H1 _ hbw2).mono ?_; rintro en w3 ⟨rfl, hb3⟩; have hbw3 := hbw2.trans (hb3.mono hbw2.size); have hA3 := (hb3.block _ (by have := (Array.getElem?_eq_some_iff.1 hA2).1; simp; omega)).trans (alloc_heap hA2 _); have hB3 := (hb3.block _ (by simp)).trans (heap_alloc_new w2 _); have hA4 : w3.heap[w.heap.size]? = some (.cells (pageC 0 0 noHeld) 110 (0, 0)) := hA3; have hB4 : w3.heap[w2.heap.size]? = some (.cells (pageC s0 t0 ⟨gd0, fl0, tr0, ts0, sz0, gt0⟩) 110 (0, 0)) := hB3; clear hA3 hB3 hA2; obtain ⟨q0, q1, q2, q3, q4, q5, q6, q7, qf⟩ := page_cells_alloc hA4; obtain ⟨r0, r1, r2, r3, r4, r5, r6, r7, rf⟩ := page_cells_alloc hB4; simp only [noHeld] at q2 q3 q4 q5 q6 q7; simp only at r2 r3 r4 r5 r6 r7))
    refine bodyPost_ret (v := .tuple #[pageV s1 t1' ⟨gd1, fl1, tr1, ts1, sz1, gt1⟩, .bool o1]) (by simp [results, Tryd.results53, go_sem, pageV, q0, q1, q2, q3, q4, q5, q6, q7]) rfl ⟨by rw [hN'.out], ?_⟩
    have hbA := hbw3.alloc hbw3.size (.cells (pageC s1 t1' ⟨gd1, fl1, tr1, ts1, sz1, gt1⟩) 110)
    exact (((((((hbA.setCell (Nat.le_refl _) _).setCell (Nat.le_refl _) _).setCell (Nat.le_refl _) _).setCell (Nat.le_refl _) _).setCell (Nat.le_refl _) _).setCell (Nat.le_refl _) _).setCell (Nat.le_refl _) _).setCell (Nat.le_refl _) _
  · obtain ⟨y1, y2⟩ := a0 rfl
    have ht0 : t0 < 3 := k0 _ _ y1
    cases o1
    · have hN' : Hid (newOut N = .tuple #[pageV s0 t0 ⟨gd0, fl0, tr0, ts0, sz0, gt0⟩, .bool true]) := by
        rw [Hid, hN, y1, (z1 rfl).1, y2]; rfl
      clear hN a0 z0 a1 z1 k0 y1 y2
      go_enter Tryd.func53, Tryd.ntmps53
      go_wp2_with (first
        | (go_at_call 82; have _t := t1; refine (H0 _ ((Below.refl _ _).alloc (Nat.le_refl _) _)).mono ?_; rintro en w2 ⟨rfl, hb2⟩; clear t1; have hbw : Below w.heap.size w w2 := ((Below.refl _ _).alloc (Nat.le_refl _) _).trans (hb2.mono (by simp)); have hA2 := (hb2.block _ (by simp)).trans (heap_alloc_new w _); have hbw2 := hbw.alloc hbw.size (.cells (pageC s0 t0 ⟨gd0, fl0, tr0, ts0, sz0, gt0⟩) 110); simp only [pageC] at hbw2)
        | (go_at_call 82; refine (H1 _ hbw2).mono ?_; rintro en w3 ⟨rfl, hb3⟩; have hbw3 := hbw2.trans (hb3.mono hbw2.size); have hA3 := (hb3.block _ (by have := (Array.getElem?_eq_some_iff.1 hA2).1; simp; omega)).trans (alloc_heap hA2 _); have hB3 := (hb3.block _ (by simp)).trans (heap_alloc_new w2 _); have hA4 : w3.heap[w.heap.size]? = some (.cells (pageC 0 0 noHeld) 110 (0, 0)) := hA3; have hB4 : w3.heap[w2.heap.size]? = some (.cells (pageC s0 t0 ⟨gd0, fl0, tr0, ts0, sz0, gt0⟩) 110 (0, 0)) := hB3; clear hA3 hB3 hA2; obtain ⟨q0, q1, q2, q3, q4, q5, q6, q7, qf⟩ := page_cells_alloc hA4; obtain ⟨r0, r1, r2, r3, r4, r5, r6, r7, rf⟩ := page_cells_alloc hB4; simp only [noHeld] at q2 q3 q4 q5 q6 q7; simp only at r2 r3 r4 r5 r6 r7))
      go_quiet (fail)
      go_wp2
      refine bodyPost_ret (v := .tuple #[pageV s0 t0 ⟨gd0, fl0, tr0, ts0, sz0, gt0⟩, .bool true]) (by simp [results, Tryd.results53, go_sem, pageV, q0, q1, q2, q3, q4, q5, q6, q7]) rfl ⟨by rw [hN'.out], ?_⟩
      have hbA := hbw3.alloc hbw3.size (.cells (pageC s1 t1' ⟨gd1, fl1, tr1, ts1, sz1, gt1⟩) 110)
      have hbQ : Below w.heap.size w ((w3.alloc (.cells (pageC s1 t1' ⟨gd1, fl1, tr1, ts1, sz1, gt1⟩) 110)).drewN nq) := ⟨hbA.os, hbA.tape, hbA.output, hbA.size, hbA.block⟩
      exact (((((((hbQ.setCell (Nat.le_refl _) _).setCell (Nat.le_refl _) _).setCell (Nat.le_refl _) _).setCell (Nat.le_refl _) _).setCell (Nat.le_refl _) _).setCell (Nat.le_refl _) _).setCell (Nat.le_refl _) _).setCell (Nat.le_refl _) _
    · obtain ⟨x1, x2⟩ := a1 rfl
      have HNX := fun wx => nextTurn_any wx t0 ht0
      by_cases hnt : t1' = nextT t0
      · have hN' : Hid (newOut N = .tuple #[pageV s1 t1' ⟨gd1, fl1, tr1, ts1, sz1, gt1⟩, .bool true]) := by
          rw [Hid, hN, y1, x1, x2]; simp only [if_pos hnt]; rfl
        have hnI : ((t1' : Int) == ((nextT t0 : Nat) : Int)) = true := by rw [hnt]; simp
        generalize nextT t0 = nt at *
        clear hN a0 z0 a1 z1 k0 y1 y2 x1 x2 hnt
        go_enter Tryd.func53, Tryd.ntmps53
        go_wp2_with (first
          | (go_at_call 82; have _t := t1; refine (H0 _ ((Below.refl _ _).alloc (Nat.le_refl _) _)).mono ?_; rintro en w2 ⟨rfl, hb2⟩; clear t1; have hbw : Below w.heap.size w w2 := ((Below.refl _ _).alloc (Nat.le_refl _) _).trans (hb2.mono (by simp)); have hA2 := (hb2.block _ (by simp)).trans (heap_alloc_new w _); have hbw2 := hbw.alloc hbw.size (.cells (pageC s0 t0 ⟨gd0, fl0, tr0, ts0, sz0, gt0⟩) 110); simp only [pageC] at hbw2)
          | (go_at_call 82; refine (H1 _ hbw2).mono ?_; rintro en w3 ⟨rfl, hb3⟩; have hbw3 := hbw2.trans (hb3.mono hbw2.size); have hA3 := (hb3.block _ (by have := (Array.getElem?_eq_some_iff.1 hA2).1; simp; omega)).trans (alloc_heap hA2 _); have hB3 := (hb3.block _ (by simp)).trans (heap_alloc_new w2 _); have hA4 : w3.heap[w.heap.size]? = some (.cells (pageC 0 0 noHeld) 110 (0, 0)) := hA3; have hB4 : w3.heap[w2.heap.size]? = some (.cells (pageC s0 t0 ⟨gd0, fl0, tr0, ts0, sz0, gt0⟩) 110 (0, 0)) := hB3; clear hA3 hB3 hA2; obtain ⟨q0, q1, q2, q3, q4, q5, q6, q7, qf⟩ := page_cells_alloc hA4; obtain ⟨r0, r1, r2, r3, r4, r5, r6, r7, rf⟩ := page_cells_alloc hB4; simp only [noHeld] at q2 q3 q4 q5 q6 q7; simp only at r2 r3 r4 r5 r6 r7))
        go_quiet (first | (go_at_call 55; exact Calls.quiet_of_same (HNX _)))
        go_wp2
        refine bodyPost_ret (v := .tuple #[pageV s1 t1' ⟨gd1, fl1, tr1, ts1, sz1, gt1⟩, .bool true]) (by simp [results, Tryd.results53, go_sem, pageV, q0, q1, q2, q3, q4, q5, q6, q7]) rfl ⟨by rw [hN'.out], ?_⟩
        have hbA := hbw3.alloc hbw3.size (.cells (pageC s1 t1' ⟨gd1, fl1, tr1, ts1, sz1, gt1⟩) 110)
        have hbQ : Below w.heap.size w ((w3.alloc (.cells (pageC s1 t1' ⟨gd1, fl1, tr1, ts1, sz1, gt1⟩) 110)).drewN nq) := ⟨hbA.os, hbA.tape, hbA.output, hbA.size, hbA.block⟩
        exact (((((((hbQ.setCell (Nat.le_refl _) _).setCell (Nat.le_refl _) _).setCell (Nat.le_refl _) _).setCell (Nat.le_refl _) _).setCell (Nat.le_refl _) _).setCell (Nat.le_refl _) _).setCell (Nat.le_refl _) _).setCell (Nat.le_refl _) _
      · have hN' : Hid (newOut N = .tuple #[pageV s0 t0 ⟨gd0, fl0, tr0, ts0, sz0, gt0⟩, .bool true]) := by
          rw [Hid, hN, y1, x1, y2]; simp only [if_neg hnt]; rfl
        have hnI : ((t1' : Int) == ((nextT t0 : Nat) : Int)) = false := by rw [beq_eq_false_iff_ne]; omega
        generalize nextT t0 = nt at *
        clear hN a0 z0 a1 z1 k0 y1 y2 x1 x2 hnt
        go_enter Tryd.func53, Tryd.ntmps53
        go_wp2_with (first
          | (go_at_call 82; have _t := t1; refine (H0 _ ((Below.refl _ _).alloc (Nat.le_refl _) _)).mono ?_; rintro en w2 ⟨rfl, hb2⟩; clear t1; have hbw : Below w.heap.size w w2 := ((Below.refl _ _).alloc (Nat.le_refl _) _).trans (hb2.mono (by simp)); have hA2 := (hb2.block _ (by simp)).trans (heap_alloc_new w _); have hbw2 := hbw.alloc hbw.size (.cells (pageC s0 t0 ⟨gd0, fl0, tr0, ts0, sz0, gt0⟩) 110); simp only [pageC] at hbw2)
          | (go_at_call 82; refine (H1 _ hbw2).mono ?_; rintro en w3 ⟨rfl, hb3⟩; have hbw3 := hbw2.trans (hb3.mono hbw2.size); have hA3 := (hb3.block _ (by have := (Array.getElem?_eq_some_iff.1 hA2).1; simp; omega)).trans (alloc_heap hA2 _); have hB3 := (hb3.block _ (by simp)).trans (heap_alloc_new w2 _); have hA4 : w3.heap[w.heap.size]? = some (.cells (pageC 0 0 noHeld) 110 (0, 0)) := hA3; have hB4 : w3.heap[w2.heap.size]? = some (.cells (pageC s0 t0 ⟨gd0, fl0, tr0, ts0, sz0, gt0⟩) 110 (0, 0)) := hB3; clear hA3 hB3 hA2; obtain ⟨q0, q1, q2, q3, q4, q5, q6, q7, qf⟩ := page_cells_alloc hA4; obtain ⟨r0, r1, r2, r3, r4, r5, r6, r7, rf⟩ := page_cells_alloc hB4; simp only [noHeld] at q2 q3 q4 q5 q6 q7; simp only at r2 r3 r4 r5 r6 r7))
        go_quiet (first | (go_at_call 55; exact Calls.quiet_of_same (HNX _)))
        go_wp2
        refine bodyPost_ret (v := .tuple #[pageV s0 t0 ⟨gd0, fl0, tr0, ts0, sz0, gt0⟩, .bool true]) (by simp [results, Tryd.results53, go_sem, pageV, q0, q1, q2, q3, q4, q5, q6, q7]) rfl ⟨by rw [hN'.out], ?_⟩
        have hbA := hbw3.alloc hbw3.size (.cells (pageC s1 t1' ⟨gd1, fl1, tr1, ts1, sz1, gt1⟩) 110)
        have hbQ : Below w.heap.size w ((w3.alloc (.cells (pageC s1 t1' ⟨gd1, fl1, tr1, ts1, sz1, gt1⟩) 110)).drewN nq) := ⟨hbA.os, hbA.tape, hbA.output, hbA.size, hbA.block⟩
        exact (((((((hbQ.setCell (Nat.le_refl _) _).setCell (Nat.le_refl _) _).setCell (Nat.le_refl _) _).setCell (Nat.le_refl _) _).setCell (Nat.le_refl _) _).setCell (Nat.le_refl _) _).setCell (Nat.le_refl _) _).setCell (Nat.le_refl _) _
end Go.Proofs.YtcokahccbjdeaaaDoor
