import Derived.Test.YtcokahccbjdeaabDoorStF
import Derived.Test.YtcokahccbjdeaabDoorStG
import Derived.Deep.RegionHeld3
namespace Go.Proofs.YtcokahccbjdeaabDoor
open Go.RowKit

set_option maxRecDepth 100000 in
set_option maxHeartbeats 4000000 in
theorem save_held (w : World) (b g : Nat) (c : ChipS) (h : HeldS) (hk : h.ok) (hops : c.ops < 4611686018427380000) (hd : Dv w b g c) :
    Calls Tryd.prog 45 #[.pointer (some ⟨b, 0, none⟩), h.v] w fun e w' => e = .returned (.tuple #[]) ∧ ChipAt w' b g (c.prims (saveOps c.cells h)) ∧ Only (fun k => k = b ∨ k = g) w w' := by
  have HN := fun wx (hb : Below w.heap.size w wx) => newest_page wx b g c (hd.below hb)
  have hb1 : ∀ o, Below w.heap.size w (w.alloc o) := fun o => (Below.refl _ _).alloc (Nat.le_refl _) o
  cases hn : newestM c.cells with
  | none =>
    have HS : Hid (c.prims (saveOps c.cells h) = c) := by unfold saveOps Hid; rw [hn]; rfl
    rw [hn] at HN
    clear hn
    simp only [newOut, pageV, noHeld] at HN
    have hch := hd.chip
    obtain ⟨gd, fl, tr, ts, sz, gt⟩ := h
    simp only [HeldS.v] at *
    clear hd hk
    go_enter Tryd.func45, Tryd.ntmps45
    go_wp2_with (first
      | (go_at_call 50; refine (HN _ (hb1 _)).mono ?_; rintro en w3 ⟨rfl, hb3⟩))
    have hbw := (hb1 _).trans (hb3.mono (by simp))
    have hbA := hbw.alloc hbw.size (.cells (pageC 0 0 noHeld) 90)
    refine bodyPost_ret (results_none rfl _ _ _) rfl ⟨rfl, by rw [HS.out]; exact hch.below hbA, Only.of_below _ hbA⟩
  | some q =>
    obtain ⟨s, t, h0⟩ := q
    obtain ⟨hs, ht, _⟩ := newest_lt hn
    have HS : Hid (c.prims (saveOps c.cells h) = c.prims (writeOps (1 - s) (nextT t) h)) := by unfold saveOps Hid; rw [hn]
    rw [hn] at HN
    clear hn
    simp only [newOut, pageV] at HN
    have hnt : nextT t < 3 := by unfold nextT; split <;> omega
    have HW := fun wx (hb : Below w.heap.size w wx) => write_page wx b g c (1 - s) (nextT t) h (by omega) hnt hk hops (hd.below hb)
    have HO := fun wx => otherPage_any wx s hs
    have HT := fun wx => nextTurn_any wx t ht
    obtain ⟨gd, fl, tr, ts, sz, gt⟩ := h
    obtain ⟨gd0, fl0, tr0, ts0, sz0, gt0⟩ := h0
    simp only [HeldS.v, pageV] at *
    clear hd hk
    generalize nextT t = nt at *
    generalize 1 - s = s' at *
    go_enter Tryd.func45, Tryd.ntmps45
    go_wp2_with (first
      | (go_at_call 50; refine (HN _ (hb1 _)).mono ?_; rintro en w3 ⟨rfl, hb3⟩; have hA := (hb3.block _ (by simp)).trans (heap_alloc_new w _); have hA3 : w3.heap[w.heap.size]? = some (.cells (HeldS.cs ⟨gd, fl, tr, ts, sz, gt⟩) 62 (0, 0)) := hA; clear hA; obtain ⟨q0, q1, q2, q3, q4, q5, qf⟩ := held_cells_alloc hA3; simp only at q0 q1 q2 q3 q4 q5))
    have hbw := (hb1 _).trans (hb3.mono (by simp))
    have hbA := hbw.alloc hbw.size (.cells (pageC s t ⟨gd0, fl0, tr0, ts0, sz0, gt0⟩) 90)
    have hH := alloc_heap hA3 (.cells (pageC s t ⟨gd0, fl0, tr0, ts0, sz0, gt0⟩) 90)
    have hP := heap_alloc_new w3 (.cells (pageC s t ⟨gd0, fl0, tr0, ts0, sz0, gt0⟩) 90)
    simp only [pageC] at hbA hH hP
    clear q0 q1 q2 q3 q4 q5 qf
    generalize w3.alloc (.cells #[.int .i64 s, .int .i64 t, .string gd0, .int .i64 fl0, .string tr0, .int .i64 ts0, .int .i64 sz0, .string gt0] 90) = wz at *
    have hP' : wz.heap[w3.heap.size]? = some (.cells (pageC s t ⟨gd0, fl0, tr0, ts0, sz0, gt0⟩) 90 (0, 0)) := hP
    obtain ⟨p0, p1, p2, p3, p4, p5, p6, p7, pf⟩ := page_cells (w := wz.drew) hP'
    obtain ⟨q0, q1, q2, q3, q4, q5, qf⟩ := held_cells (w := wz.drew) hH
    simp only at q0 q1 q2 q3 q4 q5
    clear p2 p3 p4 p5 p6 p7 pf qf hP
    obtain ⟨x0, x1, x2, x3, x4, x5, xf⟩ := held_cells_ad hH
    obtain ⟨y0, y1, y2, y3, y4, y5, y6, y7, yf⟩ := page_cells_ad hP'
    simp only at x0 x1 x2 x3 x4 x5
    clear y2 y3 y4 y5 y6 y7
    go_cut [6] (fun s6 wx => s6 = .pointer (some ⟨wz.heap.size, 0, none⟩) ∧ wx = (wz.alloc (.cells (pageC s' nt ⟨gd, fl, tr, ts, sz, gt⟩) 90)).drew)
    case first =>
      go_region_held3 (fun w' => w'.cell? ⟨w3.heap.size, 0, none⟩ = some (.int .i64 s) ∧ w'.cell? ⟨w3.heap.size, 1, none⟩ = some (.int .i64 t) ∧ w'.cell? ⟨w.heap.size, 0, none⟩ = some (.string gd) ∧ w'.cell? ⟨w.heap.size, 1, none⟩ = some (.int .i64 fl) ∧ w'.cell? ⟨w.heap.size, 2, none⟩ = some (.string tr) ∧ w'.cell? ⟨w.heap.size, 3, none⟩ = some (.int .i64 ts) ∧ w'.cell? ⟨w.heap.size, 4, none⟩ = some (.int .i64 sz) ∧ w'.cell? ⟨w.heap.size, 5, none⟩ = some (.string gt)) ((first | exact ⟨p0, p1, q0, q1, q2, q3, q4, q5⟩ | exact ⟨y0 _, y1 _, x0 _, x1 _, x2 _, x3 _, x4 _, x5 _⟩))
        (first
          | (go_at_call 57; refine (HO _).mono ?_; rintro en w5 ⟨rfl, rfl⟩)
          | (go_at_call 58; refine (HT _).mono ?_; rintro en w5 ⟨rfl, rfl⟩))
      all_goals (go_wp2_with fail; go_meet)
      all_goals exact ⟨rfl, rfl⟩
    case rest =>
      obtain ⟨rfl, rfl⟩ := hcut
      have hbZ := (hbA.alloc hbA.size (.cells (pageC s' nt ⟨gd, fl, tr, ts, sz, gt⟩) 90)).drew
      simp only [pageC] at *
      go_wp2_with (go_at_call 53; refine (HW _ hbZ).mono ?_; rintro en w6 ⟨rfl, hc6, ho6⟩)
      refine bodyPost_end (results_none rfl _ _ _) rfl ⟨rfl, by rw [HS.out]; exact hc6, (Only.of_below _ hbZ).trans ho6⟩
end Go.Proofs.YtcokahccbjdeaabDoor
