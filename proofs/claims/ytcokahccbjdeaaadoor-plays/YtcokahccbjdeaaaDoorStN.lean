import Derived.Test.YtcokahccbjdeaaaDoorStI
import Derived.Test.YtcokahccbjdeaaaDoorStK
namespace Go.Proofs.YtcokahccbjdeaaaDoor
open Go.RowKit

set_option maxRecDepth 100000 in
set_option maxHeartbeats 4000000 in
theorem write_any (w : World) (q b g : Nat) (c : ChipS) (run : Int) (d : ByteArray) (hds : d.size < 4611686018427387904) (hops : c.ops < 4611686018427370000) (h : Dv w b g c) (hq : w.heap[q]? = some (.cells (devC b run) 76 (0, 0)))
    (hok : ∀ x, loadM c.cells = some x → x.ok) :
    Calls Tryd.prog 23 #[.pointer (some ⟨q, 0, none⟩), .string d] w fun e w' => e = .returned (.int .i64 (writeM c d).2) ∧ ChipAt w' b g (writeM c d).1 ∧ Only (fun k => k = b ∨ k = g) w w' := by
  have HL := load_held w b g c h
  obtain ⟨d0, d1, df⟩ := dev_cells hq
  cases hl : loadM c.cells with
  | none =>
    have HF : Hid (writeM c d = (c, 8)) := by unfold writeM Hid; rw [hl]
    rw [hl] at HL
    simp only [loadOut, HeldS.v, noHeld] at HL
    clear hl hok
    go_enter Tryd.func23, Tryd.ntmps23
    go_wp2_with (go_at_call 28; refine HL.mono ?_; rintro en w2 ⟨rfl, hb2⟩; have hbA := hb2.alloc hb2.size (.cells noHeld.cs 72))
    go_ret
    exact ⟨by rw [HF.out]; rfl, by rw [HF.out]; exact h.chip.below hbA, Only.of_below _ hbA⟩
  | some x =>
    have hx := hok x hl
    have hf := load_fit hl
    have hbd := hx.behind
    have hsz0 := hx.sz
    rw [hl] at HL
    by_cases hs : x.size = 0
    · have HF : Hid (writeM c d = (c, 11)) := by unfold writeM Hid; rw [hl]; simp only [if_pos hs]
      obtain ⟨gd, fl, tr, ts, sz, gt⟩ := x
      simp only [loadOut, HeldS.v] at *
      subst hs
      clear hl hok hx hf
      go_enter Tryd.func23, Tryd.ntmps23
      go_wp2_with (go_at_call 28; refine HL.mono ?_; rintro en w2 ⟨rfl, hb2⟩; have hbA := hb2.alloc hb2.size (.cells (HeldS.cs ⟨gd, fl, tr, ts, 0, gt⟩) 72))
      go_ret
      exact ⟨by rw [HF.out]; rfl, by rw [HF.out]; exact h.chip.below hbA, Only.of_below _ hbA⟩
    by_cases hbad : d.size = 0 ∨ 8 < d.size ∨ x.size - x.got.size < d.size
    · have HF : Hid (writeM c d = (c, 9)) := by unfold writeM Hid; rw [hl]; simp only [if_neg hs, if_pos hbad]
      obtain ⟨gd, fl, tr, ts, sz, gt⟩ := x
      simp only [loadOut, HeldS.v] at *
      clear hl hok hx
      by_cases c1 : d.size = 0
      · have ed : d = ⟨#[]⟩ := empty_of_size c1
        subst ed
        clear hbad c1 hf hds
        go_enter Tryd.func23, Tryd.ntmps23
        go_wp2_with (go_at_call 28; refine HL.mono ?_; rintro en w2 ⟨rfl, hb2⟩; have hbA := hb2.alloc hb2.size (.cells (HeldS.cs ⟨gd, fl, tr, ts, sz, gt⟩) 72))
        go_ret
        exact ⟨by rw [HF.out]; rfl, by rw [HF.out]; exact h.chip.below hbA, Only.of_below _ hbA⟩
      have hne := ne_empty c1
      by_cases c2 : 8 < d.size
      · have c2I : (8 : Int) < d.size := by omega
        clear hbad hf
        go_enter Tryd.func23, Tryd.ntmps23
        go_wp2_with (go_at_call 28; refine HL.mono ?_; rintro en w2 ⟨rfl, hb2⟩; have hbA := hb2.alloc hb2.size (.cells (HeldS.cs ⟨gd, fl, tr, ts, sz, gt⟩) 72))
        go_ret
        exact ⟨by rw [HF.out]; rfl, by rw [HF.out]; exact h.chip.below hbA, Only.of_below _ hbA⟩
      · have c2I : ¬ (8 : Int) < d.size := by omega
        have c3 : sz - (gt.size : Int) < d.size := by omega
        clear hbad
        go_enter Tryd.func23, Tryd.ntmps23
        go_wp2_with (go_at_call 28; refine HL.mono ?_; rintro en w2 ⟨rfl, hb2⟩; have hbA := hb2.alloc hb2.size (.cells (HeldS.cs ⟨gd, fl, tr, ts, sz, gt⟩) 72))
        go_ret
        exact ⟨by rw [HF.out]; rfl, by rw [HF.out]; exact h.chip.below hbA, Only.of_below _ hbA⟩
    · have HF : Hid (writeM c d = (c.prims (saveOps c.cells ⟨x.good, x.floor, x.trial, x.tries, x.size, x.got ++ d⟩), 0)) := by
        unfold writeM Hid; rw [hl]; simp only [if_neg hs, if_neg hbad]
      have hok2 : HeldS.ok ⟨x.good, x.floor, x.trial, x.tries, x.size, x.got ++ d⟩ := by
        have hz := hx.sz
        refine ⟨?_, hx.fl, hx.tr, hx.sz, hx.a, fun e => absurd e hs⟩
        have hg := hx.good
        have hlw := hx.law
        simp only [HeldS.lawful, Bool.and_eq_true, if_pos (show 0 < x.size by omega), decide_eq_true_eq] at hlw
        simp only [HeldS.lawful, hg, if_pos (show 0 < x.size by omega), Bool.and_eq_true, decide_eq_true_eq, ByteArray.size_append]
        refine ⟨rfl, ⟨hlw.2.1.1, ?_⟩, hlw.2.2⟩
        omega
      have HS := fun wx (hb : Below w.heap.size w wx) => save_held wx b g c _ hok2 (by omega) (h.below hb)
      have c1 : ¬ d.size = 0 := by omega
      have hne := ne_empty c1
      have c2I : ¬ (8 : Int) < d.size := by omega
      have c3 : ¬ x.size - (x.got.size : Int) < d.size := by omega
      obtain ⟨gd, fl, tr, ts, sz, gt⟩ := x
      simp only [loadOut, HeldS.v] at *
      have hgs : gt.size ≤ 256 := by omega
      have hdd : d.size ≤ 8 := by omega
      clear hl hok hok2 hx hbad
      go_enter Tryd.func23, Tryd.ntmps23
      go_wp2_with (go_at_call 28; refine HL.mono ?_; rintro en w2 ⟨rfl, hb2⟩; have hq2 := below_heap hb2 hq; obtain ⟨e0, e1, ef⟩ := dev_cells hq2)
      have hbA := hb2.alloc hb2.size (.cells (HeldS.cs ⟨gd, fl, tr, ts, sz, gt ++ d⟩) 72)
      have hqA := alloc_heap hq2 (.cells (HeldS.cs ⟨gd, fl, tr, ts, sz, gt ++ d⟩) 72)
      have hN := heap_alloc_new w2 (.cells (HeldS.cs ⟨gd, fl, tr, ts, sz, gt ++ d⟩) 72)
      simp only [HeldS.cs] at hbA hqA hN
      generalize w2.alloc (.cells #[.string gd, .int .i64 fl, .string tr, .int .i64 ts, .int .i64 sz, .string (gt ++ d)] 72) = wz at *
      have hN' : wz.heap[w2.heap.size]? = some (.cells (HeldS.cs ⟨gd, fl, tr, ts, sz, gt ++ d⟩) 72 (0, 0)) := hN
      clear hN e0 e1 ef d0 d1 df
      obtain ⟨p0, p1, pf⟩ := dev_cells (w := wz.drew) hqA
      obtain ⟨q0, q1, q2, q3, q4, q5, qf⟩ := held_cells (w := wz.drew) hN'
      simp only at q0 q1 q2 q3 q4 q5
      have hbZ := hbA.drew
      go_region_with (go_at_call 29; refine (HS _ hbZ).mono ?_; rintro en w4 ⟨rfl, hc4, ho4⟩)
      all_goals go_wp2
      all_goals go_ret
      all_goals exact ⟨by rw [HF.out]; rfl, by rw [HF.out]; exact hc4, (Only.of_below _ hbZ).trans ho4⟩
end Go.Proofs.YtcokahccbjdeaaaDoor
