import Derived.Test.YtcokahccbjdeaabDoorStI
import Derived.Test.YtcokahccbjdeaabDoorStK
namespace Go.Proofs.YtcokahccbjdeaabDoor
open Go.RowKit

set_option maxRecDepth 100000 in
set_option maxHeartbeats 4000000 in
theorem stage_any (w : World) (q b g : Nat) (c : ChipS) (run n : Int) (hops : c.ops < 4611686018427370000) (h : Dv w b g c) (hq : w.heap[q]? = some (.cells (devC b run) 66 (0, 0)))
    (hok : ∀ x, loadM c.cells = some x → x.ok) :
    Calls Tryd.prog 33 #[.pointer (some ⟨q, 0, none⟩), .int .i64 n] w fun e w' => e = .returned (.int .i64 (stageM c n).2) ∧ ChipAt w' b g (stageM c n).1 ∧ Only (fun k => k = b ∨ k = g) w w' := by
  have HL := load_held w b g c h
  obtain ⟨d0, d1, df⟩ := dev_cells hq
  by_cases hn1 : n < 1
  · have HF : Hid (stageM c n = (c, 9)) := by unfold stageM Hid; rw [if_pos (Or.inl hn1)]
    go_enter Tryd.func33, Tryd.ntmps33
    go_wp2
    go_ret
    exact ⟨by rw [HF.out]; rfl, by rw [HF.out]; exact h.chip, Only.refl _ _⟩
  by_cases hn2 : 120 < n
  · have HF : Hid (stageM c n = (c, 9)) := by unfold stageM Hid; rw [if_pos (Or.inr hn2)]
    go_enter Tryd.func33, Tryd.ntmps33
    go_wp2
    go_ret
    exact ⟨by rw [HF.out]; rfl, by rw [HF.out]; exact h.chip, Only.refl _ _⟩
  cases hl : loadM c.cells with
  | none =>
    have HF : Hid (stageM c n = (c, 8)) := by unfold stageM Hid; rw [if_neg (by omega), hl]
    rw [hl] at HL
    simp only [loadOut, HeldS.v, noHeld] at HL
    clear hl hok
    go_enter Tryd.func33, Tryd.ntmps33
    go_wp2_with (go_at_call 29; refine HL.mono ?_; rintro en w2 ⟨rfl, hb2⟩; have hbA := hb2.alloc hb2.size (.cells noHeld.cs 62))
    go_ret
    exact ⟨by rw [HF.out]; rfl, by rw [HF.out]; exact h.chip.below hbA, Only.of_below _ hbA⟩
  | some x =>
    have hx := hok x hl
    have hf := load_fit hl
    rw [hl] at HL
    by_cases ht : x.trial.size = 0
    · have HF : Hid (stageM c n = (c.prims (saveOps c.cells ⟨x.good, x.floor, ⟨#[]⟩, 0, n, ⟨#[]⟩⟩), 0)) := by
        unfold stageM Hid; rw [if_neg (by omega), hl]; simp only [ht]; rfl
      have hok2 : HeldS.ok ⟨x.good, x.floor, ⟨#[]⟩, 0, n, ⟨#[]⟩⟩ := by
        refine ⟨?_, hx.fl, Int.le_refl _, by show 0 ≤ n; omega, fun _ => rfl, fun e => rfl⟩
        have hg := hx.good
        have h0 : 0 < n := by omega
        have : (ByteArray.mk #[]).size = 0 := rfl
        simp [HeldS.lawful, hg, h0, this]; omega
      have HS := fun wx (hb : Below w.heap.size w wx) => save_held wx b g c _ hok2 (by omega) (h.below hb)
      have et : x.trial = ⟨#[]⟩ := empty_of_size ht
      obtain ⟨gd, fl, tr, ts, sz, gt⟩ := x
      simp only [loadOut, HeldS.v] at *
      subst et
      clear hl hok hok2 hx hf ht
      go_enter Tryd.func33, Tryd.ntmps33
      go_wp2_with (go_at_call 29; refine HL.mono ?_; rintro en w2 ⟨rfl, hb2⟩; have hq2 := below_heap hb2 hq; obtain ⟨e0, e1, ef⟩ := dev_cells hq2)
      have hbA := hb2.alloc hb2.size (.cells (HeldS.cs ⟨gd, fl, ⟨#[]⟩, ts, sz, gt⟩) 62)
      have hqA := alloc_heap hq2 (.cells (HeldS.cs ⟨gd, fl, ⟨#[]⟩, ts, sz, gt⟩) 62)
      have hN := heap_alloc_new w2 (.cells (HeldS.cs ⟨gd, fl, ⟨#[]⟩, ts, sz, gt⟩) 62)
      simp only [HeldS.cs] at hbA hqA hN
      generalize w2.alloc (.cells #[.string gd, .int .i64 fl, .string ⟨#[]⟩, .int .i64 ts, .int .i64 sz, .string gt] 62) = wz at *
      have hN' : wz.heap[w2.heap.size]? = some (.cells (HeldS.cs ⟨gd, fl, ⟨#[]⟩, ts, sz, gt⟩) 62 (0, 0)) := hN
      clear hN e0 e1 ef d0 d1 df
      obtain ⟨p0, p1, pf⟩ := dev_cells (w := wz.drew) hqA
      obtain ⟨q0, q1, q2, q3, q4, q5, qf⟩ := held_cells (w := wz.drew) hN'
      simp only at q0 q1 q2 q3 q4 q5
      have hbZ := hbA.drew
      go_region_with (go_at_call 45; refine (HS _ hbZ).mono ?_; rintro en w4 ⟨rfl, hc4, ho4⟩)
      all_goals go_wp2
      all_goals go_ret
      all_goals exact ⟨by rw [HF.out]; rfl, by rw [HF.out]; exact hc4, (Only.of_below _ hbZ).trans ho4⟩
    · have HF : Hid (stageM c n = (c, 10)) := by unfold stageM Hid; rw [if_neg (by omega), hl]; simp only [if_pos ht]
      have hne := ne_empty ht
      obtain ⟨gd, fl, tr, ts, sz, gt⟩ := x
      simp only [loadOut, HeldS.v] at *
      clear hl hok hx hf
      go_enter Tryd.func33, Tryd.ntmps33
      go_wp2_with (go_at_call 29; refine HL.mono ?_; rintro en w2 ⟨rfl, hb2⟩; have hbA := hb2.alloc hb2.size (.cells (HeldS.cs ⟨gd, fl, tr, ts, sz, gt⟩) 62))
      go_ret
      exact ⟨by rw [HF.out]; rfl, by rw [HF.out]; exact h.chip.below hbA, Only.of_below _ hbA⟩
end Go.Proofs.YtcokahccbjdeaabDoor
