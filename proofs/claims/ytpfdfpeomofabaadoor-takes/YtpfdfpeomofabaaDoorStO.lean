import Derived.Test.YtpfdfpeomofabaaDoorStI
import Derived.Test.YtpfdfpeomofabaaDoorStK
namespace Go.Proofs.YtpfdfpeomofabaaDoor
open Go.RowKit

set_option maxRecDepth 100000 in
set_option maxHeartbeats 4000000 in
theorem activate_any (w : World) (q b g : Nat) (c : ChipS) (run : Int) (hops : c.ops < 4611686018427370000) (h : Dv w b g c) (hq : w.heap[q]? = some (.cells (devC b run) 88 (0, 0)))
    (hok : ∀ x, loadM c.cells = some x → x.ok) :
    Calls Tryd.prog 42 #[.pointer (some ⟨q, 0, none⟩)] w fun e w' => e = .returned (.int .i64 (activM c).2) ∧ ChipAt w' b g (activM c).1 ∧ Only (fun k => k = b ∨ k = g) w w' := by
  have HL := load_held w b g c h
  obtain ⟨d0, d1, df⟩ := dev_cells hq
  cases hl : loadM c.cells with
  | none =>
    have HF : Hid (activM c = (c, 8)) := by unfold activM Hid; rw [hl]
    rw [hl] at HL
    simp only [loadOut, HeldS.v, noHeld] at HL
    clear hl hok
    go_enter Tryd.func42, Tryd.ntmps42
    go_wp2_with (go_at_call 48; refine HL.mono ?_; rintro en w2 ⟨rfl, hb2⟩; have hbA := hb2.alloc hb2.size (.cells noHeld.cs 84))
    go_ret
    exact ⟨by rw [HF.out]; rfl, by rw [HF.out]; exact h.chip.below hbA, Only.of_below _ hbA⟩
  | some x =>
    have hx := hok x hl
    have hf := load_fit hl
    have hbd := hx.behind
    have hsz0 := hx.sz
    rw [hl] at HL
    have HV := fun wx => version_any wx x.got (by omega)
    by_cases hs : x.size = 0
    · have HF : Hid (activM c = (c, 11)) := by unfold activM Hid; rw [hl]; simp only [if_pos hs]
      obtain ⟨gd, fl, tr, ts, sz, gt⟩ := x
      simp only [loadOut, HeldS.v] at *
      subst hs
      clear hl hok hx hf
      go_enter Tryd.func42, Tryd.ntmps42
      go_wp2_with (go_at_call 48; refine HL.mono ?_; rintro en w2 ⟨rfl, hb2⟩; have hbA := hb2.alloc hb2.size (.cells (HeldS.cs ⟨gd, fl, tr, ts, 0, gt⟩) 84))
      go_ret
      exact ⟨by rw [HF.out]; rfl, by rw [HF.out]; exact h.chip.below hbA, Only.of_below _ hbA⟩
    by_cases hsh : (x.got.size : Int) < x.size
    · have HF : Hid (activM c = (c, 12)) := by unfold activM Hid; rw [hl]; simp only [if_neg hs, if_pos hsh]
      obtain ⟨gd, fl, tr, ts, sz, gt⟩ := x
      simp only [loadOut, HeldS.v] at *
      clear hl hok hx hf
      go_enter Tryd.func42, Tryd.ntmps42
      go_wp2_with (go_at_call 48; refine HL.mono ?_; rintro en w2 ⟨rfl, hb2⟩; have hbA := hb2.alloc hb2.size (.cells (HeldS.cs ⟨gd, fl, tr, ts, sz, gt⟩) 84))
      go_ret
      exact ⟨by rw [HF.out]; rfl, by rw [HF.out]; exact h.chip.below hbA, Only.of_below _ hbA⟩
    by_cases hv : verB x.got < 0
    · have HF : Hid (activM c = (c, 6)) := by unfold activM Hid; rw [hl]; simp only [if_neg hs, if_neg hsh, if_pos hv]
      obtain ⟨gd, fl, tr, ts, sz, gt⟩ := x
      simp only [loadOut, HeldS.v] at *
      generalize verB gt = vt at *
      clear hl hok hx hf
      go_enter Tryd.func42, Tryd.ntmps42
      go_wp2_with (first
        | (go_at_call 48; refine HL.mono ?_; rintro en w2 ⟨rfl, hb2⟩; have hbA := hb2.alloc hb2.size (.cells (HeldS.cs ⟨gd, fl, tr, ts, sz, gt⟩) 84))
        | (go_at_call 51; refine (HV _).mono ?_; rintro en w3 ⟨rfl, hb3⟩; have hbB := hbA.trans (hb3.mono hbA.size)))
      go_ret
      exact ⟨by rw [HF.out]; rfl, by rw [HF.out]; exact h.chip.below hbB, Only.of_below _ hbB⟩
    by_cases ho : verB x.got < x.floor
    · have HF : Hid (activM c = (c, 13)) := by unfold activM Hid; rw [hl]; simp only [if_neg hs, if_neg hsh, if_neg hv, if_pos ho]
      obtain ⟨gd, fl, tr, ts, sz, gt⟩ := x
      simp only [loadOut, HeldS.v] at *
      generalize verB gt = vt at *
      clear hl hok hx hf
      go_enter Tryd.func42, Tryd.ntmps42
      go_wp2_with (first
        | (go_at_call 48; refine HL.mono ?_; rintro en w2 ⟨rfl, hb2⟩; have hbA := hb2.alloc hb2.size (.cells (HeldS.cs ⟨gd, fl, tr, ts, sz, gt⟩) 84))
        | (go_at_call 51; refine (HV _).mono ?_; rintro en w3 ⟨rfl, hb3⟩; have hbB := hbA.trans (hb3.mono hbA.size); have hN := below_heap hb3 (heap_alloc_new w2 (.cells (HeldS.cs ⟨gd, fl, tr, ts, sz, gt⟩) 84)); obtain ⟨q0, q1, q2, q3, q4, q5, qf⟩ := held_cells hN; simp only at q0 q1 q2 q3 q4 q5))
      go_ret
      exact ⟨by rw [HF.out]; rfl, by rw [HF.out]; exact h.chip.below hbB, Only.of_below _ hbB⟩
    · have HF : Hid (activM c = (c.prims (saveOps c.cells ⟨x.good, x.floor, x.got, 3, 0, ⟨#[]⟩⟩), 0)) := by
        unfold activM Hid; rw [hl]; simp only [if_neg hs, if_neg hsh, if_neg hv, if_neg ho]; rfl
      have hok2 : HeldS.ok ⟨x.good, x.floor, x.got, 3, 0, ⟨#[]⟩⟩ := by
        refine ⟨?_, hx.fl, by show (0 : Int) ≤ 3; omega, Int.le_refl _, fun e => by simp at e, fun _ => rfl⟩
        have hg := hx.good
        simp only [HeldS.lawful, hg]
        have : ¬ x.got.size = 0 := by omega
        simp [this]; omega
      have HS := fun wx (hb : Below w.heap.size w wx) => save_held wx b g c _ hok2 (by omega) (h.below hb)
      obtain ⟨gd, fl, tr, ts, sz, gt⟩ := x
      simp only [loadOut, HeldS.v] at *
      generalize verB gt = vt at *
      clear hl hok hok2 hx
      go_enter Tryd.func42, Tryd.ntmps42
      go_wp2_with (first
        | (go_at_call 48; refine HL.mono ?_; rintro en w2 ⟨rfl, hb2⟩; have hq2 := below_heap hb2 hq; have hbA := hb2.alloc hb2.size (.cells (HeldS.cs ⟨gd, fl, tr, ts, sz, gt⟩) 84))
        | (go_at_call 51; refine (HV _).mono ?_; rintro en w3 ⟨rfl, hb3⟩; have hbB := hbA.trans (hb3.mono hbA.size); have hN := below_heap hb3 (heap_alloc_new w2 (.cells (HeldS.cs ⟨gd, fl, tr, ts, sz, gt⟩) 84)); have hq3 := below_heap hb3 (alloc_heap hq2 (.cells (HeldS.cs ⟨gd, fl, tr, ts, sz, gt⟩) 84)); obtain ⟨q0, q1, q2, q3, q4, q5, qf⟩ := held_cells hN; simp only at q0 q1 q2 q3 q4 q5))
      clear q0 q1 q2 q3 q4 q5 qf d0 d1 df
      obtain ⟨p0, p1, pf⟩ := dev_cells (w := w3.drew) hq3
      obtain ⟨q0, q1, q2, q3, q4, q5, qf⟩ := held_cells (w := w3.drew) hN
      simp only at q0 q1 q2 q3 q4 q5
      have hbZ := hbB.drew
      go_region_with (go_at_call 55; refine (HS _ hbZ).mono ?_; rintro en w4 ⟨rfl, hc4, ho4⟩)
      all_goals go_wp2
      all_goals go_ret
      all_goals exact ⟨by rw [HF.out]; rfl, by rw [HF.out]; exact hc4, (Only.of_below _ hbZ).trans ho4⟩
end Go.Proofs.YtpfdfpeomofabaaDoor
