import Derived.Test.YtcokahccbjdeaaaDoorStI
import Derived.Test.YtcokahccbjdeaaaDoorStK
import Derived.Deep.RegionHeld3
namespace Go.Proofs.YtcokahccbjdeaaaDoor
open Go.RowKit

theorem ne_of_heap0 {w : World} {i j : Nat} {a c : Array Value} {t u : TypeId} {f f' : Nat × Nat} (h1 : w.heap[i]? = some (.cells a t f)) (h2 : w.heap[j]? = some (.cells c u f')) (h : t ≠ u) : i ≠ j := by
  intro e; subst e; rw [h1] at h2; simp at h2; exact h h2.2.1
set_option maxRecDepth 100000 in
set_option maxHeartbeats 4000000 in
theorem activate_any (w : World) (q b g : Nat) (c : ChipS) (run : Int) (hops : c.ops < 4611686018427370000) (h : Dv w b g c) (hq : w.heap[q]? = some (.cells (devC b run) 76 (0, 0)))
    (hok : ∀ x, loadM c.cells = some x → x.ok) :
    Calls Tryd.prog 25 #[.pointer (some ⟨q, 0, none⟩)] w fun e w' => e = .returned (.int .i64 (activM c).2) ∧ ChipAt w' b g (activM c).1 ∧ Only (fun k => k = b ∨ k = g) w w' := by
  have HL := load_held w b g c h
  obtain ⟨d0, d1, df⟩ := dev_cells hq
  cases hl : loadM c.cells with
  | none =>
    have HF : Hid (activM c = (c, 8)) := by unfold activM Hid; rw [hl]
    rw [hl] at HL
    simp only [loadOut, HeldS.v, noHeld] at HL
    clear hl hok
    go_enter Tryd.func25, Tryd.ntmps25
    go_wp2_with (go_at_call 28; refine HL.mono ?_; rintro en w2 ⟨rfl, hb2⟩; have hbA := hb2.alloc hb2.size (.cells noHeld.cs 72))
    go_ret
    exact ⟨by rw [HF.out]; rfl, by rw [HF.out]; exact h.chip.below hbA, Only.of_below _ hbA⟩
  | some x =>
    have hx := hok x hl
    have hf := load_fit hl
    have hbd := hx.behind
    have hsz0 := hx.sz
    rw [hl] at HL
    have HV := fun wx => version_any wx x.got (by omega)
    by_cases hs : x.size = 0
    · have HF : Hid (activM c = (c, 11)) := by unfold activM Hid; rw [hl]; simp only [if_pos hs]
      obtain ⟨gd, fl, tr, ts, sz, gt⟩ := x
      simp only [loadOut, HeldS.v] at *
      subst hs
      clear hl hok hx hf
      go_enter Tryd.func25, Tryd.ntmps25
      go_wp2_with (go_at_call 28; refine HL.mono ?_; rintro en w2 ⟨rfl, hb2⟩; have hbA := hb2.alloc hb2.size (.cells (HeldS.cs ⟨gd, fl, tr, ts, 0, gt⟩) 72))
      go_ret
      exact ⟨by rw [HF.out]; rfl, by rw [HF.out]; exact h.chip.below hbA, Only.of_below _ hbA⟩
    by_cases hsh : (x.got.size : Int) < x.size
    · have HF : Hid (activM c = (c, 12)) := by unfold activM Hid; rw [hl]; simp only [if_neg hs, if_pos hsh]
      obtain ⟨gd, fl, tr, ts, sz, gt⟩ := x
      simp only [loadOut, HeldS.v] at *
      clear hl hok hx hf
      go_enter Tryd.func25, Tryd.ntmps25
      go_wp2_with (go_at_call 28; refine HL.mono ?_; rintro en w2 ⟨rfl, hb2⟩; have hbA := hb2.alloc hb2.size (.cells (HeldS.cs ⟨gd, fl, tr, ts, sz, gt⟩) 72))
      go_ret
      exact ⟨by rw [HF.out]; rfl, by rw [HF.out]; exact h.chip.below hbA, Only.of_below _ hbA⟩
    by_cases hv : verB x.got < 0
    · have HF : Hid (activM c = (c, 6)) := by unfold activM Hid; rw [hl]; simp only [if_neg hs, if_neg hsh, if_pos hv]
      obtain ⟨gd, fl, tr, ts, sz, gt⟩ := x
      simp only [loadOut, HeldS.v] at *
      generalize verB gt = vt at *
      clear hl hok hx hf
      go_enter Tryd.func25, Tryd.ntmps25
      go_wp2_with (first
        | (go_at_call 28; refine HL.mono ?_; rintro en w2 ⟨rfl, hb2⟩; have hbA := hb2.alloc hb2.size (.cells (HeldS.cs ⟨gd, fl, tr, ts, sz, gt⟩) 72))
        | (go_at_call 50; refine (HV _).mono ?_; rintro en w3 ⟨rfl, hb3⟩; have hbB := hbA.trans (hb3.mono hbA.size)))
      go_ret
      exact ⟨by rw [HF.out]; rfl, by rw [HF.out]; exact h.chip.below hbB, Only.of_below _ hbB⟩
    by_cases ho : verB x.got < x.floor
    · have HF : Hid (activM c = (c, 13)) := by unfold activM Hid; rw [hl]; simp only [if_neg hs, if_neg hsh, if_neg hv, if_pos ho]
      obtain ⟨gd, fl, tr, ts, sz, gt⟩ := x
      simp only [loadOut, HeldS.v] at *
      generalize verB gt = vt at *
      clear hl hok hx hf
      go_enter Tryd.func25, Tryd.ntmps25
      go_wp2_with (first
        | (go_at_call 28; refine HL.mono ?_; rintro en w2 ⟨rfl, hb2⟩; have hbA := hb2.alloc hb2.size (.cells (HeldS.cs ⟨gd, fl, tr, ts, sz, gt⟩) 72))
        | (go_at_call 50; refine (HV _).mono ?_; rintro en w3 ⟨rfl, hb3⟩; have hbB := hbA.trans (hb3.mono hbA.size); have hN := below_heap hb3 (heap_alloc_new w2 (.cells (HeldS.cs ⟨gd, fl, tr, ts, sz, gt⟩) 72)); obtain ⟨q0, q1, q2, q3, q4, q5, qf⟩ := held_cells hN; simp only at q0 q1 q2 q3 q4 q5))
      go_ret
      exact ⟨by rw [HF.out]; rfl, by rw [HF.out]; exact h.chip.below hbB, Only.of_below _ hbB⟩
    · have HF : Hid (activM c = (c.prims (saveOps c.cells ⟨x.good, x.floor, x.got, 3, 0, ⟨#[]⟩⟩), 0)) := by
        unfold activM Hid; rw [hl]; simp only [if_neg hs, if_neg hsh, if_neg hv, if_neg ho]; rfl
      have hok2 : HeldS.ok ⟨x.good, x.floor, x.got, 3, 0, ⟨#[]⟩⟩ := by
        refine ⟨?_, hx.fl, by show (0 : Int) ≤ 3; omega, Int.le_refl _, fun e => by simp at e, fun _ => rfl⟩
        have hg := hx.good
        simp only [HeldS.lawful, hg]
        have : ¬ x.got.size = 0 := by omega
        simp [this]; omega
      have HS := fun wx (hb : Below w.heap.size w wx) => save_held wx b g c _ hok2 (by omega) (h.below hb)
      obtain ⟨gd, fl, tr, ts, sz, gt⟩ := x
      simp only [loadOut, HeldS.v] at *
      generalize verB gt = vt at *
      clear hl hok hok2 hx
      go_enter Tryd.func25, Tryd.ntmps25
      go_wp2_with (first
        | (go_at_call 28; refine HL.mono ?_; rintro en w2 ⟨rfl, hb2⟩; have hq2 := below_heap hb2 hq; have hbA := hb2.alloc hb2.size (.cells (HeldS.cs ⟨gd, fl, tr, ts, sz, gt⟩) 72))
        | (go_at_call 50; refine (HV _).mono ?_; rintro en w3 ⟨rfl, hb3⟩; have hbB := hbA.trans (hb3.mono hbA.size); have hN := below_heap hb3 (heap_alloc_new w2 (.cells (HeldS.cs ⟨gd, fl, tr, ts, sz, gt⟩) 72)); have hq3 := below_heap hb3 (alloc_heap hq2 (.cells (HeldS.cs ⟨gd, fl, tr, ts, sz, gt⟩) 72)); obtain ⟨q0, q1, q2, q3, q4, q5, qf⟩ := held_cells hN; simp only at q0 q1 q2 q3 q4 q5))
      clear q0 q1 q2 q3 q4 q5 qf d0 d1 df
      obtain ⟨p0, p1, pf⟩ := dev_cells (w := w3.drew) hq3
      obtain ⟨q0, q1, q2, q3, q4, q5, qf⟩ := held_cells (w := w3.drew) hN
      simp only at q0 q1 q2 q3 q4 q5
      have hbZ := hbB.drew
      have nq : ¬ (q = b ∨ q = g) := fun hx => by rcases hx with e | e; exact ne_of_heap0 hq h.chip.hb (by decide) e; exact ne_of_heap0 hq h.chip.hg (by decide) e
      have nN : ¬ (w2.heap.size = b ∨ w2.heap.size = g) := by
        have := hb2.size
        have l1 := (Array.getElem?_eq_some_iff.1 h.chip.hb).1
        have l2 := (Array.getElem?_eq_some_iff.1 h.chip.hg).1
        omega
      have hT0 : w3.drew.cell? ⟨q, 0, none⟩ = some (.pointer (some ⟨b, 0, none⟩)) ∧ w3.drew.cell? ⟨w2.heap.size, 0, none⟩ = some (.string gd) ∧ w3.drew.cell? ⟨w2.heap.size, 1, none⟩ = some (.int .i64 fl) ∧ w3.drew.cell? ⟨w2.heap.size, 5, none⟩ = some (.string gt) := ⟨p0, q0, q1, q5⟩
      go_region_held3 (fun w' => w'.cell? ⟨q, 0, none⟩ = some (.pointer (some ⟨b, 0, none⟩)) ∧ w'.cell? ⟨w2.heap.size, 0, none⟩ = some (.string gd) ∧ w'.cell? ⟨w2.heap.size, 1, none⟩ = some (.int .i64 fl) ∧ w'.cell? ⟨w2.heap.size, 5, none⟩ = some (.string gt)) ((first | with_reducible exact hT0 | with_reducible exact hT4))
        (first | (go_at_call 29; refine (HS _ hbZ).mono ?_; rintro en w4 ⟨rfl, hc4, ho4⟩; have hq4 := ho4.heap (w := w3.drew) hq3 nq; have hN4 := ho4.heap (w := w3.drew) hN nN; have hT4 : w4.cell? ⟨q, 0, none⟩ = some (.pointer (some ⟨b, 0, none⟩)) ∧ w4.cell? ⟨w2.heap.size, 0, none⟩ = some (.string gd) ∧ w4.cell? ⟨w2.heap.size, 1, none⟩ = some (.int .i64 fl) ∧ w4.cell? ⟨w2.heap.size, 5, none⟩ = some (.string gt) := ⟨(dev_cells hq4).1, (held_cells hN4).1, (held_cells hN4).2.1, (held_cells hN4).2.2.2.2.2.1⟩))
      all_goals go_wp2
      all_goals go_ret
      all_goals exact ⟨by rw [HF.out]; rfl, by rw [HF.out]; exact hc4, (Only.of_below _ hbZ).trans ho4⟩
end Go.Proofs.YtcokahccbjdeaaaDoor
