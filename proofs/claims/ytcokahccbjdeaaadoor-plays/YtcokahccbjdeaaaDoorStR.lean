import Derived.Test.YtcokahccbjdeaaaDoorStP
namespace Go.Proofs.YtcokahccbjdeaaaDoor
open Go.RowKit

set_option maxRecDepth 100000 in
set_option maxHeartbeats 4000000 in
theorem sameState_any (w : World) (s : StateS) :
    Calls Tryd.prog 61 #[s.v, s.v] w fun e w' => e = .returned (.bool true) ∧ Below w.heap.size w w' := by
  obtain ⟨a, b, c, d, e, f, g⟩ := s
  simp only [StateS.v]
  go_enter Tryd.func61, Tryd.ntmps61
  go_wp2
  go_ret
  exact ⟨rfl, ((Below.refl _ _).alloc (Nat.le_refl _) _).alloc (by simp) _⟩

theorem heap_alloc3_new (w : World) (a b c : Obj) : (((w.alloc a).alloc b).alloc c).heap[w.heap.size + 2]? = some c := by
  have h := heap_alloc_new ((w.alloc a).alloc b) c
  have e : ((w.alloc a).alloc b).heap.size = w.heap.size + 2 := by simp
  rw [e] at h
  exact h
theorem ver_nil : verB ⟨#[]⟩ = -1 := by
  have h1 := ver_lo (ByteArray.mk #[]).data.toList
  have h2 := ver_len (ByteArray.mk #[]).data.toList
  unfold verB
  by_cases h : 0 ≤ verM (ByteArray.mk #[]).data.toList
  · exact absurd rfl (h2 h).2
  · omega
theorem HeldS.ok.trialV {h : HeldS} (k : h.ok) (ht : ¬ h.trial.size = 0) : 0 ≤ verB h.trial := by
  have hl := k.law
  simp only [HeldS.lawful, Bool.and_eq_true] at hl
  have hl := hl.2
  have hz : ¬ 0 < h.size := fun e => ht (k.a e)
  rw [if_neg hz, if_neg ht] at hl
  simp only [Bool.and_eq_true, decide_eq_true_eq] at hl
  have := k.fl
  omega

set_option maxRecDepth 100000 in
set_option maxHeartbeats 4000000 in
theorem refState (w : World) (r : RefS) (run : Int) (hk : r.h.ok) :
    Calls Tryd.prog 62 #[r.v, .int .i64 run] w fun e w' => e = .returned (stateM r.h run).v ∧ Below w.heap.size w w' := by
  obtain ⟨md, h⟩ := r
  simp only at hk
  obtain ⟨i1, i2, i3, i4⟩ := hk.img
  obtain ⟨j1, j2, j3⟩ := hk.behind
  have HV := fun wx => refVersion wx h.good (by omega)
  rw [if_neg (by omega)] at HV
  have hb3 : ∀ o p x, Below w.heap.size w (((w.alloc o).alloc p).alloc x) := fun o p x => (((Below.refl _ _).alloc (Nat.le_refl _) _).alloc (by simp) _).alloc (by simp; omega) _
  have hgs : (h.got.size : Int) ≤ 120 := by omega
  by_cases ht : h.trial.size = 0
  · have et : h.trial = ⟨#[]⟩ := empty_of_size ht
    have HR : Hid (stateM h run = ⟨verB h.good, h.floor, -1, h.tries, h.size, h.got.size, run⟩) := by unfold stateM Hid; rw [et, ver_nil]
    obtain ⟨gd, fl, tr, ts, sz, gt⟩ := h
    simp only [RefS.v] at *
    subst et
    generalize verB gd = vg at *
    clear hk
    go_enter Tryd.func62, Tryd.ntmps62
    go_wp2_with (go_at_call 87; refine (HV _).mono ?_; rintro en w2 ⟨rfl, hb⟩; have hA := below_heap hb (alloc_heap (heap_alloc2_old w _ _) _); have hB := below_heap hb (alloc_heap (heap_alloc2_new w _ _) _); have hC := below_heap hb (heap_alloc3_new w _ _ _); have hA' : w2.heap[w.heap.size]? = some (.cells (RefS.cs ⟨md, gd, fl, ⟨#[]⟩, ts, sz, gt⟩) 83 (0, 0)) := hA; have hB' : w2.heap[w.heap.size + 1]? = some (.cells (StateS.cs ⟨0, 0, 0, 0, 0, 0, 0⟩) 65 (0, 0)) := hB; have hC' : w2.heap[w.heap.size + 2]? = some (.cells (StateS.cs ⟨0, fl, -1, ts, sz, gt.size, run⟩) 65 (0, 0)) := hC; clear hA hB hC; obtain ⟨q0, q1, q2, q3, q4, q5, q6, qf⟩ := ref_cells hA'; obtain ⟨r0, r1, r2, r3, r4, r5, r6, rf⟩ := state_cells hB'; obtain ⟨s0, s1, s2, s3, s4, s5, s6, sf⟩ := state_cells hC'; simp only at q0 q1 q2 q3 q4 q5 q6 r0 r1 r2 r3 r4 r5 r6 s0 s1 s2 s3 s4 s5 s6)
    refine bodyPost_ret (v := StateS.v ⟨vg, fl, -1, ts, sz, gt.size, run⟩) (by simp [results, Tryd.results62, go_sem, StateS.v, r0, r1, r2, r3, r4, r5, r6]) rfl ⟨by rw [HR.out], ?_⟩
    have hbw := (hb3 _ _ _).trans (hb.mono (by simp; omega))
    have hle : w.heap.size ≤ w.heap.size + 1 := by omega
    have hle2 : w.heap.size ≤ w.heap.size + 2 := by omega
    exact (((((((hbw.setCell hle2 _).setCell hle _).setCell hle _).setCell hle _).setCell hle _).setCell hle _).setCell hle _).setCell hle _
  · have HR : Hid (stateM h run = ⟨verB h.good, h.floor, verB h.trial, h.tries, h.size, h.got.size, run⟩) := rfl
    have hv2 := hk.trialV ht
    have HV2 := fun wx => refVersion wx h.trial (by omega)
    rw [if_neg (by omega)] at HV2
    have hne := ne_empty ht
    obtain ⟨gd, fl, tr, ts, sz, gt⟩ := h
    simp only [RefS.v] at *
    generalize verB gd = vg at *
    generalize verB tr = vt at *
    clear hk
    have t1 : True := trivial
    go_enter Tryd.func62, Tryd.ntmps62
    go_wp2_with (first
      | (go_at_call 87; have _t := t1; refine (HV _).mono ?_; rintro en w2 ⟨rfl, hb⟩; clear t1; have hA := below_heap hb (alloc_heap (heap_alloc2_old w _ _) _); have hB := below_heap hb (alloc_heap (heap_alloc2_new w _ _) _); have hC := below_heap hb (heap_alloc3_new w _ _ _); have hA' : w2.heap[w.heap.size]? = some (.cells (RefS.cs ⟨md, gd, fl, tr, ts, sz, gt⟩) 83 (0, 0)) := hA; have hB' : w2.heap[w.heap.size + 1]? = some (.cells (StateS.cs ⟨0, 0, 0, 0, 0, 0, 0⟩) 65 (0, 0)) := hB; have hC' : w2.heap[w.heap.size + 2]? = some (.cells (StateS.cs ⟨0, fl, -1, ts, sz, gt.size, run⟩) 65 (0, 0)) := hC; clear hA hB hC; obtain ⟨q0, q1, q2, q3, q4, q5, q6, qf⟩ := ref_cells hA'; obtain ⟨s0, s1, s2, s3, s4, s5, s6, sf⟩ := state_cells hC'; simp only at q0 q1 q2 q3 q4 q5 q6 s0 s1 s2 s3 s4 s5 s6)
      | (go_at_call 87; refine (HV2 _).mono ?_; rintro en w3 ⟨rfl, hb4⟩; have hC2 := heap_setCell_at w2 (w.heap.size + 2) 0 _ _ _ (.int .i64 vg) hC'; have hB2 := (heap_setCell_ne w2 (w.heap.size + 2) (w.heap.size + 1) 0 (.int .i64 vg) (by omega)).trans hB'; have hB3 := below_heap hb4 hB2; have hC3 := below_heap hb4 hC2; have hC4 : w3.heap[w.heap.size + 2]? = some (.cells (StateS.cs ⟨vg, fl, -1, ts, sz, gt.size, run⟩) 65 (0, 0)) := hC3; clear hB2 hC2 hC3; obtain ⟨r0, r1, r2, r3, r4, r5, r6, rf⟩ := state_cells hB3; obtain ⟨x0, x1, x2, x3, x4, x5, x6, xf⟩ := state_cells hC4; simp only at r0 r1 r2 r3 r4 r5 r6 x0 x1 x2 x3 x4 x5 x6))
    refine bodyPost_ret (v := StateS.v ⟨vg, fl, vt, ts, sz, gt.size, run⟩) (by simp [results, Tryd.results62, go_sem, StateS.v, r0, r1, r2, r3, r4, r5, r6]) rfl ⟨by rw [HR.out], ?_⟩
    have hle : w.heap.size ≤ w.heap.size + 1 := by omega
    have hle2 : w.heap.size ≤ w.heap.size + 2 := by omega
    have hbw := ((hb3 _ _ _).trans (hb.mono (by simp; omega))).setCell (p := ⟨w.heap.size + 2, 0, none⟩) hle2 (.int .i64 vg)
    have hbx := hbw.trans (hb4.mono hbw.size)
    exact (((((((hbx.setCell hle2 _).setCell hle _).setCell hle _).setCell hle _).setCell hle _).setCell hle _).setCell hle _).setCell hle _
end Go.Proofs.YtcokahccbjdeaaaDoor
