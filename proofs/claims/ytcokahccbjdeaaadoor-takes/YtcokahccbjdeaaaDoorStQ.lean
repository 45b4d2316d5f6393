import Derived.Test.YtcokahccbjdeaaaDoorStP
namespace Go.Proofs.YtcokahccbjdeaaaDoor
open Go.RowKit

set_option maxRecDepth 100000 in
set_option maxHeartbeats 4000000 in
theorem refStage (w : World) (r : RefS) (n : Int) :
    Calls Tryd.prog 64 #[r.v, .int .i64 n] w fun e w' => e = .returned (.tuple #[(r.stage n).1.v, .int .i64 (r.stage n).2]) ∧ Below w.heap.size w w' := by
  obtain ⟨md, gd, fl, tr, ts, sz, gt⟩ := r
  have hb2 : ∀ o p, Below w.heap.size w ((w.alloc o).alloc p) := fun o p => ((Below.refl _ _).alloc (Nat.le_refl _) _).alloc (by simp) _
  by_cases hn1 : n < 1
  · have HF : Hid (RefS.stage ⟨md, gd, fl, tr, ts, sz, gt⟩ n = (⟨md, gd, fl, tr, ts, sz, gt⟩, 9)) := by unfold RefS.stage Hid; rw [if_pos (Or.inl hn1)]
    simp only [RefS.v] at *
    go_enter Tryd.func64, Tryd.ntmps64
    go_wp2
    refine bodyPost_ret (v := .tuple #[RefS.v ⟨md, gd, fl, tr, ts, sz, gt⟩, .int .i64 9]) (by simp [results, Tryd.results64, go_sem, RefS.v]) rfl ⟨by rw [HF.out]; rfl, hb2 _ _⟩
  by_cases hn2 : 120 < n
  · have HF : Hid (RefS.stage ⟨md, gd, fl, tr, ts, sz, gt⟩ n = (⟨md, gd, fl, tr, ts, sz, gt⟩, 9)) := by unfold RefS.stage Hid; rw [if_pos (Or.inr hn2)]
    simp only [RefS.v] at *
    go_enter Tryd.func64, Tryd.ntmps64
    go_wp2
    refine bodyPost_ret (v := .tuple #[RefS.v ⟨md, gd, fl, tr, ts, sz, gt⟩, .int .i64 9]) (by simp [results, Tryd.results64, go_sem, RefS.v]) rfl ⟨by rw [HF.out]; rfl, hb2 _ _⟩
  by_cases ht : tr.size = 0
  · have HF : Hid (RefS.stage ⟨md, gd, fl, tr, ts, sz, gt⟩ n = (⟨md, gd, fl, tr, ts, n, ⟨#[]⟩⟩, 0)) := by unfold RefS.stage Hid; rw [if_neg (by omega)]; simp only [ht]; rfl
    have et : tr = ⟨#[]⟩ := empty_of_size ht
    subst et
    simp only [RefS.v] at *
    go_enter Tryd.func64, Tryd.ntmps64
    go_wp2
    refine bodyPost_ret (v := .tuple #[RefS.v ⟨md, gd, fl, ⟨#[]⟩, ts, n, ⟨#[]⟩⟩, .int .i64 0]) (by simp [results, Tryd.results64, go_sem, RefS.v]) rfl ⟨by rw [HF.out]; rfl, hb2 _ _⟩
  · have HF : Hid (RefS.stage ⟨md, gd, fl, tr, ts, sz, gt⟩ n = (⟨md, gd, fl, tr, ts, sz, gt⟩, 10)) := by unfold RefS.stage Hid; rw [if_neg (by omega)]; simp only; rw [if_pos ht]
    have hne := ne_empty ht
    simp only [RefS.v] at *
    go_enter Tryd.func64, Tryd.ntmps64
    go_wp2
    refine bodyPost_ret (v := .tuple #[RefS.v ⟨md, gd, fl, tr, ts, sz, gt⟩, .int .i64 10]) (by simp [results, Tryd.results64, go_sem, RefS.v]) rfl ⟨by rw [HF.out]; rfl, hb2 _ _⟩

set_option maxRecDepth 100000 in
set_option maxHeartbeats 4000000 in
theorem refWrite (w : World) (r : RefS) (d : ByteArray) (hd : d.size < 4611686018427387904) (hg : r.h.got.size ≤ 1048576) :
    Calls Tryd.prog 65 #[r.v, .string d] w fun e w' => e = .returned (.tuple #[(r.write d).1.v, .int .i64 (r.write d).2]) ∧ Below w.heap.size w w' := by
  obtain ⟨md, gd, fl, tr, ts, sz, gt⟩ := r
  simp only at hg
  have hb2 : ∀ o p, Below w.heap.size w ((w.alloc o).alloc p) := fun o p => ((Below.refl _ _).alloc (Nat.le_refl _) _).alloc (by simp) _
  by_cases hs : sz = 0
  · have HF : Hid (RefS.write ⟨md, gd, fl, tr, ts, sz, gt⟩ d = (⟨md, gd, fl, tr, ts, sz, gt⟩, 11)) := by unfold RefS.write Hid; rw [if_pos hs]
    subst hs
    simp only [RefS.v] at *
    go_enter Tryd.func65, Tryd.ntmps65
    go_wp2
    refine bodyPost_ret (v := .tuple #[RefS.v ⟨md, gd, fl, tr, ts, 0, gt⟩, .int .i64 11]) (by simp [results, Tryd.results65, go_sem, RefS.v]) rfl ⟨by rw [HF.out]; rfl, hb2 _ _⟩
  by_cases c1 : d.size = 0
  · have HF : Hid (RefS.write ⟨md, gd, fl, tr, ts, sz, gt⟩ d = (⟨md, gd, fl, tr, ts, sz, gt⟩, 9)) := by unfold RefS.write Hid; rw [if_neg hs]; simp only; rw [if_pos (Or.inl c1)]
    have ed : d = ⟨#[]⟩ := empty_of_size c1
    subst ed
    simp only [RefS.v] at *
    clear c1
    go_enter Tryd.func65, Tryd.ntmps65
    go_wp2
    refine bodyPost_ret (v := .tuple #[RefS.v ⟨md, gd, fl, tr, ts, sz, gt⟩, .int .i64 9]) (by simp [results, Tryd.results65, go_sem, RefS.v]) rfl ⟨by rw [HF.out]; rfl, hb2 _ _⟩
  have hne := ne_empty c1
  by_cases c2 : (8 : Int) < d.size
  · have HF : Hid (RefS.write ⟨md, gd, fl, tr, ts, sz, gt⟩ d = (⟨md, gd, fl, tr, ts, sz, gt⟩, 9)) := by unfold RefS.write Hid; rw [if_neg hs]; simp only; rw [if_pos (by omega)]
    simp only [RefS.v] at *
    go_enter Tryd.func65, Tryd.ntmps65
    go_wp2
    refine bodyPost_ret (v := .tuple #[RefS.v ⟨md, gd, fl, tr, ts, sz, gt⟩, .int .i64 9]) (by simp [results, Tryd.results65, go_sem, RefS.v]) rfl ⟨by rw [HF.out]; rfl, hb2 _ _⟩
  by_cases c3 : sz < (gt.size : Int) + d.size
  · have HF : Hid (RefS.write ⟨md, gd, fl, tr, ts, sz, gt⟩ d = (⟨md, gd, fl, tr, ts, sz, gt⟩, 9)) := by unfold RefS.write Hid; rw [if_neg hs]; simp only; rw [if_pos (by omega)]
    simp only [RefS.v] at *
    go_enter Tryd.func65, Tryd.ntmps65
    go_wp2
    refine bodyPost_ret (v := .tuple #[RefS.v ⟨md, gd, fl, tr, ts, sz, gt⟩, .int .i64 9]) (by simp [results, Tryd.results65, go_sem, RefS.v]) rfl ⟨by rw [HF.out]; rfl, hb2 _ _⟩
  · have HF : Hid (RefS.write ⟨md, gd, fl, tr, ts, sz, gt⟩ d = (⟨md, gd, fl, tr, ts, sz, gt ++ d⟩, 0)) := by unfold RefS.write Hid; rw [if_neg hs]; simp only; rw [if_neg (by omega)]
    have hd8 : d.size ≤ 8 := by omega
    simp only [RefS.v] at *
    go_enter Tryd.func65, Tryd.ntmps65
    go_wp2
    refine bodyPost_ret (v := .tuple #[RefS.v ⟨md, gd, fl, tr, ts, sz, gt ++ d⟩, .int .i64 0]) (by simp [results, Tryd.results65, go_sem, RefS.v]) rfl ⟨by rw [HF.out]; rfl, hb2 _ _⟩

set_option maxRecDepth 100000 in
set_option maxHeartbeats 4000000 in
theorem refActivate (w : World) (r : RefS) (hg : r.h.got.size ≤ 1048576) :
    Calls Tryd.prog 66 #[r.v] w fun e w' => e = .returned (.tuple #[r.activate.1.v, .int .i64 r.activate.2]) ∧ Below w.heap.size w w' := by
  obtain ⟨md, gd, fl, tr, ts, sz, gt⟩ := r
  simp only at hg
  have hb2 : ∀ o p, Below w.heap.size w ((w.alloc o).alloc p) := fun o p => ((Below.refl _ _).alloc (Nat.le_refl _) _).alloc (by simp) _
  have HU := fun wx => refUnp wx gt (by omega)
  have hle : w.heap.size ≤ w.heap.size + 1 := by omega
  by_cases hs : sz = 0
  · have HF : Hid (RefS.activate ⟨md, gd, fl, tr, ts, sz, gt⟩ = (⟨md, gd, fl, tr, ts, sz, gt⟩, 11)) := by unfold RefS.activate Hid; rw [if_pos hs]
    subst hs
    simp only [RefS.v] at *
    go_enter Tryd.func66, Tryd.ntmps66
    go_wp2
    refine bodyPost_ret (v := .tuple #[RefS.v ⟨md, gd, fl, tr, ts, 0, gt⟩, .int .i64 11]) (by simp [results, Tryd.results66, go_sem, RefS.v]) rfl ⟨by rw [HF.out]; rfl, hb2 _ _⟩
  by_cases hsh : (gt.size : Int) < sz
  · have HF : Hid (RefS.activate ⟨md, gd, fl, tr, ts, sz, gt⟩ = (⟨md, gd, fl, tr, ts, sz, gt⟩, 12)) := by unfold RefS.activate Hid; rw [if_neg hs]; simp only; rw [if_pos hsh]
    simp only [RefS.v] at *
    go_enter Tryd.func66, Tryd.ntmps66
    go_wp2
    refine bodyPost_ret (v := .tuple #[RefS.v ⟨md, gd, fl, tr, ts, sz, gt⟩, .int .i64 12]) (by simp [results, Tryd.results66, go_sem, RefS.v]) rfl ⟨by rw [HF.out]; rfl, hb2 _ _⟩
  by_cases hv : verB gt < 0
  · have HF : Hid (RefS.activate ⟨md, gd, fl, tr, ts, sz, gt⟩ = (⟨md, gd, fl, tr, ts, sz, gt⟩, 6)) := by unfold RefS.activate Hid; rw [if_neg hs]; simp only; rw [if_neg hsh, if_pos hv]
    simp only [if_pos hv, RefS.v] at *
    clear hv
    go_enter Tryd.func66, Tryd.ntmps66
    go_wp2_with (go_at_call 88; refine (HU _).mono ?_; rintro en w2 ⟨v, e, a, n, cap, rfl, hv, hb⟩; clear hv; have hA := below_heap hb (heap_alloc2_old w _ _); have hB := below_heap hb (heap_alloc2_new w _ _); have hA' : w2.heap[w.heap.size]? = some (.cells (RefS.cs ⟨md, gd, fl, tr, ts, sz, gt⟩) 83 (0, 0)) := hA; have hB' : w2.heap[w.heap.size + 1]? = some (.cells noRef.cs 83 (0, 0)) := hB; clear hA hB; obtain ⟨q0, q1, q2, q3, q4, q5, q6, qf⟩ := ref_cells hA'; obtain ⟨r0, r1, r2, r3, r4, r5, r6, rf⟩ := ref_cells hB'; simp only [noRef, noHeld] at q0 q1 q2 q3 q4 q5 q6 r0 r1 r2 r3 r4 r5 r6)
    refine bodyPost_ret (v := .tuple #[RefS.v ⟨md, gd, fl, tr, ts, sz, gt⟩, .int .i64 6]) (by simp [results, Tryd.results66, go_sem, RefS.v, r0, r1, r2, r3, r4, r5, r6]) rfl ⟨by rw [HF.out]; rfl, ?_⟩
    have hbw := (hb2 _ _).trans (hb.mono (by simp; omega))
    exact ((((((hbw.setCell hle _).setCell hle _).setCell hle _).setCell hle _).setCell hle _).setCell hle _).setCell hle _
  by_cases ho : verB gt < fl
  · have HF : Hid (RefS.activate ⟨md, gd, fl, tr, ts, sz, gt⟩ = (⟨md, gd, fl, tr, ts, sz, gt⟩, 13)) := by unfold RefS.activate Hid; rw [if_neg hs]; simp only; rw [if_neg hsh, if_neg hv, if_pos ho]
    simp only [if_neg hv, RefS.v] at *
    generalize verB gt = vt at *
    clear hv
    go_enter Tryd.func66, Tryd.ntmps66
    go_wp2_with (go_at_call 88; refine (HU _).mono ?_; rintro en w2 ⟨v, e, a, n, cap, rfl, hv, hb⟩; subst hv; have hA := below_heap hb (heap_alloc2_old w _ _); have hB := below_heap hb (heap_alloc2_new w _ _); have hA' : w2.heap[w.heap.size]? = some (.cells (RefS.cs ⟨md, gd, fl, tr, ts, sz, gt⟩) 83 (0, 0)) := hA; have hB' : w2.heap[w.heap.size + 1]? = some (.cells noRef.cs 83 (0, 0)) := hB; clear hA hB; obtain ⟨q0, q1, q2, q3, q4, q5, q6, qf⟩ := ref_cells hA'; obtain ⟨r0, r1, r2, r3, r4, r5, r6, rf⟩ := ref_cells hB'; simp only [noRef, noHeld] at q0 q1 q2 q3 q4 q5 q6 r0 r1 r2 r3 r4 r5 r6)
    refine bodyPost_ret (v := .tuple #[RefS.v ⟨md, gd, fl, tr, ts, sz, gt⟩, .int .i64 13]) (by simp [results, Tryd.results66, go_sem, RefS.v, r0, r1, r2, r3, r4, r5, r6]) rfl ⟨by rw [HF.out]; rfl, ?_⟩
    have hbw := (hb2 _ _).trans (hb.mono (by simp; omega))
    exact ((((((hbw.setCell hle _).setCell hle _).setCell hle _).setCell hle _).setCell hle _).setCell hle _).setCell hle _
  · have HF : Hid (RefS.activate ⟨md, gd, fl, tr, ts, sz, gt⟩ = (⟨md, gd, fl, gt, 3, 0, ⟨#[]⟩⟩, 0)) := by unfold RefS.activate Hid; rw [if_neg hs]; simp only; rw [if_neg hsh, if_neg hv, if_neg ho]; rfl
    simp only [if_neg hv, RefS.v] at *
    generalize verB gt = vt at *
    clear hv
    go_enter Tryd.func66, Tryd.ntmps66
    go_wp2_with (go_at_call 88; refine (HU _).mono ?_; rintro en w2 ⟨v, e, a, n, cap, rfl, hv, hb⟩; subst hv; have hA := below_heap hb (heap_alloc2_old w _ _); have hB := below_heap hb (heap_alloc2_new w _ _); have hA' : w2.heap[w.heap.size]? = some (.cells (RefS.cs ⟨md, gd, fl, tr, ts, sz, gt⟩) 83 (0, 0)) := hA; have hB' : w2.heap[w.heap.size + 1]? = some (.cells noRef.cs 83 (0, 0)) := hB; clear hA hB; obtain ⟨q0, q1, q2, q3, q4, q5, q6, qf⟩ := ref_cells hA'; obtain ⟨r0, r1, r2, r3, r4, r5, r6, rf⟩ := ref_cells hB'; simp only [noRef, noHeld] at q0 q1 q2 q3 q4 q5 q6 r0 r1 r2 r3 r4 r5 r6)
    refine bodyPost_ret (v := .tuple #[RefS.v ⟨md, gd, fl, gt, 3, 0, ⟨#[]⟩⟩, .int .i64 0]) (by simp [results, Tryd.results66, go_sem, RefS.v, r0, r1, r2, r3, r4, r5, r6]) rfl ⟨by rw [HF.out]; rfl, ?_⟩
    have hbw := (hb2 _ _).trans (hb.mono (by simp; omega))
    have hl0 := Nat.le_refl w.heap.size
    exact ((((((((((hbw.setCell hl0 _).setCell hl0 _).setCell hl0 _).setCell hl0 _).setCell hle _).setCell hle _).setCell hle _).setCell hle _).setCell hle _).setCell hle _).setCell hle _
end Go.Proofs.YtcokahccbjdeaaaDoor
