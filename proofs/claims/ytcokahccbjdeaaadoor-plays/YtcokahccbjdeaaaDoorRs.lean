import Derived.Test.YtcokahccbjdeaaaDoorStQ
import Derived.Test.YtcokahccbjdeaaaDoorDevs
import Derived.Test.YtcokahccbjdeaaaDoorLds
import Derived.Test.YtcokahccbjdeaaaDoorStV
namespace Go.Proofs.YtcokahccbjdeaaaDoor
open Go.RowKit


set_option maxRecDepth 100000 in
set_option maxHeartbeats 4000000 in
theorem refBoot (w : World) (r : RefS) (h1 : -9223372036854775807 ≤ r.h.tries) (h2 : r.h.tries < 9223372036854775808) :
    Calls Tryd.prog 67 #[r.v] w fun e w' => e = .returned (.tuple #[r.boot.1.v, .int .i64 r.boot.2]) ∧ Below w.heap.size w w' := by
  obtain ⟨md, gd, fl, tr, ts, sz, gt⟩ := r
  simp only at h1 h2
  have hb2 : ∀ o p, Below w.heap.size w ((w.alloc o).alloc p) := fun o p => ((Below.refl _ _).alloc (Nat.le_refl _) _).alloc (by simp) _
  by_cases ht : tr.size = 0
  · have HF : Hid (RefS.boot ⟨md, gd, fl, tr, ts, sz, gt⟩ = (⟨md, gd, fl, ⟨#[]⟩, ts, sz, gt⟩, 1)) := by unfold RefS.boot Hid; simp only; rw [if_neg (by simp [ht])]; rfl
    have et : tr = ⟨#[]⟩ := empty_of_size ht
    subst et
    simp only [RefS.v] at *
    go_enter Tryd.func67, Tryd.ntmps67
    go_wp2
    refine bodyPost_ret (v := .tuple #[RefS.v ⟨md, gd, fl, ⟨#[]⟩, ts, sz, gt⟩, .int .i64 1]) (by simp [results, Tryd.results67, go_sem, RefS.v]) rfl ⟨by rw [HF.out]; rfl, hb2 _ _⟩
  have hne := ne_empty ht
  by_cases h0 : 0 < ts
  · have HF : Hid (RefS.boot ⟨md, gd, fl, tr, ts, sz, gt⟩ = (⟨md, gd, fl, tr, ts - 1, sz, gt⟩, 2)) := by unfold RefS.boot Hid; simp only; rw [if_pos ⟨ht, h0⟩]
    simp only [RefS.v] at *
    go_enter Tryd.func67, Tryd.ntmps67
    go_wp2
    refine bodyPost_ret (v := .tuple #[RefS.v ⟨md, gd, fl, tr, ts - 1, sz, gt⟩, .int .i64 2]) (by simp [results, Tryd.results67, go_sem, RefS.v]) rfl ⟨by rw [HF.out]; rfl, hb2 _ _⟩
  · have HF : Hid (RefS.boot ⟨md, gd, fl, tr, ts, sz, gt⟩ = (⟨md, gd, fl, ⟨#[]⟩, ts, sz, gt⟩, 1)) := by unfold RefS.boot Hid; simp only; rw [if_neg (by simp [h0])]; rfl
    simp only [RefS.v] at *
    go_enter Tryd.func67, Tryd.ntmps67
    go_wp2
    refine bodyPost_ret (v := .tuple #[RefS.v ⟨md, gd, fl, ⟨#[]⟩, ts, sz, gt⟩, .int .i64 1]) (by simp [results, Tryd.results67, go_sem, RefS.v]) rfl ⟨by rw [HF.out]; rfl, hb2 _ _⟩

set_option maxRecDepth 100000 in
set_option maxHeartbeats 4000000 in
theorem refConfirm (w : World) (r : RefS) (run : Int) :
    Calls Tryd.prog 68 #[r.v, .int .i64 run] w fun e w' => e = .returned (.tuple #[(r.confirm run).1.v, .int .i64 (r.confirm run).2.1, .int .i64 (r.confirm run).2.2]) ∧ Below w.heap.size w w' := by
  obtain ⟨md, gd, fl, tr, ts, sz, gt⟩ := r
  have hb2 : ∀ o p, Below w.heap.size w ((w.alloc o).alloc p) := fun o p => ((Below.refl _ _).alloc (Nat.le_refl _) _).alloc (by simp) _
  by_cases hr : run = 2
  · subst hr
    have HF : Hid (RefS.confirm ⟨md, gd, fl, tr, ts, sz, gt⟩ 2 = (⟨md, tr, fl, ⟨#[]⟩, 0, sz, gt⟩, 1, 0)) := rfl
    simp only [RefS.v] at *
    go_enter Tryd.func68, Tryd.ntmps68
    go_wp2
    refine bodyPost_ret (v := .tuple #[RefS.v ⟨md, tr, fl, ⟨#[]⟩, 0, sz, gt⟩, .int .i64 1, .int .i64 0]) (by simp [results, Tryd.results68, go_sem, RefS.v]) rfl ⟨by rw [HF.out]; rfl, hb2 _ _⟩
  · have HF : Hid (RefS.confirm ⟨md, gd, fl, tr, ts, sz, gt⟩ run = (⟨md, gd, fl, tr, ts, sz, gt⟩, run, 14)) := by unfold RefS.confirm Hid; rw [if_pos hr]
    simp only [RefS.v] at *
    go_enter Tryd.func68, Tryd.ntmps68
    go_wp2
    refine bodyPost_ret (v := .tuple #[RefS.v ⟨md, gd, fl, tr, ts, sz, gt⟩, .int .i64 run, .int .i64 14]) (by simp [results, Tryd.results68, go_sem, RefS.v]) rfl ⟨by rw [HF.out]; rfl, hb2 _ _⟩

set_option maxRecDepth 100000 in
set_option maxHeartbeats 4000000 in
theorem refDrop (w : World) (r : RefS) (run : Int) :
    Calls Tryd.prog 70 #[r.v, .int .i64 run] w fun e w' => e = .returned (.tuple #[(r.drop run).1.v, .int .i64 (r.drop run).2.1, .int .i64 (r.drop run).2.2]) ∧ Below w.heap.size w w' := by
  obtain ⟨md, gd, fl, tr, ts, sz, gt⟩ := r
  have hb2 : ∀ o p, Below w.heap.size w ((w.alloc o).alloc p) := fun o p => ((Below.refl _ _).alloc (Nat.le_refl _) _).alloc (by simp) _
  have HFd : ¬ (tr.size = 0 ∧ sz = 0) → Hid (RefS.drop ⟨md, gd, fl, tr, ts, sz, gt⟩ run = (⟨md, gd, fl, ⟨#[]⟩, 0, 0, ⟨#[]⟩⟩, if run = 2 then 0 else run, 0)) := by
    intro h; unfold RefS.drop Hid; simp only; rw [if_neg h]; rfl
  by_cases ht : tr.size = 0
  · by_cases hs : sz = 0
    · have HF : Hid (RefS.drop ⟨md, gd, fl, tr, ts, sz, gt⟩ run = (⟨md, gd, fl, tr, ts, sz, gt⟩, run, 11)) := by unfold RefS.drop Hid; simp only; rw [if_pos ⟨ht, hs⟩]
      have et : tr = ⟨#[]⟩ := empty_of_size ht
      subst et hs
      simp only [RefS.v] at *
      clear HFd
      go_enter Tryd.func70, Tryd.ntmps70
      go_wp2
      refine bodyPost_ret (v := .tuple #[RefS.v ⟨md, gd, fl, ⟨#[]⟩, ts, 0, gt⟩, .int .i64 run, .int .i64 11]) (by simp [results, Tryd.results70, go_sem, RefS.v]) rfl ⟨by rw [HF.out]; rfl, hb2 _ _⟩
    · have HF := HFd (fun h => hs h.2)
      have et : tr = ⟨#[]⟩ := empty_of_size ht
      subst et
      simp only [RefS.v] at *
      clear HFd
      by_cases hr : run = 2
      · subst hr
        go_enter Tryd.func70, Tryd.ntmps70
        go_wp2
        refine bodyPost_ret (v := .tuple #[RefS.v ⟨md, gd, fl, ⟨#[]⟩, 0, 0, ⟨#[]⟩⟩, .int .i64 0, .int .i64 0]) (by simp [results, Tryd.results70, go_sem, RefS.v]) rfl ⟨by rw [HF.out]; rfl, hb2 _ _⟩
      · rw [if_neg hr] at HF
        go_enter Tryd.func70, Tryd.ntmps70
        go_wp2
        refine bodyPost_ret (v := .tuple #[RefS.v ⟨md, gd, fl, ⟨#[]⟩, 0, 0, ⟨#[]⟩⟩, .int .i64 run, .int .i64 0]) (by simp [results, Tryd.results70, go_sem, RefS.v]) rfl ⟨by rw [HF.out]; rfl, hb2 _ _⟩
  · have HF := HFd (fun h => ht h.1)
    have hne := ne_empty ht
    simp only [RefS.v] at *
    clear HFd
    by_cases hr : run = 2
    · subst hr
      go_enter Tryd.func70, Tryd.ntmps70
      go_wp2
      refine bodyPost_ret (v := .tuple #[RefS.v ⟨md, gd, fl, ⟨#[]⟩, 0, 0, ⟨#[]⟩⟩, .int .i64 0, .int .i64 0]) (by simp [results, Tryd.results70, go_sem, RefS.v]) rfl ⟨by rw [HF.out]; rfl, hb2 _ _⟩
    · rw [if_neg hr] at HF
      go_enter Tryd.func70, Tryd.ntmps70
      go_wp2
      refine bodyPost_ret (v := .tuple #[RefS.v ⟨md, gd, fl, ⟨#[]⟩, 0, 0, ⟨#[]⟩⟩, .int .i64 run, .int .i64 0]) (by simp [results, Tryd.results70, go_sem, RefS.v]) rfl ⟨by rw [HF.out]; rfl, hb2 _ _⟩

set_option maxRecDepth 100000 in
set_option maxHeartbeats 4000000 in
theorem refRaise (w : World) (r : RefS) (hg : r.h.good.size < 4611686018427387904) :
    Calls Tryd.prog 69 #[r.v] w fun e w' => e = .returned (.tuple #[r.raise.1.v, .int .i64 r.raise.2]) ∧ Below w.heap.size w w' := by
  obtain ⟨md, gd, fl, tr, ts, sz, gt⟩ := r
  have HV := fun wx => refVersion wx gd hg
  have hb2 : ∀ o p, Below w.heap.size w ((w.alloc o).alloc p) := fun o p => ((Below.refl _ _).alloc (Nat.le_refl _) _).alloc (by simp) _
  by_cases ht : tr.size = 0
  · have HF : Hid (RefS.raise ⟨md, gd, fl, tr, ts, sz, gt⟩ = (⟨md, gd, if verB gd < 0 then 0 else verB gd, tr, ts, sz, gt⟩, 0)) := by unfold RefS.raise Hid; simp only; rw [if_neg (by simp [ht])]
    have et : tr = ⟨#[]⟩ := empty_of_size ht
    subst et
    generalize (if verB gd < 0 then 0 else verB gd) = vg at *
    simp only [RefS.v] at *
    clear ht
    go_enter Tryd.func69, Tryd.ntmps69
    go_wp2_with (go_at_call 87; refine (HV _).mono ?_; rintro en w2 ⟨rfl, hb⟩; have hA := below_heap hb (heap_alloc2_old w _ _); have hB := below_heap hb (heap_alloc2_new w _ _); have hA' : w2.heap[w.heap.size]? = some (.cells (RefS.cs ⟨md, gd, fl, ⟨#[]⟩, ts, sz, gt⟩) 83 (0, 0)) := hA; have hB' : w2.heap[w.heap.size + 1]? = some (.cells noRef.cs 83 (0, 0)) := hB; clear hA hB; obtain ⟨q0, q1, q2, q3, q4, q5, q6, qf⟩ := ref_cells hA'; obtain ⟨r0, r1, r2, r3, r4, r5, r6, rf⟩ := ref_cells hB'; simp only [noRef, noHeld] at q0 q1 q2 q3 q4 q5 q6 r0 r1 r2 r3 r4 r5 r6)
    refine bodyPost_ret (v := .tuple #[RefS.v ⟨md, gd, vg, ⟨#[]⟩, ts, sz, gt⟩, .int .i64 0]) (by simp [results, Tryd.results69, go_sem, RefS.v, r0, r1, r2, r3, r4, r5, r6]) rfl ⟨by rw [HF.out]; rfl, ?_⟩
    have hbw := (hb2 _ _).trans (hb.mono (by simp; omega))
    have hle : w.heap.size ≤ w.heap.size + 1 := by omega
    have hl0 := Nat.le_refl w.heap.size
    exact (((((((hbw.setCell hl0 _).setCell hle _).setCell hle _).setCell hle _).setCell hle _).setCell hle _).setCell hle _).setCell hle _
  · have HF : Hid (RefS.raise ⟨md, gd, fl, tr, ts, sz, gt⟩ = (⟨md, gd, fl, tr, ts, sz, gt⟩, 10)) := by unfold RefS.raise Hid; simp only; rw [if_pos ht]
    have hne := ne_empty ht
    simp only [RefS.v] at *
    go_enter Tryd.func69, Tryd.ntmps69
    go_wp2
    refine bodyPost_ret (v := .tuple #[RefS.v ⟨md, gd, fl, tr, ts, sz, gt⟩, .int .i64 10]) (by simp [results, Tryd.results69, go_sem, RefS.v]) rfl ⟨by rw [HF.out]; rfl, hb2 _ _⟩

end Go.Proofs.YtcokahccbjdeaaaDoor

namespace Go.Proofs.YtcokahccbjdeaaaDoor
open Go.RowKit

set_option maxRecDepth 100000 in
set_option maxHeartbeats 4000000 in
theorem refJump (w : World) (r : RefS) (run : Int) (h1 : r.h.good.size < 4611686018427387904) (h2 : r.h.trial.size < 4611686018427387904) :
    Calls Tryd.prog 44 #[r.v, .int .i64 run] w fun e w' => e = .returned (.agg #[.bool (run == 2), .int .i64 (loadedB (if run = 2 then r.h.trial else r.h.good)).1, .int .i64 (loadedB (if run = 2 then r.h.trial else r.h.good)).2.1, .string (loadedB (if run = 2 then r.h.trial else r.h.good)).2.2]) ∧ Below w.heap.size w w' := by
  obtain ⟨md, gd, fl, tr, ts, sz, gt⟩ := r
  simp only at h1 h2
  have hb2 : ∀ o p, Below w.heap.size w ((w.alloc o).alloc p) := fun o p => ((Below.refl _ _).alloc (Nat.le_refl _) _).alloc (by simp) _
  have hle : w.heap.size ≤ w.heap.size + 1 := by omega
  by_cases hr : run = 2
  · subst hr
    have HL := fun wx => refLoad_any wx tr h2
    simp only [RefS.v, if_true] at *
    generalize (if verB tr < 0 then (6 : Int) else 0) = ee at *
    generalize loadedB tr = lo at *
    obtain ⟨a, b, c⟩ := lo
    simp only at *
    go_enter Tryd.func44, Tryd.ntmps44
    go_wp2_with (go_at_call 74; refine (HL _).mono ?_; rintro en w2 ⟨rfl, hb⟩; have hB := below_heap hb (heap_alloc2_new w _ _); obtain ⟨r0, r1, r2, r3, rf⟩ := jump_alloc hB)
    refine bodyPost_ret (v := .agg #[.bool true, .int .i64 a, .int .i64 b, .string c]) (by simp [results, Tryd.results44, go_sem, r0, r1, r2, r3]) rfl ⟨rfl, ?_⟩
    have hbw := (hb2 _ _).trans (hb.mono (by simp; omega))
    have hbA := hbw.alloc hbw.size (.cells #[.int .i64 a, .int .i64 b, .string c] 36)
    exact (((hbA.setCell hle _).setCell hle _).setCell hle _).setCell hle _
  · have hrb : (run == 2) = false := by simp [hr]
    have HL := fun wx => refLoad_any wx gd h1
    simp only [RefS.v, if_neg hr, hrb] at *
    generalize (if verB gd < 0 then (6 : Int) else 0) = ee at *
    generalize loadedB gd = lo at *
    obtain ⟨a, b, c⟩ := lo
    simp only at *
    go_enter Tryd.func44, Tryd.ntmps44
    go_wp2_with (go_at_call 74; refine (HL _).mono ?_; rintro en w2 ⟨rfl, hb⟩; have hB := below_heap hb (heap_alloc2_new w _ _); obtain ⟨r0, r1, r2, r3, rf⟩ := jump_alloc hB)
    refine bodyPost_ret (v := .agg #[.bool false, .int .i64 a, .int .i64 b, .string c]) (by simp [results, Tryd.results44, go_sem, r0, r1, r2, r3]) rfl ⟨rfl, ?_⟩
    have hbw := (hb2 _ _).trans (hb.mono (by simp; omega))
    have hbA := hbw.alloc hbw.size (.cells #[.int .i64 a, .int .i64 b, .string c] 36)
    exact (((hbA.setCell hle _).setCell hle _).setCell hle _).setCell hle _
end Go.Proofs.YtcokahccbjdeaaaDoor

namespace Go.Proofs.YtcokahccbjdeaaaDoor
open Go.RowKit

/-- What is held behind a step, what runs, the error: all kinds. -/
def opRef2 (r : RefS) (run : Int) (o : OpS) : RefS × Int × Int :=
  if o.kind = 6 then (r.boot.1, r.boot.2, 0) else if o.kind = 7 then r.confirm run else if o.kind = 8 then (r.raise.1, run, r.raise.2) else if o.kind = 9 then r.drop run else ((opRef r o).1, run, (opRef r o).2)
set_option maxRecDepth 100000 in
set_option maxHeartbeats 8000000 in
theorem after_more (w : World) (B k b g m : Nat) (c : ChipS) (d : Option Nat) (run : Int) (r : RefS) (o : OpS) (D : Desk B w k b g m c d run r) (hk : o.kind = 6 ∨ o.kind = 7 ∨ o.kind = 8 ∨ o.kind = 9) (hg : r.h.good.size < 4611686018427387904) (ht1 : -9223372036854775807 ≤ r.h.tries) (ht2 : r.h.tries < 9223372036854775808) :
    Calls Tryd.prog 37 #[.pointer (some ⟨k, 0, none⟩), o.v] w fun e w' => e = .returned (.tuple #[(opRef2 r run o).1.v, .int .i64 (opRef2 r run o).2.1, .int .i64 (opRef2 r run o).2.2]) ∧ Below w.heap.size w w' := by
  have hb3 : ∀ x y z, Below w.heap.size w (((w.alloc x).alloc y).alloc z) := fun x y z => (((Below.refl _ _).alloc (Nat.le_refl _) _).alloc (by simp) _).alloc (by simp; omega) _
  have Q := fun x y => desk_cells (at3 D.hk x y)
  have f3 : ∀ x y, ((w.alloc x).alloc y).cell? ⟨k, 3, none⟩ = some (.slice (some ⟨m, 0, none⟩) 1 1) := fun x y => (Q x y).2.2.2.1
  have f2 : ∀ x y z, (((w.alloc x).alloc y).alloc z).cell? ⟨k, 2, none⟩ = some (.int .i64 run) := fun x y z => (desk_cells (alloc_heap (at3 D.hk x y) z)).2.2.1
  have R := fun x y => ref_cells (at3 D.hm x y)
  have r0 : ∀ x y, ((w.alloc x).alloc y).cell? ⟨m, 0, none⟩ = some (.bool r.made) := fun x y => (R x y).1
  have r1 : ∀ x y, ((w.alloc x).alloc y).cell? ⟨m, 1, none⟩ = some (.string r.h.good) := fun x y => (R x y).2.1
  have r2 : ∀ x y, ((w.alloc x).alloc y).cell? ⟨m, 2, none⟩ = some (.int .i64 r.h.floor) := fun x y => (R x y).2.2.1
  have r3 : ∀ x y, ((w.alloc x).alloc y).cell? ⟨m, 3, none⟩ = some (.string r.h.trial) := fun x y => (R x y).2.2.2.1
  have r4 : ∀ x y, ((w.alloc x).alloc y).cell? ⟨m, 4, none⟩ = some (.int .i64 r.h.tries) := fun x y => (R x y).2.2.2.2.1
  have r5 : ∀ x y, ((w.alloc x).alloc y).cell? ⟨m, 5, none⟩ = some (.int .i64 r.h.size) := fun x y => (R x y).2.2.2.2.2.1
  have r6 : ∀ x y, ((w.alloc x).alloc y).cell? ⟨m, 6, none⟩ = some (.string r.h.got) := fun x y => (R x y).2.2.2.2.2.2.1
  clear Q R D
  obtain ⟨kd, n, ct, s, tn, wh⟩ := o
  simp only [OpS.v] at *
  rcases hk with rfl | rfl | rfl | rfl
  · have HF : Hid (opRef2 r run ⟨6, n, ct, s, tn, wh⟩ = (r.boot.1, r.boot.2, 0)) := by unfold opRef2 Hid; simp
    generalize opRef2 r run ⟨6, n, ct, s, tn, wh⟩ = out at *
    have HC := fun wx => refBoot wx r ht1 ht2
    have E1 : out.1 = r.boot.1 := by rw [HF.out]
    have E2 : out.2.1 = r.boot.2 := by rw [HF.out]
    have E3 : out.2.2 = 0 := by rw [HF.out]
    rw [← E1, ← E2] at HC
    clear E1 E2
    obtain ⟨⟨md', gd', fl', tr', ts', sz', gt'⟩, rn', e'⟩ := out
    obtain ⟨md, gd, fl, tr, ts, sz, gt⟩ := r
    simp only [RefS.v] at *

    subst E3
    clear HF hg
    go_enter Tryd.func37, Tryd.ntmps37
    go_wp2_with (go_at_call 67; refine (HC _).mono ?_; rintro en w2 ⟨rfl, hb⟩; have hA := below_heap hb (old1 w _ _ _); have hB := below_heap hb (heap_alloc3_new w _ _ _); have hA' : w2.heap[w.heap.size + 1]? = some (.cells noRef.cs 83 (0, 0)) := hA; have hB' : w2.heap[w.heap.size + 2]? = some (.cells (RefS.cs ⟨md, gd, fl, tr, ts, sz, gt⟩) 83 (0, 0)) := hB; clear hA hB; obtain ⟨x0, x1, x2, x3, x4, x5, x6, xf⟩ := ref_cells hA'; obtain ⟨y0, y1, y2, y3, y4, y5, y6, yf⟩ := ref_cells hB'; simp only [noRef, noHeld] at x0 x1 x2 x3 x4 x5 x6 y0 y1 y2 y3 y4 y5 y6)
    refine bodyPost_ret (v := .tuple #[RefS.v ⟨md', gd', fl', tr', ts', sz', gt'⟩, .int .i64 rn', .int .i64 0]) (by simp [results, Tryd.results37, go_sem, RefS.v, x0, x1, x2, x3, x4, x5, x6]) rfl ⟨rfl, ?_⟩
    have hbw := (hb3 _ _ _).trans (hb.mono (by simp; omega))
    have hl1 : w.heap.size ≤ w.heap.size + 1 := by omega
    have hl2 : w.heap.size ≤ w.heap.size + 2 := by omega
    exact ((((((((((((((hbw.setCell hl2 _).setCell hl2 _).setCell hl2 _).setCell hl2 _).setCell hl2 _).setCell hl2 _).setCell hl2 _).setCell hl1 _).setCell hl1 _).setCell hl1 _).setCell hl1 _).setCell hl1 _).setCell hl1 _).setCell hl1 _)
  · have HF : Hid (opRef2 r run ⟨7, n, ct, s, tn, wh⟩ = r.confirm run) := by unfold opRef2 Hid; simp
    generalize opRef2 r run ⟨7, n, ct, s, tn, wh⟩ = out at *
    have HC := fun wx => refConfirm wx r run
    rw [← HF.out] at HC
    obtain ⟨⟨md', gd', fl', tr', ts', sz', gt'⟩, rn', e'⟩ := out
    obtain ⟨md, gd, fl, tr, ts, sz, gt⟩ := r
    simp only [RefS.v] at *

    clear HF hg
    go_enter Tryd.func37, Tryd.ntmps37
    go_wp2_with (go_at_call 68; refine (HC _).mono ?_; rintro en w2 ⟨rfl, hb⟩; have hA := below_heap hb (old1 w _ _ _); have hB := below_heap hb (heap_alloc3_new w _ _ _); have hA' : w2.heap[w.heap.size + 1]? = some (.cells noRef.cs 83 (0, 0)) := hA; have hB' : w2.heap[w.heap.size + 2]? = some (.cells (RefS.cs ⟨md, gd, fl, tr, ts, sz, gt⟩) 83 (0, 0)) := hB; clear hA hB; obtain ⟨x0, x1, x2, x3, x4, x5, x6, xf⟩ := ref_cells hA'; obtain ⟨y0, y1, y2, y3, y4, y5, y6, yf⟩ := ref_cells hB'; simp only [noRef, noHeld] at x0 x1 x2 x3 x4 x5 x6 y0 y1 y2 y3 y4 y5 y6)
    refine bodyPost_ret (v := .tuple #[RefS.v ⟨md', gd', fl', tr', ts', sz', gt'⟩, .int .i64 rn', .int .i64 e']) (by simp [results, Tryd.results37, go_sem, RefS.v, x0, x1, x2, x3, x4, x5, x6]) rfl ⟨rfl, ?_⟩
    have hbw := (hb3 _ _ _).trans (hb.mono (by simp; omega))
    have hl1 : w.heap.size ≤ w.heap.size + 1 := by omega
    have hl2 : w.heap.size ≤ w.heap.size + 2 := by omega
    exact ((((((((((((((hbw.setCell hl2 _).setCell hl2 _).setCell hl2 _).setCell hl2 _).setCell hl2 _).setCell hl2 _).setCell hl2 _).setCell hl1 _).setCell hl1 _).setCell hl1 _).setCell hl1 _).setCell hl1 _).setCell hl1 _).setCell hl1 _)
  · have HF : Hid (opRef2 r run ⟨8, n, ct, s, tn, wh⟩ = (r.raise.1, run, r.raise.2)) := by unfold opRef2 Hid; simp
    generalize opRef2 r run ⟨8, n, ct, s, tn, wh⟩ = out at *
    have HC := fun wx => refRaise wx r hg
    have E1 : out.1 = r.raise.1 := by rw [HF.out]
    have E2 : out.2.2 = r.raise.2 := by rw [HF.out]
    have E3 : out.2.1 = run := by rw [HF.out]
    rw [← E1, ← E2] at HC
    clear E1 E2
    obtain ⟨⟨md', gd', fl', tr', ts', sz', gt'⟩, rn', e'⟩ := out
    obtain ⟨md, gd, fl, tr, ts, sz, gt⟩ := r
    simp only [RefS.v] at *

    subst E3
    clear HF hg
    go_enter Tryd.func37, Tryd.ntmps37
    go_wp2_with (go_at_call 69; refine (HC _).mono ?_; rintro en w2 ⟨rfl, hb⟩; have hA := below_heap hb (old1 w _ _ _); have hB := below_heap hb (heap_alloc3_new w _ _ _); have hA' : w2.heap[w.heap.size + 1]? = some (.cells noRef.cs 83 (0, 0)) := hA; have hB' : w2.heap[w.heap.size + 2]? = some (.cells (RefS.cs ⟨md, gd, fl, tr, ts, sz, gt⟩) 83 (0, 0)) := hB; clear hA hB; obtain ⟨x0, x1, x2, x3, x4, x5, x6, xf⟩ := ref_cells hA'; obtain ⟨y0, y1, y2, y3, y4, y5, y6, yf⟩ := ref_cells hB'; simp only [noRef, noHeld] at x0 x1 x2 x3 x4 x5 x6 y0 y1 y2 y3 y4 y5 y6)
    refine bodyPost_ret (v := .tuple #[RefS.v ⟨md', gd', fl', tr', ts', sz', gt'⟩, .int .i64 rn', .int .i64 e']) (by simp [results, Tryd.results37, go_sem, RefS.v, x0, x1, x2, x3, x4, x5, x6]) rfl ⟨rfl, ?_⟩
    have hbw := (hb3 _ _ _).trans (hb.mono (by simp; omega))
    have hl1 : w.heap.size ≤ w.heap.size + 1 := by omega
    have hl2 : w.heap.size ≤ w.heap.size + 2 := by omega
    exact ((((((((((((((hbw.setCell hl2 _).setCell hl2 _).setCell hl2 _).setCell hl2 _).setCell hl2 _).setCell hl2 _).setCell hl2 _).setCell hl1 _).setCell hl1 _).setCell hl1 _).setCell hl1 _).setCell hl1 _).setCell hl1 _).setCell hl1 _)
  · have HF : Hid (opRef2 r run ⟨9, n, ct, s, tn, wh⟩ = r.drop run) := by unfold opRef2 Hid; simp
    generalize opRef2 r run ⟨9, n, ct, s, tn, wh⟩ = out at *
    have HC := fun wx => refDrop wx r run
    rw [← HF.out] at HC
    obtain ⟨⟨md', gd', fl', tr', ts', sz', gt'⟩, rn', e'⟩ := out
    obtain ⟨md, gd, fl, tr, ts, sz, gt⟩ := r
    simp only [RefS.v] at *

    clear HF hg
    go_enter Tryd.func37, Tryd.ntmps37
    go_wp2_with (go_at_call 70; refine (HC _).mono ?_; rintro en w2 ⟨rfl, hb⟩; have hA := below_heap hb (old1 w _ _ _); have hB := below_heap hb (heap_alloc3_new w _ _ _); have hA' : w2.heap[w.heap.size + 1]? = some (.cells noRef.cs 83 (0, 0)) := hA; have hB' : w2.heap[w.heap.size + 2]? = some (.cells (RefS.cs ⟨md, gd, fl, tr, ts, sz, gt⟩) 83 (0, 0)) := hB; clear hA hB; obtain ⟨x0, x1, x2, x3, x4, x5, x6, xf⟩ := ref_cells hA'; obtain ⟨y0, y1, y2, y3, y4, y5, y6, yf⟩ := ref_cells hB'; simp only [noRef, noHeld] at x0 x1 x2 x3 x4 x5 x6 y0 y1 y2 y3 y4 y5 y6)
    refine bodyPost_ret (v := .tuple #[RefS.v ⟨md', gd', fl', tr', ts', sz', gt'⟩, .int .i64 rn', .int .i64 e']) (by simp [results, Tryd.results37, go_sem, RefS.v, x0, x1, x2, x3, x4, x5, x6]) rfl ⟨rfl, ?_⟩
    have hbw := (hb3 _ _ _).trans (hb.mono (by simp; omega))
    have hl1 : w.heap.size ≤ w.heap.size + 1 := by omega
    have hl2 : w.heap.size ≤ w.heap.size + 2 := by omega
    exact ((((((((((((((hbw.setCell hl2 _).setCell hl2 _).setCell hl2 _).setCell hl2 _).setCell hl2 _).setCell hl2 _).setCell hl2 _).setCell hl1 _).setCell hl1 _).setCell hl1 _).setCell hl1 _).setCell hl1 _).setCell hl1 _).setCell hl1 _)
end Go.Proofs.YtcokahccbjdeaaaDoor
