import Derived.Test.YtcokahccbjdeaaaDoorStT
import Derived.Test.YtcokahccbjdeaaaDoorStQ
import Derived.Test.YtcokahccbjdeaaaDoorStR
namespace Go.Proofs.YtcokahccbjdeaaaDoor
open Go.RowKit

def opRef (r : RefS) (o : OpS) : RefS × Int := if o.kind = 2 then r.format o.s else if o.kind = 3 then r.stage o.n else if o.kind = 4 then r.write o.s else if o.kind = 5 then r.activate else (r, 0)
theorem at3 {w : World} {k : Nat} {x : Obj} (H : w.heap[k]? = some x) (a b : Obj) : ((w.alloc a).alloc b).heap[k]? = some x := alloc_heap (alloc_heap H a) b
theorem old1 (w : World) (a b c : Obj) : (((w.alloc a).alloc b).alloc c).heap[w.heap.size + 1]? = some b := alloc_heap (heap_alloc2_new w a b) c
set_option maxRecDepth 100000 in
set_option maxHeartbeats 8000000 in
theorem after_any (w : World) (B k b g m : Nat) (c : ChipS) (d : Option Nat) (run : Int) (r : RefS) (o : OpS) (D : Desk B w k b g m c d run r) (hk : o.kind = 2 ∨ o.kind = 3 ∨ o.kind = 4 ∨ o.kind = 5) (hs : o.s.size < 4611686018427387904) (hg : r.h.got.size ≤ 1048576) :
    Calls Tryd.prog 37 #[.pointer (some ⟨k, 0, none⟩), o.v] w fun e w' => e = .returned (.tuple #[(opRef r o).1.v, .int .i64 run, .int .i64 (opRef r o).2]) ∧ Below w.heap.size w w' := by
  have hb3 : ∀ x y z, Below w.heap.size w (((w.alloc x).alloc y).alloc z) := fun x y z => (((Below.refl _ _).alloc (Nat.le_refl _) _).alloc (by simp) _).alloc (by simp; omega) _
  have Q := fun x y => desk_cells (at3 D.hk x y)
  have f3 : ∀ x y, ((w.alloc x).alloc y).cell? ⟨k, 3, none⟩ = some (.slice (some ⟨m, 0, none⟩) 1 1) := fun x y => (Q x y).2.2.2.1
  have f2 : ∀ x y z, (((w.alloc x).alloc y).alloc z).cell? ⟨k, 2, none⟩ = some (.int .i64 run) := fun x y z => (desk_cells (alloc_heap (at3 D.hk x y) z)).2.2.1
  have R := fun x y => ref_cells (at3 D.hm x y)
  have r0 : ∀ x y, ((w.alloc x).alloc y).cell? ⟨m, 0, none⟩ = some (.bool r.made) := fun x y => (R x y).1
  have r1 : ∀ x y, ((w.alloc x).alloc y).cell? ⟨m, 1, none⟩ = some (.string r.h.good) := fun x y => (R x y).2.1
  have r2 : ∀ x y, ((w.alloc x).alloc y).cell? ⟨m, 2, none⟩ = some (.int .i64 r.h.floor) := fun x y => (R x y).2.2.1
  have r3 : ∀ x y, ((w.alloc x).alloc y).cell? ⟨m, 3, none⟩ = some (.string r.h.trial) := fun x y => (R x y).2.2.2.1
  have r4 : ∀ x y, ((w.alloc x).alloc y).cell? ⟨m, 4, none⟩ = some (.int .i64 r.h.tries) := fun x y => (R x y).2.2.2.2.1
  have r5 : ∀ x y, ((w.alloc x).alloc y).cell? ⟨m, 5, none⟩ = some (.int .i64 r.h.size) := fun x y => (R x y).2.2.2.2.2.1
  have r6 : ∀ x y, ((w.alloc x).alloc y).cell? ⟨m, 6, none⟩ = some (.string r.h.got) := fun x y => (R x y).2.2.2.2.2.2.1
  clear Q R D
  obtain ⟨kd, n, ct, s, tn, wh⟩ := o
  simp only [OpS.v] at *
  rcases hk with rfl | rfl | rfl | rfl
  · have HF : Hid (opRef r ⟨2, n, ct, s, tn, wh⟩ = r.format s) := by unfold opRef Hid; simp
    generalize opRef r ⟨2, n, ct, s, tn, wh⟩ = out at *
    have HC := fun wx => refFormat wx r s hs
    rw [← HF.out] at HC
    obtain ⟨⟨md', gd', fl', tr', ts', sz', gt'⟩, e'⟩ := out
    obtain ⟨md, gd, fl, tr, ts, sz, gt⟩ := r
    simp only [RefS.v] at *

    clear HF hg
    go_enter Tryd.func37, Tryd.ntmps37
    go_wp2_with (go_at_call 63; refine (HC _).mono ?_; rintro en w2 ⟨rfl, hb⟩; have hA := below_heap hb (old1 w _ _ _); have hB := below_heap hb (heap_alloc3_new w _ _ _); have hA' : w2.heap[w.heap.size + 1]? = some (.cells noRef.cs 83 (0, 0)) := hA; have hB' : w2.heap[w.heap.size + 2]? = some (.cells (RefS.cs ⟨md, gd, fl, tr, ts, sz, gt⟩) 83 (0, 0)) := hB; clear hA hB; obtain ⟨x0, x1, x2, x3, x4, x5, x6, xf⟩ := ref_cells hA'; obtain ⟨y0, y1, y2, y3, y4, y5, y6, yf⟩ := ref_cells hB'; simp only [noRef, noHeld] at x0 x1 x2 x3 x4 x5 x6 y0 y1 y2 y3 y4 y5 y6)
    refine bodyPost_ret (v := .tuple #[RefS.v ⟨md', gd', fl', tr', ts', sz', gt'⟩, .int .i64 run, .int .i64 e']) (by simp [results, Tryd.results37, go_sem, RefS.v, x0, x1, x2, x3, x4, x5, x6]) rfl ⟨rfl, ?_⟩
    have hbw := (hb3 _ _ _).trans (hb.mono (by simp; omega))
    have hl1 : w.heap.size ≤ w.heap.size + 1 := by omega
    have hl2 : w.heap.size ≤ w.heap.size + 2 := by omega
    exact ((((((((((((((hbw.setCell hl2 _).setCell hl2 _).setCell hl2 _).setCell hl2 _).setCell hl2 _).setCell hl2 _).setCell hl2 _).setCell hl1 _).setCell hl1 _).setCell hl1 _).setCell hl1 _).setCell hl1 _).setCell hl1 _).setCell hl1 _)
  · have HF : Hid (opRef r ⟨3, n, ct, s, tn, wh⟩ = r.stage n) := by unfold opRef Hid; simp
    generalize opRef r ⟨3, n, ct, s, tn, wh⟩ = out at *
    have HC := fun wx => refStage wx r n
    rw [← HF.out] at HC
    obtain ⟨⟨md', gd', fl', tr', ts', sz', gt'⟩, e'⟩ := out
    obtain ⟨md, gd, fl, tr, ts, sz, gt⟩ := r
    simp only [RefS.v] at *

    clear HF hg
    go_enter Tryd.func37, Tryd.ntmps37
    go_wp2_with (go_at_call 64; refine (HC _).mono ?_; rintro en w2 ⟨rfl, hb⟩; have hA := below_heap hb (old1 w _ _ _); have hB := below_heap hb (heap_alloc3_new w _ _ _); have hA' : w2.heap[w.heap.size + 1]? = some (.cells noRef.cs 83 (0, 0)) := hA; have hB' : w2.heap[w.heap.size + 2]? = some (.cells (RefS.cs ⟨md, gd, fl, tr, ts, sz, gt⟩) 83 (0, 0)) := hB; clear hA hB; obtain ⟨x0, x1, x2, x3, x4, x5, x6, xf⟩ := ref_cells hA'; obtain ⟨y0, y1, y2, y3, y4, y5, y6, yf⟩ := ref_cells hB'; simp only [noRef, noHeld] at x0 x1 x2 x3 x4 x5 x6 y0 y1 y2 y3 y4 y5 y6)
    refine bodyPost_ret (v := .tuple #[RefS.v ⟨md', gd', fl', tr', ts', sz', gt'⟩, .int .i64 run, .int .i64 e']) (by simp [results, Tryd.results37, go_sem, RefS.v, x0, x1, x2, x3, x4, x5, x6]) rfl ⟨rfl, ?_⟩
    have hbw := (hb3 _ _ _).trans (hb.mono (by simp; omega))
    have hl1 : w.heap.size ≤ w.heap.size + 1 := by omega
    have hl2 : w.heap.size ≤ w.heap.size + 2 := by omega
    exact ((((((((((((((hbw.setCell hl2 _).setCell hl2 _).setCell hl2 _).setCell hl2 _).setCell hl2 _).setCell hl2 _).setCell hl2 _).setCell hl1 _).setCell hl1 _).setCell hl1 _).setCell hl1 _).setCell hl1 _).setCell hl1 _).setCell hl1 _)
  · have HF : Hid (opRef r ⟨4, n, ct, s, tn, wh⟩ = r.write s) := by unfold opRef Hid; simp
    generalize opRef r ⟨4, n, ct, s, tn, wh⟩ = out at *
    have HC := fun wx => refWrite wx r s hs hg
    rw [← HF.out] at HC
    obtain ⟨⟨md', gd', fl', tr', ts', sz', gt'⟩, e'⟩ := out
    obtain ⟨md, gd, fl, tr, ts, sz, gt⟩ := r
    simp only [RefS.v] at *

    clear HF hg
    go_enter Tryd.func37, Tryd.ntmps37
    go_wp2_with (go_at_call 65; refine (HC _).mono ?_; rintro en w2 ⟨rfl, hb⟩; have hA := below_heap hb (old1 w _ _ _); have hB := below_heap hb (heap_alloc3_new w _ _ _); have hA' : w2.heap[w.heap.size + 1]? = some (.cells noRef.cs 83 (0, 0)) := hA; have hB' : w2.heap[w.heap.size + 2]? = some (.cells (RefS.cs ⟨md, gd, fl, tr, ts, sz, gt⟩) 83 (0, 0)) := hB; clear hA hB; obtain ⟨x0, x1, x2, x3, x4, x5, x6, xf⟩ := ref_cells hA'; obtain ⟨y0, y1, y2, y3, y4, y5, y6, yf⟩ := ref_cells hB'; simp only [noRef, noHeld] at x0 x1 x2 x3 x4 x5 x6 y0 y1 y2 y3 y4 y5 y6)
    refine bodyPost_ret (v := .tuple #[RefS.v ⟨md', gd', fl', tr', ts', sz', gt'⟩, .int .i64 run, .int .i64 e']) (by simp [results, Tryd.results37, go_sem, RefS.v, x0, x1, x2, x3, x4, x5, x6]) rfl ⟨rfl, ?_⟩
    have hbw := (hb3 _ _ _).trans (hb.mono (by simp; omega))
    have hl1 : w.heap.size ≤ w.heap.size + 1 := by omega
    have hl2 : w.heap.size ≤ w.heap.size + 2 := by omega
    exact ((((((((((((((hbw.setCell hl2 _).setCell hl2 _).setCell hl2 _).setCell hl2 _).setCell hl2 _).setCell hl2 _).setCell hl2 _).setCell hl1 _).setCell hl1 _).setCell hl1 _).setCell hl1 _).setCell hl1 _).setCell hl1 _).setCell hl1 _)
  · have HF : Hid (opRef r ⟨5, n, ct, s, tn, wh⟩ = r.activate) := by unfold opRef Hid; simp
    generalize opRef r ⟨5, n, ct, s, tn, wh⟩ = out at *
    have HC := fun wx => refActivate wx r hg
    rw [← HF.out] at HC
    obtain ⟨⟨md', gd', fl', tr', ts', sz', gt'⟩, e'⟩ := out
    obtain ⟨md, gd, fl, tr, ts, sz, gt⟩ := r
    simp only [RefS.v] at *

    clear HF hg
    go_enter Tryd.func37, Tryd.ntmps37
    go_wp2_with (go_at_call 66; refine (HC _).mono ?_; rintro en w2 ⟨rfl, hb⟩; have hA := below_heap hb (old1 w _ _ _); have hB := below_heap hb (heap_alloc3_new w _ _ _); have hA' : w2.heap[w.heap.size + 1]? = some (.cells noRef.cs 83 (0, 0)) := hA; have hB' : w2.heap[w.heap.size + 2]? = some (.cells (RefS.cs ⟨md, gd, fl, tr, ts, sz, gt⟩) 83 (0, 0)) := hB; clear hA hB; obtain ⟨x0, x1, x2, x3, x4, x5, x6, xf⟩ := ref_cells hA'; obtain ⟨y0, y1, y2, y3, y4, y5, y6, yf⟩ := ref_cells hB'; simp only [noRef, noHeld] at x0 x1 x2 x3 x4 x5 x6 y0 y1 y2 y3 y4 y5 y6)
    refine bodyPost_ret (v := .tuple #[RefS.v ⟨md', gd', fl', tr', ts', sz', gt'⟩, .int .i64 run, .int .i64 e']) (by simp [results, Tryd.results37, go_sem, RefS.v, x0, x1, x2, x3, x4, x5, x6]) rfl ⟨rfl, ?_⟩
    have hbw := (hb3 _ _ _).trans (hb.mono (by simp; omega))
    have hl1 : w.heap.size ≤ w.heap.size + 1 := by omega
    have hl2 : w.heap.size ≤ w.heap.size + 2 := by omega
    exact ((((((((((((((hbw.setCell hl2 _).setCell hl2 _).setCell hl2 _).setCell hl2 _).setCell hl2 _).setCell hl2 _).setCell hl2 _).setCell hl1 _).setCell hl1 _).setCell hl1 _).setCell hl1 _).setCell hl1 _).setCell hl1 _).setCell hl1 _)
end Go.Proofs.YtcokahccbjdeaaaDoor
