import Derived.Test.YtcokahccbjdeaaaDoorStS
namespace Go.Proofs.YtcokahccbjdeaaaDoor
open Go.RowKit

theorem new_at {w wS : World} (h : wS.heap.size = w.heap.size) (A A' : Obj) : ((wS.alloc A).alloc A').heap[w.heap.size + 1]? = some A' := by
  rw [← h]; exact heap_alloc2_new wS A A'
theorem size_set (w : World) (p : Addr) (v : Value) : (w.setCell p v).heap.size = w.heap.size := by simp [World.setCell]

theorem Desk.fin {B : Nat} {w wS : World} {k b g m : Nat} {c : ChipS} {d d' : Option Nat} {run run' : Int} {r r' : RefS} (D : Desk B w k b g m c d run r) (A A' : Obj) (hon : Only (fun x => x = k) w wS)
    (hk : wS.heap[k]? = some (.cells (deskC b d' run' (w.heap.size + 1)) 86 (0, 0))) (hs : wS.heap.size = w.heap.size) (hA : A' = .cells r'.cs 83 (0, 0)) (hd : ∀ q, d' = some q → w.heap[q]? = some (.cells (devC b run') 76 (0, 0)) ∧ B ≤ q) :
    (∃ m', Desk B ((wS.alloc A).alloc A') k b g m' c d' run' r') ∧ Fr B w ((wS.alloc A).alloc A') := by
  have hon2 := (hon.alloc A).alloc A'
  refine ⟨⟨w.heap.size + 1, D.set (alloc_heap (alloc_heap hk A) A') hon2 (by rw [new_at hs, hA]) (by have := D.size; omega) (fun q hq => ⟨hon2.heap (hd q hq).1 (ne_of_heap (hd q hq).1 D.hk (by decide)), (hd q hq).2⟩)⟩, D.onlyK hon2⟩
theorem Only.k {w w' : World} {k : Nat} (h : Only (fun x => x = k) w w') (o : Nat) (v : Value) : Only (fun x => x = k) w (w'.setCell ⟨k, o, none⟩ v) :=
  Only.setCell (S := fun x => x = k) (p := ⟨k, o, none⟩) h rfl v
theorem desk_put {w : World} {k b m m' : Nat} {d d' : Option Nat} {run : Int} (h : w.heap[k]? = some (.cells (deskC b d run m) 86 (0, 0))) (v : Value) (hv : v = devV d') :
    ((w.setCell ⟨k, 3, none⟩ (.slice (some ⟨m', 0, none⟩) 1 1)).setCell ⟨k, 1, none⟩ v).heap[k]? = some (.cells (deskC b d' run m') 86 (0, 0)) := by
  subst hv
  rw [heap_setCell_at _ _ _ _ _ _ _ (heap_setCell_at _ _ _ _ _ _ _ h)]
  rfl

theorem noDev (b : Nat) (run : Int) {B : Nat} {w : World} : ∀ q, (none : Option Nat) = some q → w.heap[q]? = some (.cells (devC b run) 76 (0, 0)) ∧ B ≤ q := fun q hq => by cases hq
theorem someDev {b : Nat} {run : Int} {B p : Nat} {w : World} (h : w.heap[p]? = some (.cells (devC b run) 76 (0, 0))) (hB : B ≤ p) : ∀ q, some p = some q → w.heap[q]? = some (.cells (devC b run) 76 (0, 0)) ∧ B ≤ q := fun q hq => by cases hq; exact ⟨h, hB⟩
theorem desk_put3 {w : World} {k b m m' : Nat} {d d' : Option Nat} {run : Int} (h : w.heap[k]? = some (.cells (deskC b d run m) 86 (0, 0))) (v : Value) (hv : v = devV d') (run' : Int) :
    (((w.setCell ⟨k, 3, none⟩ (.slice (some ⟨m', 0, none⟩) 1 1)).setCell ⟨k, 1, none⟩ v).setCell ⟨k, 2, none⟩ (.int .i64 run')).heap[k]? = some (.cells (deskC b d' run' m') 86 (0, 0)) := by
  rw [heap_setCell_at _ _ _ _ _ _ _ (desk_put h v hv)]
  rfl

set_option maxRecDepth 100000 in
set_option maxHeartbeats 4000000 in
theorem fresh_none (w : World) (B k b g m : Nat) (c : ChipS) (d : Option Nat) (run : Int) (r : RefS) (D : Desk B w k b g m c d run r) (hr : r.made = false) :
    Calls Tryd.prog 59 #[.pointer (some ⟨k, 0, none⟩), .pointer none, .int .i64 8] w fun e w' => e = .returned (.bool true) ∧ (∃ m', Desk B w' k b g m' c none run r) ∧ Fr B w w' := by
  obtain ⟨q0, q1, q2, q3, qf⟩ := desk_cells D.hk
  obtain ⟨lk, lb, lg, lm⟩ := D.lt
  have hk1 : k ≠ w.heap.size := by omega
  have hk2 : k ≠ w.heap.size + 1 := by omega
  have hk3 : ¬ w.heap.size = k := by omega
  have hk4 : ¬ w.heap.size + 1 = k := by omega
  have Q := fun x y => desk_cells (alloc_heap (alloc_heap D.hk x) y)
  have f3 : ∀ x y, ((w.alloc x).alloc y).cell? ⟨k, 3, none⟩ = some (.slice (some ⟨m, 0, none⟩) 1 1) := fun x y => (Q x y).2.2.2.1
  have f1 : ∀ x y, ((w.alloc x).alloc y).cell? ⟨k, 1, none⟩ = some (devV d) := fun x y => (Q x y).2.1
  have ff : ∀ x y o, ((w.alloc x).alloc y).frozen? ⟨k, o, none⟩ = false := fun x y => (Q x y).2.2.2.2
  obtain ⟨md, gd, fl, tr, ts, sz, gt⟩ := r
  simp only at hr
  subst hr
  obtain ⟨r0, r1, r2, r3, r4, r5, r6, rf⟩ := ref_cells D.hm
  simp only at r0 r1 r2 r3 r4 r5 r6
  have HD : Hid (Desk B w k b g m c d run ⟨false, gd, fl, tr, ts, sz, gt⟩) := D
  clear D Q
  go_enter Tryd.func59, Tryd.ntmps59
  go_wp2
  refine wp_loop_rounds 1 ?_
  rw [rounds_succ]
  go_wp2
  go_ret
  have hon : ∀ u v, Only (fun x => x = k) w ((w.setCell ⟨k, 3, none⟩ u).setCell ⟨k, 1, none⟩ v) := fun u v => ((Only.refl _ _).k 3 _).k 1 _
  refine ⟨rfl, HD.out.fin _ _ (hon _ _) ?_ ?_ ?_ ?_⟩
  · exact desk_put HD.out.hk _ rfl
  · rw [size_set, size_set]
  · rfl
  · exact noDev b run

set_option maxRecDepth 100000 in
set_option maxHeartbeats 4000000 in
theorem fresh_some (w : World) (B k b g m q : Nat) (c : ChipS) (d : Option Nat) (run : Int) (r : RefS) (D : Desk B w k b g m c d run r) (hr : r.made = true) (hq : w.heap[q]? = some (.cells (devC b 0) 76 (0, 0))) (hBq : B ≤ q) :
    Calls Tryd.prog 59 #[.pointer (some ⟨k, 0, none⟩), .pointer (some ⟨q, 0, none⟩), .int .i64 0] w fun e w' => e = .returned (.bool true) ∧ (∃ m', Desk B w' k b g m' c (some q) 0 r) ∧ Fr B w w' := by
  obtain ⟨q0, q1, q2, q3, qf⟩ := desk_cells D.hk
  obtain ⟨lk, lb, lg, lm⟩ := D.lt
  have hk1 : k ≠ w.heap.size := by omega
  have hk2 : k ≠ w.heap.size + 1 := by omega
  have hk3 : ¬ w.heap.size = k := by omega
  have hk4 : ¬ w.heap.size + 1 = k := by omega
  obtain ⟨md, gd, fl, tr, ts, sz, gt⟩ := r
  simp only at hr
  subst hr
  obtain ⟨r0, r1, r2, r3, r4, r5, r6, rf⟩ := ref_cells D.hm
  simp only at r0 r1 r2 r3 r4 r5 r6
  have Q := fun x y => desk_cells (alloc_heap (alloc_heap D.hk x) y)
  have f3 : ∀ x y, ((w.alloc x).alloc y).cell? ⟨k, 3, none⟩ = some (.slice (some ⟨m, 0, none⟩) 1 1) := fun x y => (Q x y).2.2.2.1
  have f2 : ∀ x y, ((w.alloc x).alloc y).cell? ⟨k, 2, none⟩ = some (.int .i64 run) := fun x y => (Q x y).2.2.1
  have f1 : ∀ x y, ((w.alloc x).alloc y).cell? ⟨k, 1, none⟩ = some (devV d) := fun x y => (Q x y).2.1
  have ff : ∀ x y o, ((w.alloc x).alloc y).frozen? ⟨k, o, none⟩ = false := fun x y => (Q x y).2.2.2.2
  have HD : Hid (Desk B w k b g m c d run ⟨true, gd, fl, tr, ts, sz, gt⟩) := D
  have HQ : Hid (w.heap[q]? = some (.cells (devC b 0) 76 (0, 0))) := hq
  clear D hq Q
  go_enter Tryd.func59, Tryd.ntmps59
  go_wp2
  refine wp_loop_rounds 1 ?_
  rw [rounds_succ]
  go_wp2
  go_ret
  have hon : ∀ u v z, Only (fun x => x = k) w (((w.setCell ⟨k, 3, none⟩ u).setCell ⟨k, 1, none⟩ v).setCell ⟨k, 2, none⟩ z) := fun u v z => (((Only.refl _ _).k 3 _).k 1 _).k 2 _
  refine ⟨rfl, HD.out.fin _ _ (hon _ _ _) ?_ ?_ ?_ ?_⟩
  · exact desk_put3 (d' := some q) HD.out.hk _ rfl _
  · rw [size_set, size_set, size_set]
  · rfl
  · exact someDev (p := q) HQ.out hBq
end Go.Proofs.YtcokahccbjdeaaaDoor
