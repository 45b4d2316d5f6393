import Derived.Test.YtcokahccbjdeaaaDoorStX
namespace Go.Proofs.YtcokahccbjdeaaaDoor
open Go.RowKit

theorem look_cells {w : World} {k b m t : Nat} {d : Option Nat} {run : Int} {md : Bool} {gd tr gt : ByteArray} {fl ts sz s0 s1 s2 s3 s4 s5 s6 : Int}
    (hk : w.heap[k]? = some (.cells (deskC b d run m) 86 (0, 0))) (hm : w.heap[m]? = some (.cells (RefS.cs ⟨md, gd, fl, tr, ts, sz, gt⟩) 83 (0, 0))) (ht : w.heap[t]? = some (.cells (StateS.cs ⟨s0, s1, s2, s3, s4, s5, s6⟩) 65 (0, 0))) :
    w.cell? ⟨k, 2, none⟩ = some (.int .i64 run) ∧ w.cell? ⟨k, 3, none⟩ = some (.slice (some ⟨m, 0, none⟩) 1 1) ∧ w.cell? ⟨m, 0, none⟩ = some (.bool md) ∧ w.cell? ⟨m, 1, none⟩ = some (.string gd) ∧ w.cell? ⟨m, 2, none⟩ = some (.int .i64 fl) ∧ w.cell? ⟨m, 3, none⟩ = some (.string tr) ∧ w.cell? ⟨m, 4, none⟩ = some (.int .i64 ts) ∧ w.cell? ⟨m, 5, none⟩ = some (.int .i64 sz) ∧ w.cell? ⟨m, 6, none⟩ = some (.string gt) ∧ w.cell? ⟨t, 0, none⟩ = some (.int .i64 s0) ∧ w.cell? ⟨t, 1, none⟩ = some (.int .i64 s1) ∧ w.cell? ⟨t, 2, none⟩ = some (.int .i64 s2) ∧ w.cell? ⟨t, 3, none⟩ = some (.int .i64 s3) ∧ w.cell? ⟨t, 4, none⟩ = some (.int .i64 s4) ∧ w.cell? ⟨t, 5, none⟩ = some (.int .i64 s5) ∧ w.cell? ⟨t, 6, none⟩ = some (.int .i64 s6) := by
  obtain ⟨_, _, a2, a3, _⟩ := desk_cells hk
  obtain ⟨r0, r1, r2, r3, r4, r5, r6, _⟩ := ref_cells hm
  obtain ⟨x0, x1, x2, x3, x4, x5, x6, _⟩ := state_cells ht
  exact ⟨a2, a3, r0, r1, r2, r3, r4, r5, r6, x0, x1, x2, x3, x4, x5, x6⟩
set_option maxRecDepth 100000 in
theorem seen_none (w : World) (B k b g m : Nat) (c : ChipS) (run : Int) (r : RefS) (D : Desk B w k b g m c none run r) :
    Calls Tryd.prog 35 #[.pointer (some ⟨k, 0, none⟩)] w fun e w' => e = .returned (.bool true) ∧ w' = w := by
  obtain ⟨q0, q1, q2, q3, qf⟩ := desk_cells D.hk
  simp only [devV] at q1
  clear D
  go_enter Tryd.func35, Tryd.ntmps35
  go_wp2
  go_ret
  exact ⟨rfl, rfl⟩
set_option maxRecDepth 100000 in
set_option maxHeartbeats 8000000 in
theorem seen_some (w : World) (B k b g m q : Nat) (c : ChipS) (run : Int) (r : RefS) (D : Desk B w k b g m c (some q) run r) (hl : loadM c.cells = some r.h) (hok : r.h.ok) :
    Calls Tryd.prog 35 #[.pointer (some ⟨k, 0, none⟩)] w fun e w' => e = .returned (.bool true) ∧ Below w.heap.size w w' := by
  have HO := fun wx (hb : Below w.heap.size w wx) => ops_any wx b g c (D.dv.chip.below hb)
  have HS := state_any w q b g c run r.h D.dv (D.hd q rfl).1 hl
  have HR := fun wx => refState wx r run hok
  have HQ := fun wx => sameState_any wx (stateM r.h run)
  obtain ⟨q0, q1, q2, q3, qf⟩ := desk_cells D.hk
  simp only [devV] at q1
  have hk := D.hk
  have hm := D.hm
  generalize stateM r.h run = st at *
  obtain ⟨md, gd, fl, tr, ts, sz, gt⟩ := r
  obtain ⟨s0, s1, s2, s3, s4, s5, s6⟩ := st
  simp only [StateS.v, RefS.v] at *
  generalize c.ops = p at *
  clear D hl hok
  go_enter Tryd.func35, Tryd.ntmps35
  go_wp2_with (first
    | (go_at_call 38; refine (HO _ (Below.refl _ _)).mono ?_; rintro en w1 ⟨rfl, hw⟩; have hw2 := hw.symm; clear hw; subst hw2)
    | (go_at_call 24; refine HS.mono ?_; rintro en w2 ⟨rfl, hb2⟩))
  have hbA := hb2.alloc hb2.size (.cells (StateS.cs ⟨s0, s1, s2, s3, s4, s5, s6⟩) 65)
  have hT := heap_alloc_new w2 (.cells (StateS.cs ⟨s0, s1, s2, s3, s4, s5, s6⟩) 65)
  have hk2 := below_heap hbA hk
  have hm2 := below_heap hbA hm
  simp only [StateS.cs] at hbA hT hk2 hm2
  generalize w2.alloc (.cells #[.int .i64 s0, .int .i64 s1, .int .i64 s2, .int .i64 s3, .int .i64 s4, .int .i64 s5, .int .i64 s6] 65) = wz at *
  have hT' : wz.heap[w2.heap.size]? = some (.cells (StateS.cs ⟨s0, s1, s2, s3, s4, s5, s6⟩) 65 (0, 0)) := hT
  clear hT q0 q1 q2 q3 qf
  have hT0 := look_cells (w := wz.drew) hk2 hm2 hT'
  generalize w2.heap.size = t at *
  go_cut [5] (fun s5 wx => s5 = .bool true ∧ Below w.heap.size w wx)
  case first =>
    go_region_held3 (fun w' => w'.cell? ⟨k, 2, none⟩ = some (.int .i64 run) ∧ w'.cell? ⟨k, 3, none⟩ = some (.slice (some ⟨m, 0, none⟩) 1 1) ∧ w'.cell? ⟨m, 0, none⟩ = some (.bool md) ∧ w'.cell? ⟨m, 1, none⟩ = some (.string gd) ∧ w'.cell? ⟨m, 2, none⟩ = some (.int .i64 fl) ∧ w'.cell? ⟨m, 3, none⟩ = some (.string tr) ∧ w'.cell? ⟨m, 4, none⟩ = some (.int .i64 ts) ∧ w'.cell? ⟨m, 5, none⟩ = some (.int .i64 sz) ∧ w'.cell? ⟨m, 6, none⟩ = some (.string gt) ∧ w'.cell? ⟨t, 0, none⟩ = some (.int .i64 s0) ∧ w'.cell? ⟨t, 1, none⟩ = some (.int .i64 s1) ∧ w'.cell? ⟨t, 2, none⟩ = some (.int .i64 s2) ∧ w'.cell? ⟨t, 3, none⟩ = some (.int .i64 s3) ∧ w'.cell? ⟨t, 4, none⟩ = some (.int .i64 s4) ∧ w'.cell? ⟨t, 5, none⟩ = some (.int .i64 s5) ∧ w'.cell? ⟨t, 6, none⟩ = some (.int .i64 s6)) ((first | with_reducible exact hT0 | with_reducible exact hT5 | with_reducible exact hT6))
      (first
        | (go_at_call 62; refine (HR wz.drew).mono ?_; rintro en w5 ⟨rfl, hb5⟩; have hk5 := below_heap (w := wz.drew) hb5 hk2; have hm5 := below_heap (w := wz.drew) hb5 hm2; have hx5 := below_heap (w := wz.drew) hb5 hT'; have hT5 := look_cells hk5 hm5 hx5)
        | (go_at_call 61; refine (HQ w5).mono ?_; rintro en w6 ⟨rfl, hb6⟩; have hT6 := look_cells (below_heap hb6 hk5) (below_heap hb6 hm5) (below_heap hb6 hx5)))
    all_goals (go_wp2_with fail; go_meet)
    all_goals exact ⟨rfl, hbA.drew.trans ((hb5.mono hbA.size).trans (hb6.mono (Nat.le_trans hbA.size hb5.size)))⟩
  case rest =>
    obtain ⟨rfl, hbc⟩ := hcut
    have hkc := below_heap hbc hk
    obtain ⟨q0, q1, q2, q3, qf⟩ := desk_cells hkc
    go_wp2_with (go_at_call 38; refine (HO _ hbc).mono ?_; rintro en w1 ⟨rfl, rfl⟩)
    go_ret
    exact ⟨rfl, hbc⟩
end Go.Proofs.YtcokahccbjdeaaaDoor
