import Derived.Test.YtcokahccbjdeaabDoorStK
import Derived.Deep.RegionHeld3
namespace Go.Proofs.YtcokahccbjdeaabDoor
open Go.RowKit

structure StateS where
  ver : Int
  floor : Int
  trial : Int
  tries : Int
  size : Int
  got : Int
  run : Int
def StateS.v (s : StateS) : Value := .agg #[.int .i64 s.ver, .int .i64 s.floor, .int .i64 s.trial, .int .i64 s.tries, .int .i64 s.size, .int .i64 s.got, .int .i64 s.run]
def StateS.cs (s : StateS) : Array Value := #[.int .i64 s.ver, .int .i64 s.floor, .int .i64 s.trial, .int .i64 s.tries, .int .i64 s.size, .int .i64 s.got, .int .i64 s.run]
def stateM (h : HeldS) (run : Int) : StateS := ⟨verB h.good, h.floor, verB h.trial, h.tries, h.size, h.got.size, run⟩
theorem state_cells {w : World} {g : Nat} {s : StateS} (H : w.heap[g]? = some (.cells s.cs 44 (0, 0))) :
    w.cell? ⟨g, 0, none⟩ = some (.int .i64 s.ver) ∧ w.cell? ⟨g, 1, none⟩ = some (.int .i64 s.floor) ∧ w.cell? ⟨g, 2, none⟩ = some (.int .i64 s.trial) ∧ w.cell? ⟨g, 3, none⟩ = some (.int .i64 s.tries) ∧ w.cell? ⟨g, 4, none⟩ = some (.int .i64 s.size) ∧
    w.cell? ⟨g, 5, none⟩ = some (.int .i64 s.got) ∧ w.cell? ⟨g, 6, none⟩ = some (.int .i64 s.run) ∧ (∀ o, w.frozen? ⟨g, o, none⟩ = false) := by
  refine ⟨?_, ?_, ?_, ?_, ?_, ?_, ?_, fun o => free_of_heap H⟩ <;> (rw [cell_of_heap H]; rfl)

/-- The cells that State reads and writes. -/
def SeeS (w : World) (q h r b : Nat) (run : Int) (x : HeldS) (y : StateS) : Prop :=
  w.heap[q]? = some (.cells (devC b run) 66 (0, 0)) ∧ w.heap[h]? = some (.cells x.cs 62 (0, 0)) ∧ w.heap[r]? = some (.cells y.cs 44 (0, 0))
theorem SeeS.kept {w w' : World} {q h r b : Nat} {run : Int} {x : HeldS} {y : StateS} (S : SeeS w q h r b run x y) (hb : Below w.heap.size w w') : SeeS w' q h r b run x y :=
  ⟨below_heap hb S.1, below_heap hb S.2.1, below_heap hb S.2.2⟩

theorem SeeS.kept2 {w w' : World} {q h r b : Nat} {run : Int} {x : HeldS} {y : StateS} (hb : Below w.heap.size w w') (S : SeeS w q h r b run x y) : SeeS w' q h r b run x y := S.kept hb
theorem SeeS.st {w : World} {q h r b : Nat} {run : Int} {x : HeldS} {y : StateS} (S : SeeS w q h r b run x y) : w.heap[r]? = some (.cells y.cs 44 (0, 0)) := S.2.2
theorem far7 {w : World} {r : Nat} {p : Addr} (hp : ¬ p.block = r) (v0 v1 v2 v3 v4 v5 v6 : Value) :
    (((((((w.setCell ⟨r, 0, none⟩ v0).setCell ⟨r, 1, none⟩ v1).setCell ⟨r, 2, none⟩ v2).setCell ⟨r, 3, none⟩ v3).setCell ⟨r, 4, none⟩ v4).setCell ⟨r, 5, none⟩ v5).setCell ⟨r, 6, none⟩ v6).cell? p = w.cell? p := by
  have h : ∀ (w : World) (o : Nat) (v : Value), (w.setCell ⟨r, o, none⟩ v).cell? p = w.cell? p := fun w o v => cell_same (heap_setCell_ne w r p.block o v hp)
  rw [h, h, h, h, h, h, h]
theorem far7s {w : World} {q h r : Nat} {a0 a1 a2 a3 a4 a5 a6 : Option Value} (hq : ¬ q = r) (hh : ¬ h = r) (v0 v1 v2 v3 v4 v5 v6 : Value)
    (S : w.cell? ⟨q, 1, none⟩ = a0 ∧ w.cell? ⟨h, 0, none⟩ = a1 ∧ w.cell? ⟨h, 1, none⟩ = a2 ∧ w.cell? ⟨h, 2, none⟩ = a3 ∧ w.cell? ⟨h, 3, none⟩ = a4 ∧ w.cell? ⟨h, 4, none⟩ = a5 ∧ w.cell? ⟨h, 5, none⟩ = a6) :
    (((((((w.setCell ⟨r, 0, none⟩ v0).setCell ⟨r, 1, none⟩ v1).setCell ⟨r, 2, none⟩ v2).setCell ⟨r, 3, none⟩ v3).setCell ⟨r, 4, none⟩ v4).setCell ⟨r, 5, none⟩ v5).setCell ⟨r, 6, none⟩ v6).cell? ⟨q, 1, none⟩ = a0 ∧
    (((((((w.setCell ⟨r, 0, none⟩ v0).setCell ⟨r, 1, none⟩ v1).setCell ⟨r, 2, none⟩ v2).setCell ⟨r, 3, none⟩ v3).setCell ⟨r, 4, none⟩ v4).setCell ⟨r, 5, none⟩ v5).setCell ⟨r, 6, none⟩ v6).cell? ⟨h, 0, none⟩ = a1 ∧
    (((((((w.setCell ⟨r, 0, none⟩ v0).setCell ⟨r, 1, none⟩ v1).setCell ⟨r, 2, none⟩ v2).setCell ⟨r, 3, none⟩ v3).setCell ⟨r, 4, none⟩ v4).setCell ⟨r, 5, none⟩ v5).setCell ⟨r, 6, none⟩ v6).cell? ⟨h, 1, none⟩ = a2 ∧
    (((((((w.setCell ⟨r, 0, none⟩ v0).setCell ⟨r, 1, none⟩ v1).setCell ⟨r, 2, none⟩ v2).setCell ⟨r, 3, none⟩ v3).setCell ⟨r, 4, none⟩ v4).setCell ⟨r, 5, none⟩ v5).setCell ⟨r, 6, none⟩ v6).cell? ⟨h, 2, none⟩ = a3 ∧
    (((((((w.setCell ⟨r, 0, none⟩ v0).setCell ⟨r, 1, none⟩ v1).setCell ⟨r, 2, none⟩ v2).setCell ⟨r, 3, none⟩ v3).setCell ⟨r, 4, none⟩ v4).setCell ⟨r, 5, none⟩ v5).setCell ⟨r, 6, none⟩ v6).cell? ⟨h, 3, none⟩ = a4 ∧
    (((((((w.setCell ⟨r, 0, none⟩ v0).setCell ⟨r, 1, none⟩ v1).setCell ⟨r, 2, none⟩ v2).setCell ⟨r, 3, none⟩ v3).setCell ⟨r, 4, none⟩ v4).setCell ⟨r, 5, none⟩ v5).setCell ⟨r, 6, none⟩ v6).cell? ⟨h, 4, none⟩ = a5 ∧
    (((((((w.setCell ⟨r, 0, none⟩ v0).setCell ⟨r, 1, none⟩ v1).setCell ⟨r, 2, none⟩ v2).setCell ⟨r, 3, none⟩ v3).setCell ⟨r, 4, none⟩ v4).setCell ⟨r, 5, none⟩ v5).setCell ⟨r, 6, none⟩ v6).cell? ⟨h, 5, none⟩ = a6 := by
  obtain ⟨s0, s1, s2, s3, s4, s5, s6⟩ := S
  exact ⟨(far7 hq ..).trans s0, (far7 hh ..).trans s1, (far7 hh ..).trans s2, (far7 hh ..).trans s3, (far7 hh ..).trans s4, (far7 hh ..).trans s5, (far7 hh ..).trans s6⟩
theorem SeeS.loads {w : World} {q h r b : Nat} {run : Int} {x : HeldS} {y : StateS} (S : SeeS w q h r b run x y) :
    w.cell? ⟨q, 1, none⟩ = some (.int .i64 run) ∧ w.cell? ⟨h, 0, none⟩ = some (.string x.good) ∧ w.cell? ⟨h, 1, none⟩ = some (.int .i64 x.floor) ∧ w.cell? ⟨h, 2, none⟩ = some (.string x.trial) ∧
    w.cell? ⟨h, 3, none⟩ = some (.int .i64 x.tries) ∧ w.cell? ⟨h, 4, none⟩ = some (.int .i64 x.size) ∧ w.cell? ⟨h, 5, none⟩ = some (.string x.got) := by
  obtain ⟨a, b, c⟩ := S
  obtain ⟨q0, q1, q2, q3, q4, q5, _⟩ := held_cells b
  exact ⟨(dev_cells a).2.1, q0, q1, q2, q3, q4, q5⟩

set_option maxRecDepth 100000 in
set_option maxHeartbeats 4000000 in
theorem state_any (w : World) (q b g : Nat) (c : ChipS) (run : Int) (x : HeldS) (h : Dv w b g c) (hq : w.heap[q]? = some (.cells (devC b run) 66 (0, 0))) (hl : loadM c.cells = some x) :
    Calls Tryd.prog 14 #[.pointer (some ⟨q, 0, none⟩)] w fun e w' => e = .returned (stateM x run).v ∧ Below w.heap.size w w' := by
  have HL := fun wx (hb : Below w.heap.size w wx) => load_held wx b g c (h.below hb)
  have hf := load_fit hl
  rw [hl] at HL
  have HV1 := fun wx => version_any wx x.good (by omega)
  have HV2 := fun wx => version_any wx x.trial (by omega)
  have hb1 : ∀ o, Below w.heap.size w (w.alloc o) := fun o => (Below.refl _ _).alloc (Nat.le_refl _) o
  have HR : Hid (stateM x run = ⟨verB x.good, x.floor, verB x.trial, x.tries, x.size, x.got.size, run⟩) := rfl
  have hq1 : ∀ o, (w.alloc o).heap[q]? = some (.cells (devC b run) 66 (0, 0)) := alloc_heap hq
  have D : ∀ o, (w.alloc o).cell? ⟨q, 0, none⟩ = some (.pointer (some ⟨b, 0, none⟩)) := fun o => (dev_cells (hq1 o)).1
  obtain ⟨gd, fl, tr, ts, sz, gt⟩ := x
  simp only [loadOut, HeldS.v] at *
  generalize verB gd = vg at *
  generalize verB tr = vt at *
  have hgs : (gt.size : Int) ≤ 256 := by omega
  clear hl hf
  go_enter Tryd.func14, Tryd.ntmps14
  go_wp2_with (go_at_call 29; refine (HL _ (hb1 _)).mono ?_; rintro en w2 ⟨rfl, hb2⟩)
  have hbw := (hb1 _).trans (hb2.mono (by simp))
  have hbA := hbw.alloc hbw.size (.cells (HeldS.cs ⟨gd, fl, tr, ts, sz, gt⟩) 62)
  have hqA := alloc_heap (below_heap hb2 (hq1 _)) (.cells (HeldS.cs ⟨gd, fl, tr, ts, sz, gt⟩) 62)
  have hRA := alloc_heap (below_heap hb2 (heap_alloc_new w _)) (.cells (HeldS.cs ⟨gd, fl, tr, ts, sz, gt⟩) 62)
  have hN := heap_alloc_new w2 (.cells (HeldS.cs ⟨gd, fl, tr, ts, sz, gt⟩) 62)
  have hS : SeeS (w2.alloc (.cells (HeldS.cs ⟨gd, fl, tr, ts, sz, gt⟩) 62)) q w2.heap.size w.heap.size b run ⟨gd, fl, tr, ts, sz, gt⟩ ⟨0, 0, 0, 0, 0, 0, 0⟩ := ⟨hqA, hN, hRA⟩
  have hSz : w.heap.size < w2.heap.size := by have := hb2.size; simp at this; omega
  have hqn : ¬ q = w.heap.size := by have := (Array.getElem?_eq_some_iff.1 hq).1; omega
  clear hqA hRA hN hb2 D hq1 hq
  simp only [HeldS.cs] at hbA hS
  generalize w2.alloc (.cells #[.string gd, .int .i64 fl, .string tr, .int .i64 ts, .int .i64 sz, .string gt] 62) = wz at *
  have hSd : SeeS wz.drew q w2.heap.size w.heap.size b run ⟨gd, fl, tr, ts, sz, gt⟩ ⟨0, 0, 0, 0, 0, 0, 0⟩ := hS
  have n1 : ¬ w2.heap.size = w.heap.size := by have := hSz; omega
  have n2 : ¬ q = w.heap.size := hqn
  clear hS
  have hT0 := SeeS.loads hSd
  simp only at hT0
  go_region_held3 (fun w' => w'.cell? ⟨q, 1, none⟩ = some (.int .i64 run) ∧ w'.cell? ⟨w2.heap.size, 0, none⟩ = some (.string gd) ∧ w'.cell? ⟨w2.heap.size, 1, none⟩ = some (.int .i64 fl) ∧ w'.cell? ⟨w2.heap.size, 2, none⟩ = some (.string tr) ∧ w'.cell? ⟨w2.heap.size, 3, none⟩ = some (.int .i64 ts) ∧ w'.cell? ⟨w2.heap.size, 4, none⟩ = some (.int .i64 sz) ∧ w'.cell? ⟨w2.heap.size, 5, none⟩ = some (.string gt)) ((first | with_reducible exact hT0 | with_reducible exact hT5 | with_reducible exact hT6 | with_reducible exact hT7 | with_reducible exact hT8 | with_reducible exact far7s n2 n1 _ _ _ _ _ _ _ hT7 | with_reducible exact far7s n2 n1 _ _ _ _ _ _ _ hT8))
    (first
      | (go_at_call 30; with_reducible show Calls Tryd.prog 30 #[Value.string gd] wz.drew _; refine (HV1 wz.drew).mono ?_; rintro en w5 ⟨rfl, hb5⟩; have hS5 := hSd.kept hb5; have hT5 := SeeS.loads hS5; simp only at hT5)
      | (go_at_call 30; with_reducible show Calls Tryd.prog 30 #[Value.string tr] wz.drew _; refine (HV2 wz.drew).mono ?_; rintro en w6 ⟨rfl, hb6⟩; have hS6 := hSd.kept hb6; have hT6 := SeeS.loads hS6; simp only at hT6)
      | (go_at_call 30; with_reducible show Calls Tryd.prog 30 #[Value.string tr] w5 _; refine (HV2 w5).mono ?_; rintro en w7 ⟨rfl, hb7⟩; have hS7 := hS5.kept hb7; have hT7 := SeeS.loads hS7; simp only at hT7; obtain ⟨s0, s1, s2, s3, s4, s5, s6, sf⟩ := state_cells hS7.st)
      | (go_at_call 30; with_reducible show Calls Tryd.prog 30 #[Value.string gd] w6 _; refine (HV1 w6).mono ?_; rintro en w8 ⟨rfl, hb8⟩; have hS8 := hS6.kept hb8; have hT8 := SeeS.loads hS8; simp only at hT8; obtain ⟨s0, s1, s2, s3, s4, s5, s6, sf⟩ := state_cells hS8.st))
  go_wp2
  refine bodyPost_ret (v := StateS.v ⟨vg, fl, vt, ts, sz, gt.size, run⟩) (by simp [results, Tryd.results14, go_sem, StateS.v, s0, s1, s2, s3, s4, s5, s6]) rfl ⟨by rw [HR.out], ?_⟩
  have hb57 := hbA.drew.trans ((hb5.mono hbA.size).trans (hb7.mono (Nat.le_trans hbA.size hb5.size)))
  exact ((((((hb57.setCell (Nat.le_refl _) _).setCell (Nat.le_refl _) _).setCell (Nat.le_refl _) _).setCell (Nat.le_refl _) _).setCell (Nat.le_refl _) _).setCell (Nat.le_refl _) _).setCell (Nat.le_refl _) _
end Go.Proofs.YtcokahccbjdeaabDoor
