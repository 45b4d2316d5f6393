import Derived.Test.YtcokahccbjdeaaaDoorStO
import Derived.Test.YtcokahccbjdeaaaDoorDevs
import Derived.Test.YtcokahccbjdeaaaDoorLds
namespace Go.Proofs.YtcokahccbjdeaaaDoor
open Go.RowKit

/-- What a call that writes the chip and the device leaves behind. -/
structure Left (w w' : World) (q b g : Nat) (c' : ChipS) (run' : Int) : Prop where
  chip : ChipAt w' b g c'
  dev : w'.heap[q]? = some (.cells (devC b run') 76 (0, 0))
  only : Only (fun k => k = b ∨ k = g ∨ k = q) w w'
theorem Left.below {w w' : World} {q b g : Nat} {c : ChipS} {run : Int} (hc : ChipAt w b g c) (hq : w.heap[q]? = some (.cells (devC b run) 76 (0, 0))) (hb : Below w.heap.size w w') : Left w w' q b g c run :=
  ⟨hc.below hb, below_heap hb hq, Only.of_below _ hb⟩
theorem Left.chip1 {w w' : World} {q b g : Nat} {c' : ChipS} {run : Int} (hc : ChipAt w' b g c') (hq : w'.heap[q]? = some (.cells (devC b run) 76 (0, 0))) (ho : Only (fun k => k = b ∨ k = g) w w') : Left w w' q b g c' run :=
  ⟨hc, hq, ho.mono fun k hk => by rcases hk with e | e; exact Or.inl e; exact Or.inr (Or.inl e)⟩
theorem Left.put {w w' : World} {q b g : Nat} {c' : ChipS} {run : Int} (h : Left w w' q b g c' run) (run' : Int) : Left w (w'.setCell ⟨q, 1, none⟩ (.int .i64 run')) q b g c' run' := by
  have n1 : b ≠ q := fun e => ne_of_heap0 h.chip.hb h.dev (by decide) e
  have n2 : g ≠ q := fun e => ne_of_heap0 h.chip.hg h.dev (by decide) e
  refine ⟨⟨(heap_setCell_ne _ _ _ _ _ n1).trans h.chip.hb, (heap_setCell_ne _ _ _ _ _ n2).trans h.chip.hg, h.chip.len, h.chip.ops0, h.chip.left1, h.chip.left0, h.chip.tn⟩, ?_, h.only.setCell (Or.inr (Or.inr rfl)) _⟩
  rw [heap_setCell_at _ _ _ _ _ _ _ h.dev]; rfl
theorem Left.then {w w1 w2 : World} {q b g : Nat} {c' : ChipS} {run : Int} (h : Left w w1 q b g c' run) (hb : Below w1.heap.size w1 w2) : Left w w2 q b g c' run :=
  ⟨h.chip.below hb, below_heap hb h.dev, h.only.trans_below hb⟩
set_option maxRecDepth 100000 in
set_option maxHeartbeats 4000000 in
theorem raise_any (w : World) (q b g : Nat) (c : ChipS) (run : Int) (hops : c.ops < 4611686018427370000) (h : Dv w b g c) (hq : w.heap[q]? = some (.cells (devC b run) 76 (0, 0)))
    (hok : ∀ x, loadM c.cells = some x → x.ok) :
    Calls Tryd.prog 72 #[.pointer (some ⟨q, 0, none⟩)] w fun e w' => e = .returned (.int .i64 (raiseM c).2) ∧ Left w w' q b g (raiseM c).1 run := by
  have HL := load_held w b g c h
  obtain ⟨d0, d1, df⟩ := dev_cells hq
  cases hl : loadM c.cells with
  | none =>
    have HF : Hid (raiseM c = (c, 8)) := by unfold raiseM Hid; rw [hl]
    rw [hl] at HL
    simp only [loadOut, HeldS.v, noHeld] at HL
    clear hl hok
    go_enter Tryd.func72, Tryd.ntmps72
    go_wp2_with (go_at_call 28; refine HL.mono ?_; rintro en w2 ⟨rfl, hb2⟩; have hbA := hb2.alloc hb2.size (.cells noHeld.cs 72))
    go_ret
    exact ⟨by rw [HF.out]; rfl, by rw [HF.out]; exact Left.below h.chip hq hbA⟩
  | some x =>
    have hx := hok x hl
    have hf := load_fit hl
    rw [hl] at HL
    have HV := fun wx => version_any wx x.good (by omega)
    by_cases ht : x.trial.size = 0
    · have HF : Hid (raiseM c = (c.prims (saveOps c.cells ⟨x.good, verB x.good, x.trial, x.tries, x.size, x.got⟩), 0)) := by
        unfold raiseM Hid; rw [hl]; simp only [ht]; rfl
      have hok2 : HeldS.ok ⟨x.good, verB x.good, x.trial, x.tries, x.size, x.got⟩ := ok_raised hx ht
      have HS := fun wx (hb : Below w.heap.size w wx) => save_held wx b g c _ hok2 (by omega) (h.below hb)
      have et : x.trial = ⟨#[]⟩ := empty_of_size ht
      obtain ⟨gd, fl, tr, ts, sz, gt⟩ := x
      simp only [loadOut, HeldS.v] at *
      generalize verB gd = vg at *
      subst et
      clear hl hok hok2 hx hf ht
      go_enter Tryd.func72, Tryd.ntmps72
      go_wp2_with (first
        | (go_at_call 28; refine HL.mono ?_; rintro en w2 ⟨rfl, hb2⟩; have hq2 := below_heap hb2 hq; have hbA := hb2.alloc hb2.size (.cells (HeldS.cs ⟨gd, fl, ⟨#[]⟩, ts, sz, gt⟩) 72))
        | (go_at_call 50; refine (HV _).mono ?_; rintro en w3 ⟨rfl, hb3⟩; have hbB := hbA.trans (hb3.mono hbA.size); have hN := below_heap hb3 (heap_alloc_new w2 (.cells (HeldS.cs ⟨gd, fl, ⟨#[]⟩, ts, sz, gt⟩) 72)); have hq3 := below_heap hb3 (alloc_heap hq2 (.cells (HeldS.cs ⟨gd, fl, ⟨#[]⟩, ts, sz, gt⟩) 72)); obtain ⟨q0, q1, q2, q3, q4, q5, qf⟩ := held_cells hN; simp only at q0 q1 q2 q3 q4 q5))
      clear q0 q1 q2 q3 q4 q5 qf d0 d1 df
      have hl2 : w.heap.size ≤ w2.heap.size := hb2.size
      have nq : q ≠ w2.heap.size := by have := (Array.getElem?_eq_some_iff.1 hq2).1; omega
      have hN3 : (w3.setCell ⟨w2.heap.size, 1, none⟩ (.int .i64 vg)).heap[w2.heap.size]? = some (.cells (HeldS.cs ⟨gd, vg, ⟨#[]⟩, ts, sz, gt⟩) 72 (0, 0)) := by rw [heap_setCell_at _ _ _ _ _ _ _ hN]; rfl
      have hq4 : (w3.setCell ⟨w2.heap.size, 1, none⟩ (.int .i64 vg)).heap[q]? = some (.cells (devC b run) 76 (0, 0)) := (heap_setCell_ne _ _ _ _ _ nq).trans hq3
      have hbC : Below w.heap.size w (w3.setCell ⟨w2.heap.size, 1, none⟩ (.int .i64 vg)) := hbB.setCell hl2 _
      generalize w3.setCell ⟨w2.heap.size, 1, none⟩ (.int .i64 vg) = wz at *
      obtain ⟨p0, p1, pf⟩ := dev_cells (w := wz.drew) hq4
      obtain ⟨q0, q1, q2, q3, q4, q5, qf⟩ := held_cells (w := wz.drew) hN3
      simp only at q0 q1 q2 q3 q4 q5
      have hbZ := hbC.drew
      have nbq : ¬ (q = b ∨ q = g) := fun hx => by rcases hx with e | e; exact ne_of_heap0 hq h.chip.hb (by decide) e; exact ne_of_heap0 hq h.chip.hg (by decide) e
      go_region_with (go_at_call 29; refine (HS _ hbZ).mono ?_; rintro en w4 ⟨rfl, hc4, ho4⟩)
      all_goals go_wp2
      all_goals go_ret
      all_goals exact ⟨by rw [HF.out]; rfl, by rw [HF.out]; exact Left.chip1 hc4 (ho4.heap (w := wz.drew) hq4 nbq) ((Only.of_below _ hbZ).trans ho4)⟩
    · have HF : Hid (raiseM c = (c, 10)) := by unfold raiseM Hid; rw [hl]; simp only [if_pos ht]
      have hne := ne_empty ht
      obtain ⟨gd, fl, tr, ts, sz, gt⟩ := x
      simp only [loadOut, HeldS.v] at *
      clear hl hok hx hf
      go_enter Tryd.func72, Tryd.ntmps72
      go_wp2_with (go_at_call 28; refine HL.mono ?_; rintro en w2 ⟨rfl, hb2⟩; have hbA := hb2.alloc hb2.size (.cells (HeldS.cs ⟨gd, fl, tr, ts, sz, gt⟩) 72))
      go_ret
      exact ⟨by rw [HF.out]; rfl, by rw [HF.out]; exact Left.below h.chip hq hbA⟩
end Go.Proofs.YtcokahccbjdeaaaDoor

namespace Go.Proofs.YtcokahccbjdeaaaDoor
open Go.RowKit

set_option maxRecDepth 100000 in
set_option maxHeartbeats 4000000 in
theorem confirm_any (w : World) (q b g : Nat) (c : ChipS) (run : Int) (hops : c.ops < 4611686018427370000) (h : Dv w b g c) (hq : w.heap[q]? = some (.cells (devC b run) 76 (0, 0)))
    (hok : ∀ x, loadM c.cells = some x → x.ok) :
    Calls Tryd.prog 13 #[.pointer (some ⟨q, 0, none⟩)] w fun e w' => e = .returned (.int .i64 (confirmM c run).2.2) ∧ Left w w' q b g (confirmM c run).1 (confirmM c run).2.1 := by
  have HL := load_held w b g c h
  obtain ⟨d0, d1, df⟩ := dev_cells hq
  cases hl : loadM c.cells with
  | none =>
    have HF : Hid (confirmM c run = (c, run, 8)) := by unfold confirmM Hid; rw [hl]
    rw [hl] at HL
    simp only [loadOut, HeldS.v, noHeld] at HL
    clear hl hok
    go_enter Tryd.func13, Tryd.ntmps13
    go_wp2_with (go_at_call 28; refine HL.mono ?_; rintro en w2 ⟨rfl, hb2⟩; have hbA := hb2.alloc hb2.size (.cells noHeld.cs 72))
    go_ret
    exact ⟨by rw [HF.out]; rfl, by rw [HF.out]; exact Left.below h.chip hq hbA⟩
  | some x =>
    have hx := hok x hl
    have hf := load_fit hl
    rw [hl] at HL
    by_cases hr : run = 2
    · by_cases ht : x.trial.size = 0
      · have HF : Hid (confirmM c run = (c, run, 14)) := by unfold confirmM Hid; rw [hl]; simp only [if_pos (Or.inr ht)]
        have et : x.trial = ⟨#[]⟩ := empty_of_size ht
        obtain ⟨gd, fl, tr, ts, sz, gt⟩ := x
        simp only [loadOut, HeldS.v] at *
        subst et hr
        clear hl hok hx hf
        go_enter Tryd.func13, Tryd.ntmps13
        go_wp2_with (go_at_call 28; refine HL.mono ?_; rintro en w2 ⟨rfl, hb2⟩; have hbA := hb2.alloc hb2.size (.cells (HeldS.cs ⟨gd, fl, ⟨#[]⟩, ts, sz, gt⟩) 72); have hqA := fun y => alloc_heap (below_heap hb2 hq) y; have e1 : ∀ y, (w2.alloc y).cell? ⟨q, 1, none⟩ = some (.int .i64 2) := fun y => (dev_cells (hqA y)).2.1)
        go_ret
        exact ⟨by rw [HF.out]; rfl, by rw [HF.out]; exact Left.below h.chip hq hbA⟩
      · have HF : Hid (confirmM c run = (c.prims (saveOps c.cells ⟨x.trial, x.floor, ⟨#[]⟩, 0, 0, ⟨#[]⟩⟩), 1, 0)) := by
          unfold confirmM Hid; rw [hl]; simp only [if_neg (show ¬ (run ≠ 2 ∨ x.trial.size = 0) by omega)]; rfl
        have hok2 : HeldS.ok ⟨x.trial, x.floor, ⟨#[]⟩, 0, 0, ⟨#[]⟩⟩ := ok_plain _ _ hx.fl (hx.onTrial ht).2.2.2
        have HS := fun wx (hb : Below w.heap.size w wx) => save_held wx b g c _ hok2 (by omega) (h.below hb)
        have hne := ne_empty ht
        obtain ⟨gd, fl, tr, ts, sz, gt⟩ := x
        simp only [loadOut, HeldS.v] at *
        subst hr
        clear hl hok hok2 hx
        go_enter Tryd.func13, Tryd.ntmps13
        go_wp2_with (go_at_call 28; refine HL.mono ?_; rintro en w2 ⟨rfl, hb2⟩; have hq2 := below_heap hb2 hq; have hqA := fun y => alloc_heap hq2 y; have e1 : ∀ y, (w2.alloc y).cell? ⟨q, 1, none⟩ = some (.int .i64 2) := fun y => (dev_cells (hqA y)).2.1)
        have hbA := hb2.alloc hb2.size (.cells (HeldS.cs ⟨gd, fl, tr, ts, sz, gt⟩) 72)
        have hqB := alloc_heap hq2 (.cells (HeldS.cs ⟨gd, fl, tr, ts, sz, gt⟩) 72)
        have hN := heap_alloc_new w2 (.cells (HeldS.cs ⟨gd, fl, tr, ts, sz, gt⟩) 72)
        clear e1 hqA
        simp only [HeldS.cs] at hbA hqB hN
        generalize w2.alloc (.cells #[.string gd, .int .i64 fl, .string tr, .int .i64 ts, .int .i64 sz, .string gt] 72) = wz at *
        have hN' : wz.heap[w2.heap.size]? = some (.cells (HeldS.cs ⟨gd, fl, tr, ts, sz, gt⟩) 72 (0, 0)) := hN
        clear hN d0 d1 df
        obtain ⟨p0, p1, pf⟩ := dev_cells (w := wz.drew) hqB
        obtain ⟨q0, q1, q2, q3, q4, q5, qf⟩ := held_cells (w := wz.drew) hN'
        simp only at q0 q1 q2 q3 q4 q5
        have hbZ := hbA.drew
        have nq : ¬ (q = b ∨ q = g) := fun hx => by rcases hx with e | e; exact ne_of_heap0 hq h.chip.hb (by decide) e; exact ne_of_heap0 hq h.chip.hg (by decide) e
        have nN : ¬ (w2.heap.size = b ∨ w2.heap.size = g) := by
          have := hb2.size
          have l1 := (Array.getElem?_eq_some_iff.1 h.chip.hb).1
          have l2 := (Array.getElem?_eq_some_iff.1 h.chip.hg).1
          omega
        have hT0 : wz.drew.cell? ⟨q, 0, none⟩ = some (.pointer (some ⟨b, 0, none⟩)) ∧ wz.drew.cell? ⟨w2.heap.size, 1, none⟩ = some (.int .i64 fl) ∧ wz.drew.cell? ⟨w2.heap.size, 2, none⟩ = some (.string tr) := ⟨p0, q1, q2⟩
        go_region_held3 (fun w' => w'.cell? ⟨q, 0, none⟩ = some (.pointer (some ⟨b, 0, none⟩)) ∧ w'.cell? ⟨w2.heap.size, 1, none⟩ = some (.int .i64 fl) ∧ w'.cell? ⟨w2.heap.size, 2, none⟩ = some (.string tr)) ((first | with_reducible exact hT0 | with_reducible exact hT4))
          (first | (go_at_call 29; refine (HS _ hbZ).mono ?_; rintro en w4 ⟨rfl, hc4, ho4⟩; have hq4 := ho4.heap (w := wz.drew) hqB nq; have hN4 := ho4.heap (w := wz.drew) hN' nN; obtain ⟨u0, u1, uf⟩ := dev_cells hq4; have hT4 : w4.cell? ⟨q, 0, none⟩ = some (.pointer (some ⟨b, 0, none⟩)) ∧ w4.cell? ⟨w2.heap.size, 1, none⟩ = some (.int .i64 fl) ∧ w4.cell? ⟨w2.heap.size, 2, none⟩ = some (.string tr) := ⟨u0, (held_cells hN4).2.1, (held_cells hN4).2.2.1⟩))
        all_goals go_wp2
        all_goals go_ret
        all_goals exact ⟨by rw [HF.out]; rfl, by rw [HF.out]; exact (Left.chip1 hc4 hq4 ((Only.of_below _ hbZ).trans ho4)).put 1⟩
    · have HF : Hid (confirmM c run = (c, run, 14)) := by unfold confirmM Hid; rw [hl]; simp only [if_pos (Or.inl hr)]
      obtain ⟨gd, fl, tr, ts, sz, gt⟩ := x
      simp only [loadOut, HeldS.v] at *
      clear hl hok hx hf
      go_enter Tryd.func13, Tryd.ntmps13
      go_wp2_with (go_at_call 28; refine HL.mono ?_; rintro en w2 ⟨rfl, hb2⟩; have hbA := hb2.alloc hb2.size (.cells (HeldS.cs ⟨gd, fl, tr, ts, sz, gt⟩) 72); have hqA := fun y => alloc_heap (below_heap hb2 hq) y; have e1 : ∀ y, (w2.alloc y).cell? ⟨q, 1, none⟩ = some (.int .i64 run) := fun y => (dev_cells (hqA y)).2.1)
      go_ret
      exact ⟨by rw [HF.out]; rfl, by rw [HF.out]; exact Left.below h.chip hq hbA⟩
end Go.Proofs.YtcokahccbjdeaaaDoor

namespace Go.Proofs.YtcokahccbjdeaaaDoor
open Go.RowKit

set_option maxRecDepth 100000 in
set_option maxHeartbeats 4000000 in
theorem drop_any (w : World) (q b g : Nat) (c : ChipS) (run : Int) (hops : c.ops < 4611686018427370000) (h : Dv w b g c) (hq : w.heap[q]? = some (.cells (devC b run) 76 (0, 0)))
    (hok : ∀ x, loadM c.cells = some x → x.ok) :
    Calls Tryd.prog 73 #[.pointer (some ⟨q, 0, none⟩)] w fun e w' => e = .returned (.int .i64 (dropM c run).2.2) ∧ Left w w' q b g (dropM c run).1 (dropM c run).2.1 := by
  have HL := load_held w b g c h
  obtain ⟨d0, d1, df⟩ := dev_cells hq
  cases hl : loadM c.cells with
  | none =>
    have HF : Hid (dropM c run = (c, run, 8)) := by unfold dropM Hid; rw [hl]
    rw [hl] at HL
    simp only [loadOut, HeldS.v, noHeld] at HL
    clear hl hok
    go_enter Tryd.func73, Tryd.ntmps73
    go_wp2_with (go_at_call 28; refine HL.mono ?_; rintro en w2 ⟨rfl, hb2⟩; have hbA := hb2.alloc hb2.size (.cells noHeld.cs 72))
    go_ret
    exact ⟨by rw [HF.out]; rfl, by rw [HF.out]; exact Left.below h.chip hq hbA⟩
  | some x =>
    have hx := hok x hl
    have hf := load_fit hl
    rw [hl] at HL
    by_cases hi : x.trial.size = 0 ∧ x.size = 0
    · have HF : Hid (dropM c run = (c, run, 11)) := by unfold dropM Hid; rw [hl]; simp only [if_pos hi]
      have et : x.trial = ⟨#[]⟩ := empty_of_size hi.1
      have es := hi.2
      obtain ⟨gd, fl, tr, ts, sz, gt⟩ := x
      simp only [loadOut, HeldS.v] at *
      subst et es
      clear hl hok hx hf hi
      go_enter Tryd.func73, Tryd.ntmps73
      go_wp2_with (go_at_call 28; refine HL.mono ?_; rintro en w2 ⟨rfl, hb2⟩; have hbA := hb2.alloc hb2.size (.cells (HeldS.cs ⟨gd, fl, ⟨#[]⟩, ts, 0, gt⟩) 72))
      go_ret
      exact ⟨by rw [HF.out]; rfl, by rw [HF.out]; exact Left.below h.chip hq hbA⟩
    · have HF : Hid (dropM c run = (c.prims (saveOps c.cells ⟨x.good, x.floor, ⟨#[]⟩, 0, 0, ⟨#[]⟩⟩), if run = 2 then 0 else run, 0)) := by
        unfold dropM Hid; rw [hl]; simp only [if_neg hi]; rfl
      have hok2 : HeldS.ok ⟨x.good, x.floor, ⟨#[]⟩, 0, 0, ⟨#[]⟩⟩ := ok_plain _ _ hx.fl hx.img.1
      have HS := fun wx (hb : Below w.heap.size w wx) => save_held wx b g c _ hok2 (by omega) (h.below hb)
      have nq : ¬ (q = b ∨ q = g) := fun hx => by rcases hx with e | e; exact ne_of_heap0 hq h.chip.hb (by decide) e; exact ne_of_heap0 hq h.chip.hg (by decide) e
      obtain ⟨gd, fl, tr, ts, sz, gt⟩ := x
      simp only [loadOut, HeldS.v] at *
      clear hl hok hok2 hx
      have key : ∀ (w2 : World), Below w.heap.size w w2 → ∀ wz, wz = w2.alloc (.cells #[.string gd, .int .i64 fl, .string tr, .int .i64 ts, .int .i64 sz, .string gt] 72) →
          Below w.heap.size w wz ∧ wz.heap[q]? = some (.cells (devC b run) 76 (0, 0)) ∧ wz.heap[w2.heap.size]? = some (.cells (HeldS.cs ⟨gd, fl, tr, ts, sz, gt⟩) 72 (0, 0)) ∧ ¬ (w2.heap.size = b ∨ w2.heap.size = g) := by
        intro w2 hb2 wz e
        subst e
        have l1 := (Array.getElem?_eq_some_iff.1 h.chip.hb).1
        have l2 := (Array.getElem?_eq_some_iff.1 h.chip.hg).1
        have := hb2.size
        exact ⟨hb2.alloc hb2.size _, alloc_heap (below_heap hb2 hq) _, heap_alloc_new w2 _, by omega⟩
      by_cases ht : tr.size = 0
      · have et : tr = ⟨#[]⟩ := empty_of_size ht
        have hs : ¬ sz = 0 := fun e => hi ⟨ht, e⟩
        have hsb : (sz == 0) = false := by simp [hs]
        subst et
        clear hi ht hf
        go_enter Tryd.func73, Tryd.ntmps73
        go_wp2_with (go_at_call 28; refine HL.mono ?_; rintro en w2 ⟨rfl, hb2⟩)
        obtain ⟨hbA, hqB, hN', nN⟩ := key w2 hb2 _ rfl
        generalize w2.alloc (.cells #[.string gd, .int .i64 fl, .string ⟨#[]⟩, .int .i64 ts, .int .i64 sz, .string gt] 72) = wz at *
        clear key d0 d1 df
        obtain ⟨p0, p1, pf⟩ := dev_cells (w := wz.drew) hqB
        obtain ⟨q0, q1, q2, q3, q4, q5, qf⟩ := held_cells (w := wz.drew) hN'
        simp only at q0 q1 q2 q3 q4 q5
        have hbZ := hbA.drew
        have hT0 : wz.drew.cell? ⟨q, 0, none⟩ = some (.pointer (some ⟨b, 0, none⟩)) ∧ wz.drew.cell? ⟨w2.heap.size, 0, none⟩ = some (.string gd) ∧ wz.drew.cell? ⟨w2.heap.size, 1, none⟩ = some (.int .i64 fl) := ⟨p0, q0, q1⟩
        go_region_held3 (fun w' => w'.cell? ⟨q, 0, none⟩ = some (.pointer (some ⟨b, 0, none⟩)) ∧ w'.cell? ⟨w2.heap.size, 0, none⟩ = some (.string gd) ∧ w'.cell? ⟨w2.heap.size, 1, none⟩ = some (.int .i64 fl)) ((first | with_reducible exact hT0 | with_reducible exact hT4))
          (first | (go_at_call 29; refine (HS _ hbZ).mono ?_; rintro en w4 ⟨rfl, hc4, ho4⟩; have hq4 := ho4.heap (w := wz.drew) hqB nq; have hN4 := ho4.heap (w := wz.drew) hN' nN; obtain ⟨u0, u1, uf⟩ := dev_cells hq4; have hT4 : w4.cell? ⟨q, 0, none⟩ = some (.pointer (some ⟨b, 0, none⟩)) ∧ w4.cell? ⟨w2.heap.size, 0, none⟩ = some (.string gd) ∧ w4.cell? ⟨w2.heap.size, 1, none⟩ = some (.int .i64 fl) := ⟨u0, (held_cells hN4).1, (held_cells hN4).2.1⟩))
        by_cases hr : run = 2
        · subst hr
          all_goals go_wp2
          all_goals go_ret
          all_goals exact ⟨by rw [HF.out]; rfl, by rw [HF.out]; exact (Left.chip1 hc4 hq4 ((Only.of_below _ hbZ).trans ho4)).put 0⟩
        · rw [if_neg hr] at HF
          have hrb : (run == 2) = false := by simp [hr]
          all_goals go_wp2
          all_goals go_ret
          all_goals exact ⟨by rw [HF.out]; rfl, by rw [HF.out]; exact Left.chip1 hc4 hq4 ((Only.of_below _ hbZ).trans ho4)⟩
      · have hne := ne_empty ht
        clear hi hf
        go_enter Tryd.func73, Tryd.ntmps73
        go_wp2_with (go_at_call 28; refine HL.mono ?_; rintro en w2 ⟨rfl, hb2⟩)
        obtain ⟨hbA, hqB, hN', nN⟩ := key w2 hb2 _ rfl
        generalize w2.alloc (.cells #[.string gd, .int .i64 fl, .string tr, .int .i64 ts, .int .i64 sz, .string gt] 72) = wz at *
        clear key d0 d1 df
        obtain ⟨p0, p1, pf⟩ := dev_cells (w := wz.drew) hqB
        obtain ⟨q0, q1, q2, q3, q4, q5, qf⟩ := held_cells (w := wz.drew) hN'
        simp only at q0 q1 q2 q3 q4 q5
        have hbZ := hbA.drew
        have hT0 : wz.drew.cell? ⟨q, 0, none⟩ = some (.pointer (some ⟨b, 0, none⟩)) ∧ wz.drew.cell? ⟨w2.heap.size, 0, none⟩ = some (.string gd) ∧ wz.drew.cell? ⟨w2.heap.size, 1, none⟩ = some (.int .i64 fl) := ⟨p0, q0, q1⟩
        go_region_held3 (fun w' => w'.cell? ⟨q, 0, none⟩ = some (.pointer (some ⟨b, 0, none⟩)) ∧ w'.cell? ⟨w2.heap.size, 0, none⟩ = some (.string gd) ∧ w'.cell? ⟨w2.heap.size, 1, none⟩ = some (.int .i64 fl)) ((first | with_reducible exact hT0 | with_reducible exact hT4))
          (first | (go_at_call 29; refine (HS _ hbZ).mono ?_; rintro en w4 ⟨rfl, hc4, ho4⟩; have hq4 := ho4.heap (w := wz.drew) hqB nq; have hN4 := ho4.heap (w := wz.drew) hN' nN; obtain ⟨u0, u1, uf⟩ := dev_cells hq4; have hT4 : w4.cell? ⟨q, 0, none⟩ = some (.pointer (some ⟨b, 0, none⟩)) ∧ w4.cell? ⟨w2.heap.size, 0, none⟩ = some (.string gd) ∧ w4.cell? ⟨w2.heap.size, 1, none⟩ = some (.int .i64 fl) := ⟨u0, (held_cells hN4).1, (held_cells hN4).2.1⟩))
        by_cases hr : run = 2
        · subst hr
          all_goals go_wp2
          all_goals go_ret
          all_goals exact ⟨by rw [HF.out]; rfl, by rw [HF.out]; exact (Left.chip1 hc4 hq4 ((Only.of_below _ hbZ).trans ho4)).put 0⟩
        · rw [if_neg hr] at HF
          have hrb : (run == 2) = false := by simp [hr]
          all_goals go_wp2
          all_goals go_ret
          all_goals exact ⟨by rw [HF.out]; rfl, by rw [HF.out]; exact Left.chip1 hc4 hq4 ((Only.of_below _ hbZ).trans ho4)⟩
end Go.Proofs.YtcokahccbjdeaaaDoor

namespace Go.Proofs.YtcokahccbjdeaaaDoor
open Go.RowKit

theorem jumpV_nil : jumpV false (tx []) = noJump := by unfold jumpV; rw [loaded_no ver_none]; rfl
/-- The answer's own cells are written: nothing else is changed. -/
theorem Left.jump {w w' : World} {q b g p : Nat} {c' : ChipS} {run : Int} (h : Left w w' q b g c' run) (hp : w.heap.size ≤ p) (hb : b < w.heap.size) (hg : g < w.heap.size) (hq : q < w.heap.size) (v0 v1 v2 v3 : Value) :
    Left w ((((w'.setCell ⟨p, 0, none⟩ v0).setCell ⟨p, 1, none⟩ v1).setCell ⟨p, 2, none⟩ v2).setCell ⟨p, 3, none⟩ v3) q b g c' run := by
  have far : ∀ i, i < w.heap.size → ((((w'.setCell ⟨p, 0, none⟩ v0).setCell ⟨p, 1, none⟩ v1).setCell ⟨p, 2, none⟩ v2).setCell ⟨p, 3, none⟩ v3).heap[i]? = w'.heap[i]? := by
    intro i hi
    have n : i ≠ p := by omega
    rw [heap_setCell_ne _ _ _ _ _ n, heap_setCell_ne _ _ _ _ _ n, heap_setCell_ne _ _ _ _ _ n, heap_setCell_ne _ _ _ _ _ n]
  have hc := h.chip
  refine ⟨⟨(far b hb).trans hc.hb, (far g hg).trans hc.hg, hc.len, hc.ops0, hc.left1, hc.left0, hc.tn⟩, (far q hq).trans h.dev, ⟨h.only.os, h.only.tape, h.only.output, ?_, fun i hi hs => (far i hi).trans (h.only.block i hi hs)⟩⟩
  simp only [World.size_setCell]; exact h.only.size
set_option maxRecDepth 100000 in
set_option maxHeartbeats 8000000 in
theorem boot_any (w : World) (q b g : Nat) (c : ChipS) (run : Int) (hops : c.ops < 4611686018427370000) (h : Dv w b g c) (hq : w.heap[q]? = some (.cells (devC b run) 76 (0, 0)))
    (hok : ∀ x, loadM c.cells = some x → x.ok) :
    Calls Tryd.prog 26 #[.pointer (some ⟨q, 0, none⟩)] w fun e w' => e = .returned (.agg (jumpV (bootM c run).2.2.1 (bootM c run).2.2.2)) ∧ Left w w' q b g (bootM c run).1 (bootM c run).2.1 := by
  have HL := fun wx (hb : Below w.heap.size w wx) => load_held wx b g c (h.below hb)
  have hb1 : ∀ o, Below w.heap.size w (w.alloc o) := fun o => (Below.refl _ _).alloc (Nat.le_refl _) _
  have D := fun o => dev_cells (alloc_heap hq o)
  have d0 : ∀ o, (w.alloc o).cell? ⟨q, 0, none⟩ = some (.pointer (some ⟨b, 0, none⟩)) := fun o => (D o).1
  have lb := (Array.getElem?_eq_some_iff.1 h.chip.hb).1
  have lg := (Array.getElem?_eq_some_iff.1 h.chip.hg).1
  have lq := (Array.getElem?_eq_some_iff.1 hq).1
  have nbq : ¬ (q = b ∨ q = g) := fun hx => by rcases hx with e | e; exact ne_of_heap0 hq h.chip.hb (by decide) e; exact ne_of_heap0 hq h.chip.hg (by decide) e
  clear D
  cases hl : loadM c.cells with
  | none =>
    have HF : Hid (bootM c run = (c, run, false, tx [])) := by unfold bootM Hid; rw [hl]
    rw [hl] at HL
    simp only [loadOut, HeldS.v, noHeld] at HL
    clear hl hok
    go_enter Tryd.func26, Tryd.ntmps26
    go_wp2_with (go_at_call 28; refine (HL _ (hb1 _)).mono ?_; rintro en w2 ⟨rfl, hb2⟩; have hB := below_heap hb2 (heap_alloc_new w _); obtain ⟨r0, r1, r2, r3, rf⟩ := jump_alloc hB)
    refine bodyPost_ret (v := .agg #[.bool false, .int .i64 0, .int .i64 0, .string ⟨#[]⟩]) (by simp [results, Tryd.results26, go_sem, r0, r1, r2, r3]) rfl ⟨by rw [HF.out, jumpV_nil]; rfl, ?_⟩
    rw [HF.out]
    have hbw := (hb1 _).trans (hb2.mono (by simp))
    have hbA := hbw.alloc hbw.size (.cells noHeld.cs 72)
    have hle := Nat.le_refl w.heap.size
    exact Left.below h.chip hq ((((hbA.setCell hle _).setCell hle _).setCell hle _).setCell hle _)
  | some x =>
    have hx := hok x hl
    have hf := load_fit hl
    rw [hl] at HL
    by_cases ht : x.trial.size = 0
    · have HF : Hid (bootM c run = (c, 1, false, x.good)) := by unfold bootM Hid; rw [hl]; simp only; rw [if_neg (by simp [ht]), if_neg (by simp [ht])]
      have HJ0 := fun wx => jump_ok wx x.good false (by omega) hx.img.2.1
      have et : x.trial = ⟨#[]⟩ := empty_of_size ht
      obtain ⟨la, lc, ld, hlo⟩ : ∃ la lc ld, loadedB x.good = (la, lc, ld) := ⟨_, _, _, rfl⟩
      have HE : Hid (jumpV (bootM c run).2.2.1 (bootM c run).2.2.2 = #[.bool false, .int .i64 la, .int .i64 lc, .string ld]) := by rw [HF.out, Hid]; unfold jumpV; simp only [hlo]
      have HJ : ∀ wx, Calls Tryd.prog 51 #[.string x.good, .bool false] wx fun e w' => e = .returned (.agg #[.bool false, .int .i64 la, .int .i64 lc, .string ld]) ∧ Below wx.heap.size wx w' := by
        intro wx; have := HJ0 wx; unfold jumpV at this; rw [hlo] at this; exact this
      clear hlo HJ0
      obtain ⟨gd, fl, tr, ts, sz, gt⟩ := x
      simp only [loadOut, HeldS.v] at *
      subst et
      clear hl hok hx hf ht
      go_enter Tryd.func26, Tryd.ntmps26
      go_wp2_with (go_at_call 28; refine (HL _ (hb1 _)).mono ?_; rintro en w2 ⟨rfl, hb2⟩; have hB := below_heap hb2 (heap_alloc_new w _); have hbw := (hb1 _).trans (hb2.mono (by simp)); have hqA := fun y => alloc_heap (below_heap hbw hq) y; have e1 : ∀ y, (w2.alloc y).cell? ⟨q, 1, none⟩ = some (.int .i64 run) := fun y => (dev_cells (hqA y)).2.1; have ef : ∀ y o, (w2.alloc y).frozen? ⟨q, o, none⟩ = false := fun y => (dev_cells (hqA y)).2.2)
      have hL := (Left.below h.chip hq (hbw.alloc hbw.size (.cells (HeldS.cs ⟨gd, fl, ⟨#[]⟩, ts, sz, gt⟩) 72))).put 1
      have hJq := (heap_setCell_ne (w2.alloc (.cells (HeldS.cs ⟨gd, fl, ⟨#[]⟩, ts, sz, gt⟩) 72)) q w.heap.size 1 (.int .i64 1) (by omega)).trans (alloc_heap hB _)
      simp only [HeldS.cs] at hL hJq
      refine (HJ _).mono ?_
      rintro en w3 ⟨rfl, hb3⟩
      obtain ⟨r0, r1, r2, r3, rf⟩ := jump_cells (below_heap hb3 hJq)
      go_wp2
      refine bodyPost_ret (v := .agg #[.bool false, .int .i64 la, .int .i64 lc, .string ld]) (by simp [results, Tryd.results26, go_sem, r0, r1, r2, r3]) rfl ⟨by rw [HE.out], ?_⟩
      rw [HF.out]
      exact (hL.then hb3).jump (Nat.le_refl _) lb lg lq _ _ _ _
    · have hne := ne_empty ht
      by_cases h0 : 0 < x.tries
      · have HF : Hid (bootM c run = (c.prims (saveOps c.cells ⟨x.good, x.floor, x.trial, x.tries - 1, x.size, x.got⟩), 2, true, x.trial)) := by unfold bootM Hid; rw [hl]; simp only; rw [if_pos ⟨ht, h0⟩]
        have hok2 : HeldS.ok ⟨x.good, x.floor, x.trial, x.tries - 1, x.size, x.got⟩ := ok_tried hx ht h0
        have hon := hx.onTrial ht
        have hfl := hx.fl
        have HJ0 := fun wx => jump_ok wx x.trial true (by omega) (by omega)
        obtain ⟨la, lc, ld, hlo⟩ : ∃ la lc ld, loadedB x.trial = (la, lc, ld) := ⟨_, _, _, rfl⟩
        have HE : Hid (jumpV (bootM c run).2.2.1 (bootM c run).2.2.2 = #[.bool true, .int .i64 la, .int .i64 lc, .string ld]) := by rw [HF.out, Hid]; unfold jumpV; simp only [hlo]
        have HJ : ∀ wx, Calls Tryd.prog 51 #[.string x.trial, .bool true] wx fun e w' => e = .returned (.agg #[.bool true, .int .i64 la, .int .i64 lc, .string ld]) ∧ Below wx.heap.size wx w' := by
          intro wx; have := HJ0 wx; unfold jumpV at this; rw [hlo] at this; exact this
        clear hlo HJ0
        have HS := fun wx (hb : Below w.heap.size w wx) => save_held wx b g c _ hok2 (by omega) (h.below hb)
        have t3 : x.tries ≤ 3 := hon.2.2.1
        obtain ⟨gd, fl, tr, ts, sz, gt⟩ := x
        simp only [loadOut, HeldS.v] at *
        clear hl hok hx hf hok2 hon hfl
        go_enter Tryd.func26, Tryd.ntmps26
        go_wp2_with (go_at_call 28; refine (HL _ (hb1 _)).mono ?_; rintro en w2 ⟨rfl, hb2⟩; have hB := below_heap hb2 (heap_alloc_new w _); have hbw := (hb1 _).trans (hb2.mono (by simp)))
        have hbA := hbw.alloc hbw.size (.cells (HeldS.cs ⟨gd, fl, tr, ts - 1, sz, gt⟩) 72)
        have hqB := alloc_heap (below_heap hbw hq) (.cells (HeldS.cs ⟨gd, fl, tr, ts - 1, sz, gt⟩) 72)
        have hJB := alloc_heap hB (.cells (HeldS.cs ⟨gd, fl, tr, ts - 1, sz, gt⟩) 72)
        have hN := heap_alloc_new w2 (.cells (HeldS.cs ⟨gd, fl, tr, ts - 1, sz, gt⟩) 72)
        simp only [HeldS.cs] at hbA hqB hJB hN
        generalize w2.alloc (.cells #[.string gd, .int .i64 fl, .string tr, .int .i64 (ts - 1), .int .i64 sz, .string gt] 72) = wz at *
        have hN' : wz.heap[w2.heap.size]? = some (.cells (HeldS.cs ⟨gd, fl, tr, ts - 1, sz, gt⟩) 72 (0, 0)) := hN
        clear hN
        obtain ⟨p0, p1, pf⟩ := dev_cells (w := wz.drew) hqB
        obtain ⟨q0, q1, q2, q3, q4, q5, qf⟩ := held_cells (w := wz.drew) hN'
        simp only at q0 q1 q2 q3 q4 q5
        have hbZ := hbA.drew
        have hw2 : w.heap.size < w2.heap.size := Nat.lt_of_lt_of_le (by simp) hb2.size
        have nN : ¬ (w2.heap.size = b ∨ w2.heap.size = g) := by omega
        have nJ : ¬ (w.heap.size = b ∨ w.heap.size = g) := by omega
        have nqN : ¬ w2.heap.size = q := by omega
        have nqJ : w.heap.size ≠ q := by omega
        have hT0 : wz.drew.cell? ⟨q, 0, none⟩ = some (.pointer (some ⟨b, 0, none⟩)) ∧ wz.drew.cell? ⟨w2.heap.size, 0, none⟩ = some (.string gd) ∧ wz.drew.cell? ⟨w2.heap.size, 1, none⟩ = some (.int .i64 fl) ∧ wz.drew.cell? ⟨w2.heap.size, 2, none⟩ = some (.string tr) ∧ wz.drew.cell? ⟨w2.heap.size, 3, none⟩ = some (.int .i64 (ts - 1)) ∧ wz.drew.cell? ⟨w2.heap.size, 4, none⟩ = some (.int .i64 sz) ∧ wz.drew.cell? ⟨w2.heap.size, 5, none⟩ = some (.string gt) := ⟨p0, q0, q1, q2, q3, q4, q5⟩
        go_region_held3 (fun w' => w'.cell? ⟨q, 0, none⟩ = some (.pointer (some ⟨b, 0, none⟩)) ∧ w'.cell? ⟨w2.heap.size, 0, none⟩ = some (.string gd) ∧ w'.cell? ⟨w2.heap.size, 1, none⟩ = some (.int .i64 fl) ∧ w'.cell? ⟨w2.heap.size, 2, none⟩ = some (.string tr) ∧ w'.cell? ⟨w2.heap.size, 3, none⟩ = some (.int .i64 (ts - 1)) ∧ w'.cell? ⟨w2.heap.size, 4, none⟩ = some (.int .i64 sz) ∧ w'.cell? ⟨w2.heap.size, 5, none⟩ = some (.string gt)) ((first | with_reducible exact hT0 | with_reducible exact hT4))
          (first | (go_at_call 29; refine (HS _ hbZ).mono ?_; rintro en w4 ⟨rfl, hc4, ho4⟩; have hq4 := ho4.heap (w := wz.drew) hqB nbq; have hN4 := ho4.heap (w := wz.drew) hN' nN; have hJ4 := ho4.heap (w := wz.drew) hJB nJ; obtain ⟨u0, u1, uf⟩ := dev_cells hq4; obtain ⟨v0, v1, v2, v3, v4, v5, vf⟩ := held_cells hN4; have hT4 : w4.cell? ⟨q, 0, none⟩ = some (.pointer (some ⟨b, 0, none⟩)) ∧ w4.cell? ⟨w2.heap.size, 0, none⟩ = some (.string gd) ∧ w4.cell? ⟨w2.heap.size, 1, none⟩ = some (.int .i64 fl) ∧ w4.cell? ⟨w2.heap.size, 2, none⟩ = some (.string tr) ∧ w4.cell? ⟨w2.heap.size, 3, none⟩ = some (.int .i64 (ts - 1)) ∧ w4.cell? ⟨w2.heap.size, 4, none⟩ = some (.int .i64 sz) ∧ w4.cell? ⟨w2.heap.size, 5, none⟩ = some (.string gt) := ⟨u0, v0, v1, v2, v3, v4, v5⟩; simp only at v0 v1 v2 v3 v4 v5))
        all_goals go_wp2_with fail
        all_goals
          have hL := (Left.chip1 hc4 hq4 ((Only.of_below _ hbZ).trans ho4)).put 2
          have hJq := (heap_setCell_ne w4 q w.heap.size 1 (.int .i64 2) nqJ).trans hJ4
          refine (HJ _).mono ?_
          rintro en w3 ⟨rfl, hb3⟩
          obtain ⟨r0, r1, r2, r3, rf⟩ := jump_cells (below_heap hb3 hJq)
          go_wp2
          refine bodyPost_ret (v := .agg #[.bool true, .int .i64 la, .int .i64 lc, .string ld]) (by simp [results, Tryd.results26, go_sem, r0, r1, r2, r3]) rfl ⟨by rw [HE.out], ?_⟩
          rw [HF.out]
          exact (hL.then hb3).jump (Nat.le_refl _) lb lg lq _ _ _ _
      · have HF : Hid (bootM c run = (c.prims (saveOps c.cells ⟨x.good, x.floor, ⟨#[]⟩, x.tries, x.size, x.got⟩), 1, false, x.good)) := by unfold bootM Hid; rw [hl]; simp only; rw [if_neg (fun e => h0 e.2), if_pos ht]; rfl
        have hok2 : HeldS.ok ⟨x.good, x.floor, ⟨#[]⟩, x.tries, x.size, x.got⟩ := ok_gone hx ht h0
        have hig := hx.img
        have HJ0 := fun wx => jump_ok wx x.good false (by omega) hig.2.1
        obtain ⟨la, lc, ld, hlo⟩ : ∃ la lc ld, loadedB x.good = (la, lc, ld) := ⟨_, _, _, rfl⟩
        have HE : Hid (jumpV (bootM c run).2.2.1 (bootM c run).2.2.2 = #[.bool false, .int .i64 la, .int .i64 lc, .string ld]) := by rw [HF.out, Hid]; unfold jumpV; simp only [hlo]
        have HJ : ∀ wx, Calls Tryd.prog 51 #[.string x.good, .bool false] wx fun e w' => e = .returned (.agg #[.bool false, .int .i64 la, .int .i64 lc, .string ld]) ∧ Below wx.heap.size wx w' := by
          intro wx; have := HJ0 wx; unfold jumpV at this; rw [hlo] at this; exact this
        clear hlo HJ0
        have HS := fun wx (hb : Below w.heap.size w wx) => save_held wx b g c _ hok2 (by omega) (h.below hb)
        obtain ⟨gd, fl, tr, ts, sz, gt⟩ := x
        simp only [loadOut, HeldS.v] at *
        clear hl hok hx hf hok2 hig
        go_enter Tryd.func26, Tryd.ntmps26
        go_wp2_with (go_at_call 28; refine (HL _ (hb1 _)).mono ?_; rintro en w2 ⟨rfl, hb2⟩; have hB := below_heap hb2 (heap_alloc_new w _); have hbw := (hb1 _).trans (hb2.mono (by simp)))
        have hbA := hbw.alloc hbw.size (.cells (HeldS.cs ⟨gd, fl, ⟨#[]⟩, ts, sz, gt⟩) 72)
        have hqB := alloc_heap (below_heap hbw hq) (.cells (HeldS.cs ⟨gd, fl, ⟨#[]⟩, ts, sz, gt⟩) 72)
        have hJB := alloc_heap hB (.cells (HeldS.cs ⟨gd, fl, ⟨#[]⟩, ts, sz, gt⟩) 72)
        have hN := heap_alloc_new w2 (.cells (HeldS.cs ⟨gd, fl, ⟨#[]⟩, ts, sz, gt⟩) 72)
        simp only [HeldS.cs] at hbA hqB hJB hN
        generalize w2.alloc (.cells #[.string gd, .int .i64 fl, .string ⟨#[]⟩, .int .i64 ts, .int .i64 sz, .string gt] 72) = wz at *
        have hN' : wz.heap[w2.heap.size]? = some (.cells (HeldS.cs ⟨gd, fl, ⟨#[]⟩, ts, sz, gt⟩) 72 (0, 0)) := hN
        clear hN
        obtain ⟨p0, p1, pf⟩ := dev_cells (w := wz.drew) hqB
        obtain ⟨q0, q1, q2, q3, q4, q5, qf⟩ := held_cells (w := wz.drew) hN'
        simp only at q0 q1 q2 q3 q4 q5
        have hbZ := hbA.drew
        have hw2 : w.heap.size < w2.heap.size := Nat.lt_of_lt_of_le (by simp) hb2.size
        have nN : ¬ (w2.heap.size = b ∨ w2.heap.size = g) := by omega
        have nJ : ¬ (w.heap.size = b ∨ w.heap.size = g) := by omega
        have nqN : ¬ w2.heap.size = q := by omega
        have nqJ : w.heap.size ≠ q := by omega
        have hT0 : wz.drew.cell? ⟨q, 0, none⟩ = some (.pointer (some ⟨b, 0, none⟩)) ∧ wz.drew.cell? ⟨w2.heap.size, 0, none⟩ = some (.string gd) ∧ wz.drew.cell? ⟨w2.heap.size, 1, none⟩ = some (.int .i64 fl) ∧ wz.drew.cell? ⟨w2.heap.size, 2, none⟩ = some (.string ⟨#[]⟩) ∧ wz.drew.cell? ⟨w2.heap.size, 3, none⟩ = some (.int .i64 (ts)) ∧ wz.drew.cell? ⟨w2.heap.size, 4, none⟩ = some (.int .i64 sz) ∧ wz.drew.cell? ⟨w2.heap.size, 5, none⟩ = some (.string gt) := ⟨p0, q0, q1, q2, q3, q4, q5⟩
        go_region_held3 (fun w' => w'.cell? ⟨q, 0, none⟩ = some (.pointer (some ⟨b, 0, none⟩)) ∧ w'.cell? ⟨w2.heap.size, 0, none⟩ = some (.string gd) ∧ w'.cell? ⟨w2.heap.size, 1, none⟩ = some (.int .i64 fl) ∧ w'.cell? ⟨w2.heap.size, 2, none⟩ = some (.string ⟨#[]⟩) ∧ w'.cell? ⟨w2.heap.size, 3, none⟩ = some (.int .i64 (ts)) ∧ w'.cell? ⟨w2.heap.size, 4, none⟩ = some (.int .i64 sz) ∧ w'.cell? ⟨w2.heap.size, 5, none⟩ = some (.string gt)) ((first | with_reducible exact hT0 | with_reducible exact hT4))
          (first | (go_at_call 29; refine (HS _ hbZ).mono ?_; rintro en w4 ⟨rfl, hc4, ho4⟩; have hq4 := ho4.heap (w := wz.drew) hqB nbq; have hN4 := ho4.heap (w := wz.drew) hN' nN; have hJ4 := ho4.heap (w := wz.drew) hJB nJ; obtain ⟨u0, u1, uf⟩ := dev_cells hq4; obtain ⟨v0, v1, v2, v3, v4, v5, vf⟩ := held_cells hN4; have hT4 : w4.cell? ⟨q, 0, none⟩ = some (.pointer (some ⟨b, 0, none⟩)) ∧ w4.cell? ⟨w2.heap.size, 0, none⟩ = some (.string gd) ∧ w4.cell? ⟨w2.heap.size, 1, none⟩ = some (.int .i64 fl) ∧ w4.cell? ⟨w2.heap.size, 2, none⟩ = some (.string ⟨#[]⟩) ∧ w4.cell? ⟨w2.heap.size, 3, none⟩ = some (.int .i64 (ts)) ∧ w4.cell? ⟨w2.heap.size, 4, none⟩ = some (.int .i64 sz) ∧ w4.cell? ⟨w2.heap.size, 5, none⟩ = some (.string gt) := ⟨u0, v0, v1, v2, v3, v4, v5⟩; simp only at v0 v1 v2 v3 v4 v5))
        all_goals go_wp2_with fail
        all_goals
          have hL := (Left.chip1 hc4 hq4 ((Only.of_below _ hbZ).trans ho4)).put 1
          have hJq := (heap_setCell_ne w4 q w.heap.size 1 (.int .i64 1) nqJ).trans hJ4
          refine (HJ _).mono ?_
          rintro en w3 ⟨rfl, hb3⟩
          obtain ⟨r0, r1, r2, r3, rf⟩ := jump_cells (below_heap hb3 hJq)
          go_wp2
          refine bodyPost_ret (v := .agg #[.bool false, .int .i64 la, .int .i64 lc, .string ld]) (by simp [results, Tryd.results26, go_sem, r0, r1, r2, r3]) rfl ⟨by rw [HE.out], ?_⟩
          rw [HF.out]
          exact (hL.then hb3).jump (Nat.le_refl _) lb lg lq _ _ _ _
end Go.Proofs.YtcokahccbjdeaaaDoor
