import Derived.Test.YtcokahccbjdeaaaDoorStV
import Derived.Test.YtcokahccbjdeaaaDoorStW
import Derived.Test.YtcokahccbjdeaaaDoorStX
namespace Go.Proofs.YtcokahccbjdeaaaDoor
open Go.RowKit

theorem calls_any (w : World) (B k b g m : Nat) (c : ChipS) (d : Option Nat) (run : Int) (r : RefS) (o : OpS) (D : Desk B w k b g m c d run r) (hops : c.ops < 4611686018427370000) (hk : o.kind = 2 ∨ (o.kind = 3 ∨ o.kind = 4 ∨ o.kind = 5) ∧ ∃ q, d = some q) (hok : ∀ x, loadM c.cells = some x → x.ok) (hs : o.s.size < 4611686018427387904) :
    Calls Tryd.prog 40 #[.pointer (some ⟨k, 0, none⟩), o.v] w fun e w' => e = .returned (.tuple #[.int .i64 (opDev c o).2, .agg noJump]) ∧ ChipAt w' b g (opDev c o).1 ∧ Only (fun x => x = b ∨ x = g) w w' := by
  obtain ⟨kd, n, ct, s, tn, wh⟩ := o
  rcases hk with rfl | ⟨hk, q, hq⟩
  · exact calls_format w B k b g m c d run r n ct s tn wh D hops hs
  · rcases hk with rfl | rfl | rfl
    · exact calls_stage w B k b g m c d run r n ct s tn wh D hops q hq hok
    · exact calls_write w B k b g m c d run r n ct s tn wh D hops q hq hok hs
    · exact calls_activate w B k b g m c d run r n ct s tn wh D hops q hq hok
theorem fitsOp {c : ChipS} {r : RefS} {o : OpS} (h : Rel c r) (hk : o.kind = 2 ∨ (o.kind = 3 ∨ o.kind = 4 ∨ o.kind = 5) ∧ r.made = true) : Fits c (opDev c o) (opRef r o) := by
  obtain ⟨kd, n, ct, s, tn, wh⟩ := o
  rcases hk with rfl | ⟨hk, hm⟩
  · exact h.format s
  · rcases hk with rfl | rfl | rfl
    · exact h.stage hm n
    · exact h.write hm s
    · exact h.activate hm
/-- What is made stays made; a device's answer leaves it at that. -/
theorem ref_made {r : RefS} {o : OpS} (hk : o.kind = 2 ∨ o.kind = 3 ∨ o.kind = 4 ∨ o.kind = 5) (h : r.made = true) : (opRef r o).1.made = true := by
  obtain ⟨kd, n, ct, s, tn, wh⟩ := o
  rcases hk with rfl | rfl | rfl | rfl
  · show (r.format s).1.made = true
    unfold RefS.format; rw [h]; exact h
  · show (r.stage n).1.made = true
    unfold RefS.stage; (repeat' split) <;> exact h
  · show (r.write s).1.made = true
    unfold RefS.write; (repeat' split) <;> exact h
  · show r.activate.1.made = true
    unfold RefS.activate; (repeat' split) <;> exact h
theorem ref_unmade {r : RefS} {o : OpS} (hk : o.kind = 2) (h : (opRef r o).1.made = false) : (opRef r o).1 = r := by
  obtain ⟨kd, n, ct, s, tn, wh⟩ := o
  simp only at hk
  subst hk
  change (r.format s).1.made = false at h
  show (r.format s).1 = r
  unfold RefS.format at *
  cases hm : r.made
  · rw [hm] at h
    simp only [Bool.false_eq_true, if_false] at *
    split at h
    · rename_i hv; rw [if_pos hv]
    · cases h
  · simp
/-- What runs: nothing, where no device was made; the image on trial, only if there is one. -/
structure Runs (run : Int) (r : RefS) : Prop where
  no : r.made = false → run = 0
  two : run = 2 → r.h.trial.size ≠ 0
structure Inv (B N : Nat) (w : World) (k b g m : Nat) (c : ChipS) (d : Option Nat) (run : Int) (r : RefS) : Prop where
  D : Desk B w k b g m c d run r
  rel : Rel c r
  dm : d.isSome = true → r.made = true
  ops : c.ops ≤ N
  hg : r.h.got.size ≤ 1048576
  runs : Runs run r
/-- Taking an image leaves what runs as it is, and where the one on trial runs all is as it was. -/
theorem Runs.keep {c : ChipS} {run : Int} {r : RefS} {o : OpS} (h : Runs run r) (hr : Rel c r) (hk : o.kind = 2 ∨ o.kind = 3 ∨ o.kind = 4 ∨ o.kind = 5) : Runs run (opRef r o).1 := by
  by_cases h2 : run = 2
  · have ht := h.two h2
    have hm : r.made = true := by
      cases e : r.made
      · have := h.no e; omega
      · rfl
    have hok := (hr.yes hm).2
    have hz : r.h.size = 0 := by
      have := hok.sz
      by_cases hp : 0 < r.h.size
      · exact absurd (hok.a hp) ht
      · omega
    have e : (opRef r o).1 = r := by
      obtain ⟨kd, n, ct, s, tn, wh⟩ := o
      simp only at hk
      rcases hk with rfl | rfl | rfl | rfl
      · show (r.format s).1 = r
        unfold RefS.format; rw [hm]; rfl
      · show (r.stage n).1 = r
        unfold RefS.stage
        by_cases hh : n < 1 ∨ 120 < n
        · rw [if_pos hh]
        · rw [if_neg hh, if_pos ht]
      · show (r.write s).1 = r
        unfold RefS.write; rw [if_pos hz]
      · show r.activate.1 = r
        unfold RefS.activate; rw [if_pos hz]
    rw [e]; exact h
  · refine ⟨fun hm => ?_, fun e => absurd e h2⟩
    cases e : r.made
    · exact h.no e
    · rw [ref_made hk e] at hm; cases hm
def Good (B N : Nat) (w : World) (k : Nat) : Prop := ∃ b g m c d run r, Inv B N w k b g m c d run r
theorem Rel.hok {c : ChipS} {r : RefS} (h : Rel c r) : ∀ x, loadM c.cells = some x → x.ok := by
  intro x hx
  cases hm : r.made
  · rw [h.no hm] at hx; cases hx
  · obtain ⟨h1, h2⟩ := h.yes hm
    rw [h1] at hx
    simp only [Option.some.injEq] at hx
    rw [← hx]; exact h2
theorem Desk.fin1 {B : Nat} {w wS : World} {k b g m : Nat} {c : ChipS} {d d' : Option Nat} {run run' : Int} {r r' : RefS} (D : Desk B w k b g m c d run r) (A' : Obj) (hon : Only (fun x => x = k) w wS)
    (hk : wS.heap[k]? = some (.cells (deskC b d' run' w.heap.size) 86 (0, 0))) (hs : wS.heap.size = w.heap.size) (hA : A' = .cells r'.cs 83 (0, 0)) (hd : ∀ q, d' = some q → w.heap[q]? = some (.cells (devC b run') 76 (0, 0)) ∧ B ≤ q) :
    Desk B (wS.alloc A') k b g w.heap.size c d' run' r' ∧ Fr B w (wS.alloc A') := by
  have hon2 := hon.alloc A'
  have hnew : (wS.alloc A').heap[w.heap.size]? = some A' := by rw [← hs]; exact heap_alloc_new wS A'
  refine ⟨D.set (alloc_heap hk A') hon2 (by rw [hnew, hA]) D.size (fun q hq => ⟨hon2.heap (hd q hq).1 (ne_of_heap (hd q hq).1 D.hk (by decide)), (hd q hq).2⟩), D.onlyK hon2⟩
theorem desk_put2 {w : World} {k b m m' : Nat} {d : Option Nat} {run : Int} (h : w.heap[k]? = some (.cells (deskC b d run m) 86 (0, 0))) (run' : Int) :
    ((w.setCell ⟨k, 3, none⟩ (.slice (some ⟨m', 0, none⟩) 1 1)).setCell ⟨k, 2, none⟩ (.int .i64 run')).heap[k]? = some (.cells (deskC b d run' m') 86 (0, 0)) := by
  rw [heap_setCell_at _ _ _ _ _ _ _ (heap_setCell_at _ _ _ _ _ _ _ h)]
  rfl
theorem desk_put4 {w : World} {k b m m' : Nat} {d : Option Nat} {run : Int} (h : w.heap[k]? = some (.cells (deskC b d run m) 86 (0, 0))) (run' : Int) :
    (((w.setCell ⟨k, 3, none⟩ (.slice (some ⟨m', 0, none⟩) 1 1)).setCell ⟨k, 2, none⟩ (.int .i64 run')).setCell ⟨k, 1, none⟩ (.pointer none)).heap[k]? = some (.cells (deskC b none run' m') 86 (0, 0)) := by
  rw [heap_setCell_at _ _ _ _ _ _ _ (desk_put2 h run')]
  rfl
end Go.Proofs.YtcokahccbjdeaaaDoor
